import PyProof.Rows.All
import Wide.All
import OpenK.AllK
import Wide.FinOn
import HandS.ForMost
import HandS.Exc
import HandS.TryOnly
import HandS.ExcOwn
import HandS.WordsExc
import HandS.ExcInit
import HandS.ExcField
import HandS.IsInst
import HandS.Walk
import HandS.Conv
import HandS.Wide
import HandS.TryMany
import HandS.CallSlots
import HandS.Flow
import HandS.Deep
import HandS.Star
import HandS.MethStar
import HandS.ExcIs
import HandS.Rev
import HandS.More
import KE.GoesEnum
import KE.GoesMore
import HandS.ListEq
import HandS.DictEq
import HandS.DeepEq
import HandS.OwnEq
import HandS.Codes
import KE.KExcIs
import HandS.TupAny
import KE.KRevSl
import HandS.Text
import HandS.Dict
import PyProof.P3In
import PyProof.InstEq
import PySem.Challenge.RW_dimmerlog_k11_prefixes_of_nodes
set_option Elab.async false
set_option linter.all false
set_option maxRecDepth 100000
set_option maxHeartbeats 4000000
namespace Dl
open PySem L2
def top (i : Nat) : Stmt := PySem.Challenge.pw_dimmerlog_k11_prefixes_of_nodes.main.body.getD i (.Pass ⟨0, 0, 0, 0⟩)
abbrev sWall : Stmt := top 0
abbrev sLeafInit : Stmt := inClass (top 3) 1
abbrev sLeafLeaves : Stmt := inClass (top 3) 2
abbrev sLeafMany : Stmt := inClass (top 3) 3
abbrev sLeafShape : Stmt := inClass (top 3) 4
abbrev sLeafText : Stmt := inClass (top 3) 5
abbrev sLeafBegins : Stmt := inClass (top 3) 6
abbrev sBranchInit : Stmt := inClass (top 4) 0
abbrev sGroupLeaves : Stmt := inClass (top 5) 1
abbrev sGroupMany : Stmt := inClass (top 5) 2
abbrev sGroupShape : Stmt := inClass (top 5) 3
abbrev sGroupText : Stmt := inClass (top 5) 4
abbrev sGroupBegins : Stmt := inClass (top 5) 5
abbrev sRowLeaves : Stmt := inClass (top 6) 1
abbrev sRowMany : Stmt := inClass (top 6) 2
abbrev sRowShape : Stmt := inClass (top 6) 3
abbrev sRowText : Stmt := inClass (top 6) 4
abbrev sRowBegins : Stmt := inClass (top 6) 5
abbrev sLeavesOf : Stmt := top 7
abbrev sPartsAsNamed : Stmt := top 8
abbrev sBeginInTurn : Stmt := top 9
abbrev sBag : Stmt := top 11
abbrev sTake : Stmt := top 12
abbrev sLawIs : Stmt := top 13
abbrev sLawName : Stmt := top 14
abbrev sLawNames : Stmt := top 15
abbrev sLawShape : Stmt := top 16
abbrev sLawNode : Stmt := top 17
abbrev sLawWays : Stmt := top 18
abbrev sLawExpand : Stmt := top 19
abbrev sLaw : Stmt := top 20
end Dl

/-! The bag of draws: _law_bag, _law_take. -/
namespace Dl
open PySem L2

/-! ### the mathematics of the bag -/
structure BagOk (L : List Int) : Prop where
  ex : ∃ (s d : Int) (r : List Int), L = s :: d :: r ∧ 0 ≤ s ∧ s < 2147483647 ∧ 0 ≤ d ∧ ∀ x ∈ r, 0 ≤ x
theorem BagOk.put0 {d : Int} {r : List Int} (x : Int) (hd : 0 ≤ d) (hr : ∀ x ∈ r, 0 ≤ x) : BagOk (x % 2147483647 :: d :: r) :=
  ⟨_, _, _, rfl, Int.emod_nonneg _ (by decide), Int.emod_lt_of_pos _ (by decide), hd, hr⟩

/-- the names that the two defs read -/
structure TxtB (mg : Str → Option Value) : Prop where
  len : mg "len" = none
  int : mg "int" = none
  abs : mg "abs" = none

def spTake : Sp := fun vs H Q _ => ∃ (b : Addr) (L : List Int) (n : Int), vs = [.ref b, .int n] ∧ H b = some (.lst (L.map V.int)) ∧ BagOk L ∧ 1 ≤ n ∧ n < 1000000 ∧
  ∀ (L' : List Int) (r : Int), BagOk L' → 0 ≤ r → r < n → Q (.int r) (upd H b (.lst (L'.map V.int)))
section
variable {P : Program} {w : World} {K : PySem.W.Frag} {mg : Str → Option Value} {base : Heap}
theorem scTake : FnScope ["_law_bag_here", "_law_size", "_law_cell", "_law_digit"] ["_law_bag_here", "_law_size"] (defScope sTake) := ⟨rfl, rfl, rfl, by decide +kernel, rfl, by decide +kernel, by decide +kernel⟩
theorem upd_upd {H : Hp} {a : Addr} {o u : HO} : upd (upd H a o) a u = upd H a u := by
  funext b
  by_cases h : b = a
  · subst h; rw [upd_same, upd_same]
  · rw [upd_ne h, upd_ne h, upd_ne h]
theorem upd_id {H : Hp} {a : Addr} {o : HO} (h : H a = some o) : upd H a o = H := by
  funext b
  by_cases e : b = a
  · subst e; rw [upd_same, h]
  · rw [upd_ne e]
theorem ix_at {n j : Nat} (h : j < n) : ixN n (j : Int) = some j := by
  unfold ixN
  rw [if_pos (by omega), if_pos (by omega)]; simp
theorem ok_take {f : Addr} {fd : FuncData} (F : Fun K "_law_take" "_law_take" sTake f fd) (T : TxtB mg) : FnOk P w K mg base CX0 1 f fd ["_law_bag_here", "_law_size"] spTake := by
  refine F.ok scTake (fun vs H Q E h => ?_) (fun cdv A outer s H vs Q E hr h => ?_)
  · obtain ⟨b, L, n, rfl, _⟩ := h
    rfl
  · obtain ⟨b, L, n, rfl, hb, ⟨z, d, r, rfl, hz0, hz1, hd0, hr0⟩, hn1, hn2, k⟩ := h
    refine ⟨_, pss_cons (ps_if (PW.pt (pw_and (pt_cmpR op_eq (pe_ix ix_list (pv 0) pe_int (fun _ _ => rfl)) pe_int (nomark _)) (pw_and1 (pt_cmpR op_gt (pe_callB call_len_seq (by rfl) T.len PySem.boot_len (pa_cons (pv 0) pa_nil)) pe_int (nomark _)))))
        (pss_cons (ps_set (i := 2) scTake.nd rfl (Or.inl rfl) (pe_bm PySem.F.plainAttrs_list PySem.F.slot_list_pop PySem.F.type_list_pop mt_popAt (pv 0) (pa_cons pe_int pa_nil)))
        (pss_one (ps_if (pt_cmpR op_ge (pv 2) (pe_op op_pow pe_int pe_int) (nomark _))
          (pss_one (ps_asg (pv 2) (pg_sub (pv 0) pe_int set_list)))
          (pss_cons (ps_asg (pe_op op_mod (pe_callTy call_int1 (by rfl) T.int (by decide +kernel) (pa_cons (pe_op op_add (pe_op op_add (pe_op op_mul (pe_ix ix_list (pv 0) pe_int (fun _ _ => rfl)) pe_int) (pe_op op_mul (pv 2) pe_int)) pe_int) pa_nil)) pe_int) (pg_sub (pv 0) pe_int set_list))
          (pss_one (ps_ret (pe_op op_mod (pe_callTy call_int1 (by rfl) T.int (by decide +kernel) (pa_cons (pe_op op_fdiv (pe_op op_add (pe_op op_mul (pe_ix ix_list (pv 0) pe_int (fun _ _ => rfl)) pe_int) pe_int) pe_int) pa_nil)) (pv 1))))))))
        pss_nil)
      (pss_cons (ps_if (pt_cmpR op_gt (pe_ix ix_list (pv 0) pe_int (fun _ _ => rfl)) pe_int (nomark _))
        (pss_cons (ps_set (i := 3) scTake.nd rfl (Or.inl rfl) (pe_op op_mod (pe_callTy call_int1 (by rfl) T.int (by decide +kernel) (pa_cons (pe_ix ix_list (pv 0) pe_int (fun _ _ => rfl)) pa_nil)) (pv 1)))
        (pss_cons (ps_asg (pe_op op_fdivW (pe_ix ix_list (pv 0) pe_int (fun _ _ => rfl)) (pv 1)) (pg_sub (pv 0) pe_int set_list))
        (pss_one (ps_ret (pv 3)))))
        pss_nil)
      (pss_cons (ps_asg (pe_op op_mod (pe_callTy call_int1 (by rfl) T.int (by decide +kernel) (pa_cons (pe_op op_mul (pe_ix ix_list (pv 0) pe_int (fun _ _ => rfl)) pe_int) pa_nil)) pe_int) (pg_sub (pv 0) pe_int set_list))
      (pss_one (ps_ret (pe_op op_mod (pe_callTy call_int1 (by rfl) T.int (by decide +kernel) (pa_cons (pe_op op_fdiv (pe_ix ix_list (pv 0) pe_int (fun _ _ => rfl)) pe_int) pa_nil)) (pv 1)))))), ?_⟩
    -- bag[1] == 0 and len(bag) > 2
    refine ⟨_, rfl, b, _, _, _, rfl, rfl, SqL.of hb, (atI_nat (j := 1) rfl), rfl, _, rfl, ?_⟩
    refine ite2 (fun e => ?_) (fun e => ?_)
    · refine ⟨_, rfl, b, _, rfl, .inl (SqL.of hb), _, _, rfl, rfl, _, rfl, ?_⟩
      refine ite2 (fun e2 => ?_) (fun e2 => ?_)
      · -- cell = bag.pop(2)
        have hl : 2 < (z :: d :: r).length := by
          have q := of_decide_eq_true e2
          have q2 : ((2 : Int) < (((z :: d :: r).map V.int).length : Nat)) := q
          rw [List.length_map] at q2
          omega
        match r, hr0, hb, k, hl with
        | [], _, _, _, hl => exact absurd hl (by simp)
        | c :: r, hr0, hb, k, _ =>
        have hc0 : 0 ≤ c := hr0 c (List.mem_cons_self ..)
        have hr1 : ∀ x ∈ r, 0 ≤ x := fun x hx => hr0 x (List.mem_cons_of_mem _ hx)
        have hsq : seqIndex? (2 : Int) ((z :: d :: c :: r).map V.int).length = some 2 := by
          have q : ((z :: d :: c :: r).map V.int).length = r.length + 3 := by simp
          rw [q]
          unfold seqIndex?
          simp
          omega
        refine ⟨_, rfl, .inl ⟨rfl, _, SqL.of hb⟩, b, _, 2, 2, _, rfl, rfl, hb, by decide, by decide, hsq, rfl, ?_⟩
        refine ⟨_, rfl, _, _, rfl, rfl, ⟨by decide, by decide, by decide⟩, _, _, rfl, rfl, _, rfl, ?_⟩
        refine ite2 (fun e4 => ?_) (fun e4 => ?_)
        · refine ⟨_, rfl, _, rfl, b, _, _, 1, rfl, rfl, upd_same, ix_at (j := 1) (by simp), ?_⟩
          have hd1 : 0 ≤ c := hc0
          have hz1' := hz0
          have hz1'' := hz1
          have k1 : ∀ (L' : List Int) (x : Int), BagOk L' → 0 ≤ x → x < n → Q (.int x) (upd (upd (upd H b (HO.lst ((z :: d :: r).map V.int))) b (HO.lst ((z :: c :: r).map V.int))) b (.lst (L'.map V.int))) := fun L' x h1 h2 h3 => by
            rw [upd_upd, upd_upd]
            exact k L' x h1 h2 h3
          have hb1 : (upd (upd H b (HO.lst ((z :: d :: r).map V.int))) b (HO.lst ((z :: c :: r).map V.int))) b = some (.lst ((z :: c :: r).map V.int)) := upd_same
          refine ⟨_, rfl, b, _, _, _, rfl, rfl, SqL.of hb1, (atI_nat (j := 1) rfl), _, _, rfl, rfl, _, rfl, ?_⟩
          refine ite2 (fun e3 => ?_) (fun e3 => ?_)
          · refine ⟨_, rfl, b, _, _, _, rfl, rfl, SqL.of hb1, (atI_nat (j := 1) rfl), .inl ⟨_, rfl, ?_⟩⟩
            refine ⟨_, rfl, _, _, rfl, rfl, (by show (0 : Int) < n; omega), ?_⟩
            refine ⟨_, rfl, b, _, _, _, rfl, rfl, SqL.of hb1, (atI_nat (j := 1) rfl), _, rfl, _, _, rfl, rfl, wide_div (b := 20) (by show (0 : Int) < n; omega) (by show n.natAbs < 2 ^ 20; omega) (by decide) (by decide), ?_⟩
            refine ⟨_, rfl, b, _, _, 1, rfl, rfl, hb1, ix_at (j := 1) (by simp), ?_⟩
            refine ⟨_, rfl, ?_⟩
            exact k1 (z :: (c / n) :: r) _ ⟨_, _, _, rfl, hz1', hz1'', Int.ediv_nonneg hd1 (by omega), hr1⟩ (Int.emod_nonneg _ (by omega)) (Int.emod_lt_of_pos _ (by omega))
          · refine ⟨_, rfl, b, _, _, _, rfl, rfl, SqL.of hb1, (atI_nat (j := 0) rfl), _, _, rfl, rfl, .inl ⟨by show -(2 ^ 64) < z; omega, by show z < 2 ^ 64; omega⟩, .inl ⟨_, rfl, ?_⟩⟩
            refine ⟨_, _, rfl, rfl, (by show (0 : Int) < 2147483647; decide), ?_⟩
            refine ⟨_, rfl, b, _, _, 0, rfl, rfl, hb1, ix_at (j := 0) (by simp), ?_⟩
            refine ⟨_, rfl, b, _, _, _, rfl, rfl, SqL.of upd_same, (atI_nat (j := 0) rfl), _, _, rfl, rfl, ⟨by decide, by decide⟩, .inl ⟨_, rfl, ?_⟩⟩
            refine ⟨_, rfl, _, _, rfl, rfl, (by show (0 : Int) < n; omega), ?_⟩
            exact k1 (z * 48271 % 2147483647 :: c :: r) _ (BagOk.put0 _ hd1 hr1) (Int.emod_nonneg _ (by omega)) (Int.emod_lt_of_pos _ (by omega))
        · have hc1 : c < 10 ^ 18 := by
            have q := of_decide_eq_false (p := ((10 : Int) ^ (18 : Int).toNat ≤ c)) (by simpa using e4)
            have q2 : (10 : Int) ^ (18 : Int).toNat = 1000000000000000000 := by decide
            omega
          refine ⟨_, rfl, b, _, _, _, rfl, rfl, SqL.of upd_same, (atI_nat (j := 0) rfl), _, _, rfl, rfl, .inl ⟨by show -(2 ^ 64) < z; omega, by show z < 2 ^ 64; omega⟩, ?_⟩
          refine ⟨_, rfl, _, _, rfl, rfl, .inl ⟨by show -(2 ^ 64) < c; omega, by show c < 2 ^ 64; omega⟩, _, _, rfl, rfl, _, _, rfl, rfl, .inl ⟨_, rfl, ?_⟩⟩
          refine ⟨_, _, rfl, rfl, (by show (0 : Int) < 2147483647; decide), ?_⟩
          refine ⟨_, rfl, b, _, _, 0, rfl, rfl, upd_same, ix_at (j := 0) (by simp), ?_⟩
          refine ⟨_, rfl, b, _, _, _, rfl, rfl, SqL.of upd_same, (atI_nat (j := 0) rfl), _, _, rfl, rfl, .inl ⟨?_, ?_⟩, _, _, rfl, rfl, _, _, rfl, rfl, ⟨by decide, by decide⟩, .inl ⟨_, rfl, ?_⟩⟩
          · have q := Int.emod_nonneg (z * 48271 + c * 69621 + 11) (show (2147483647 : Int) ≠ 0 by decide)
            show -(2 ^ 64) < (z * 48271 + c * 69621 + 11) % 2147483647
            omega
          · have q := Int.emod_lt_of_pos (z * 48271 + c * 69621 + 11) (show (0 : Int) < 2147483647 by decide)
            show (z * 48271 + c * 69621 + 11) % 2147483647 < 2 ^ 64
            omega
          refine ⟨_, rfl, _, _, rfl, rfl, (by show (0 : Int) < n; omega), ?_⟩
          have q := k ((z * 48271 + c * 69621 + 11) % 2147483647 :: d :: r) _ (BagOk.put0 _ hd0 hr1) (Int.emod_nonneg (((z * 48271 + c * 69621 + 11) % 2147483647 * 16807 + 7919) / 16) (show n ≠ 0 by omega)) (Int.emod_lt_of_pos _ (by omega))
          rw [← upd_upd] at q
          exact q
      · have hb1 := hb
        have k1 := k
        have hz1' := hz0
        have hz1'' := hz1
        have hd1 := hd0
        have hr1 := hr0
        refine ⟨_, rfl, b, _, _, _, rfl, rfl, SqL.of hb1, (atI_nat (j := 1) rfl), _, _, rfl, rfl, _, rfl, ?_⟩
        refine ite2 (fun e3 => ?_) (fun e3 => ?_)
        · refine ⟨_, rfl, b, _, _, _, rfl, rfl, SqL.of hb1, (atI_nat (j := 1) rfl), .inl ⟨_, rfl, ?_⟩⟩
          refine ⟨_, rfl, _, _, rfl, rfl, (by show (0 : Int) < n; omega), ?_⟩
          refine ⟨_, rfl, b, _, _, _, rfl, rfl, SqL.of hb1, (atI_nat (j := 1) rfl), _, rfl, _, _, rfl, rfl, wide_div (b := 20) (by show (0 : Int) < n; omega) (by show n.natAbs < 2 ^ 20; omega) (by decide) (by decide), ?_⟩
          refine ⟨_, rfl, b, _, _, 1, rfl, rfl, hb1, ix_at (j := 1) (by simp), ?_⟩
          refine ⟨_, rfl, ?_⟩
          exact k1 (z :: (d / n) :: r) _ ⟨_, _, _, rfl, hz1', hz1'', Int.ediv_nonneg hd1 (by omega), hr1⟩ (Int.emod_nonneg _ (by omega)) (Int.emod_lt_of_pos _ (by omega))
        · refine ⟨_, rfl, b, _, _, _, rfl, rfl, SqL.of hb1, (atI_nat (j := 0) rfl), _, _, rfl, rfl, .inl ⟨by show -(2 ^ 64) < z; omega, by show z < 2 ^ 64; omega⟩, .inl ⟨_, rfl, ?_⟩⟩
          refine ⟨_, _, rfl, rfl, (by show (0 : Int) < 2147483647; decide), ?_⟩
          refine ⟨_, rfl, b, _, _, 0, rfl, rfl, hb1, ix_at (j := 0) (by simp), ?_⟩
          refine ⟨_, rfl, b, _, _, _, rfl, rfl, SqL.of upd_same, (atI_nat (j := 0) rfl), _, _, rfl, rfl, ⟨by decide, by decide⟩, .inl ⟨_, rfl, ?_⟩⟩
          refine ⟨_, rfl, _, _, rfl, rfl, (by show (0 : Int) < n; omega), ?_⟩
          exact k1 (z * 48271 % 2147483647 :: d :: r) _ (BagOk.put0 _ hd1 hr1) (Int.emod_nonneg _ (by omega)) (Int.emod_lt_of_pos _ (by omega))
    · have hb1 := hb
      have k1 := k
      have hz1' := hz0
      have hz1'' := hz1
      have hd1 := hd0
      have hr1 := hr0
      refine ⟨_, rfl, b, _, _, _, rfl, rfl, SqL.of hb1, (atI_nat (j := 1) rfl), _, _, rfl, rfl, _, rfl, ?_⟩
      refine ite2 (fun e3 => ?_) (fun e3 => ?_)
      · refine ⟨_, rfl, b, _, _, _, rfl, rfl, SqL.of hb1, (atI_nat (j := 1) rfl), .inl ⟨_, rfl, ?_⟩⟩
        refine ⟨_, rfl, _, _, rfl, rfl, (by show (0 : Int) < n; omega), ?_⟩
        refine ⟨_, rfl, b, _, _, _, rfl, rfl, SqL.of hb1, (atI_nat (j := 1) rfl), _, rfl, _, _, rfl, rfl, wide_div (b := 20) (by show (0 : Int) < n; omega) (by show n.natAbs < 2 ^ 20; omega) (by decide) (by decide), ?_⟩
        refine ⟨_, rfl, b, _, _, 1, rfl, rfl, hb1, ix_at (j := 1) (by simp), ?_⟩
        refine ⟨_, rfl, ?_⟩
        exact k1 (z :: (d / n) :: r) _ ⟨_, _, _, rfl, hz1', hz1'', Int.ediv_nonneg hd1 (by omega), hr1⟩ (Int.emod_nonneg _ (by omega)) (Int.emod_lt_of_pos _ (by omega))
      · refine ⟨_, rfl, b, _, _, _, rfl, rfl, SqL.of hb1, (atI_nat (j := 0) rfl), _, _, rfl, rfl, .inl ⟨by show -(2 ^ 64) < z; omega, by show z < 2 ^ 64; omega⟩, .inl ⟨_, rfl, ?_⟩⟩
        refine ⟨_, _, rfl, rfl, (by show (0 : Int) < 2147483647; decide), ?_⟩
        refine ⟨_, rfl, b, _, _, 0, rfl, rfl, hb1, ix_at (j := 0) (by simp), ?_⟩
        refine ⟨_, rfl, b, _, _, _, rfl, rfl, SqL.of upd_same, (atI_nat (j := 0) rfl), _, _, rfl, rfl, ⟨by decide, by decide⟩, .inl ⟨_, rfl, ?_⟩⟩
        refine ⟨_, rfl, _, _, rfl, rfl, (by show (0 : Int) < n; omega), ?_⟩
        exact k1 (z * 48271 % 2147483647 :: d :: r) _ (BagOk.put0 _ hd1 hr1) (Int.emod_nonneg _ (by omega)) (Int.emod_lt_of_pos _ (by omega))
end
end Dl

namespace Dl
open PySem L2
theorem Same.upd_new {H : Hp} {a : Addr} {o : HO} (h : H a = none) : Same H (upd H a o) := fun b u e => by
  rw [upd_ne (ne_of_none e h)]; exact e
def spBag (K : PySem.W.Frag) : Sp := fun vs H Q _ => ∃ (a : Addr) (ns : List Int), vs = [.ref a] ∧ SqL K H a (ns.map V.int) ∧ ns.length ≤ 63 ∧
  ∀ (H' : Hp) (p : Addr) (L : List Int), Same H H' → H p = none → H' p = some (.lst (L.map V.int)) → BagOk L → Q (.ref p) H'
section
variable {P : Program} {w : World} {K : PySem.W.Frag} {mg : Str → Option Value} {base : Heap}
theorem scBag : FnScope ["_law_script", "_law_cell"] ["_law_script"] (defScope sBag) := ⟨rfl, rfl, rfl, by decide +kernel, rfl, by decide +kernel, by decide +kernel⟩
theorem ok_bag {f : Addr} {fd : FuncData} (F : Fun K "_law_bag" "_law_bag" sBag f fd) (T : TxtB mg) : FnOk P w K mg base CX0 1 f fd ["_law_script"] (spBag K) := by
  refine F.ok scBag (fun vs H Q E h => ?_) (fun cdv A outer s H vs Q E hr h => ?_)
  · obtain ⟨b, L, rfl, _⟩ := h
    rfl
  · obtain ⟨a, ns, rfl, hS, hlen, k⟩ := h
    refine ⟨_, pss_one (ps_ret (pe_op op_cat (pe_lst (pa_cons pe_int (pa_cons pe_int pa_nil)))
      (pe_lc (own := [("_law_cell", 1)]) (g := gName 1) (tt := tYes) rfl scBag.nd (pi_list (pe_slice sl_list (pv 0) po_none (po_some pe_int))) (blkOk_by (N := ["_law_script", "_law_cell"]) (sc := defScope sBag) (by decide +kernel))
        (fun _ _ _ _ _ => pg_name (i := 1) scBag.nd rfl (Or.inl rfl)) (fun _ _ _ _ _ => pts_nil) (fun _ _ _ _ _ => pe_callB call_abs (by rfl) T.abs (by decide +kernel) (pa_cons (pv 1) pa_nil))))), ?_⟩
    refine ⟨by show 2 ≤ sizeLine; decide, fun l hl => ?_⟩
    refine ⟨_, rfl, 63, rfl, a, _, rfl, Same.seq (Same.upd_new hl) hS, fun q hq => ?_⟩
    have hcut : ∃ ms : List Int, cutV (ns.map V.int) none (some 63) = ms.map V.int ∧ ms.length ≤ 63 := by
      refine ⟨(ns.drop (HT.sIx (ns.map V.int).length 0 none)).take (HT.sIx (ns.map V.int).length (ns.map V.int).length (some 63) - HT.sIx (ns.map V.int).length 0 none), ?_, ?_⟩
      · unfold cutV
        rw [← List.map_drop, ← List.map_take]
      · rw [List.length_take, List.length_drop]
        omega
    obtain ⟨ms, em, hm⟩ := hcut
    rw [em]
    refine ⟨q, rfl, ⟨_, SqL.of upd_same⟩, fun D hD => lc_list (xs := ms.map V.int) (fun i H' => ∃ M : List Int, H' = upd (upd (upd H l (.lst [.int 0, .int 0])) q (.lst (ms.map V.int))) D (.lst (M.map V.int)) ∧ M.length = i ∧ ∀ x ∈ M, 0 ≤ x)
      ⟨[], rfl, rfl, fun x hx => absurd hx (by simp)⟩ ?_ ?_ ?_⟩
    · rintro i H' _ ⟨M, rfl, _, _⟩
      have nqD : q ≠ D := ne_of_none (H := upd (upd H l (.lst [.int 0, .int 0])) q (.lst (ms.map V.int))) upd_same hD
      exact SqL.of (by rw [upd_ne nqD]; exact upd_same)
    · rintro i x H' hi ⟨M, rfl, hM, hx⟩
      rw [List.getElem?_map] at hi
      cases e : ms[i]? with
      | none => rw [e] at hi; cases hi
      | some u =>
      rw [e] at hi
      obtain rfl : V.int u = x := Option.some.inj hi
      refine ⟨rfl, _, rfl, u, rfl, _, upd_same, ?_, M ++ [if u < 0 then -u else u], ?_, ?_, ?_⟩
      · rw [List.length_map, hM]
        have := (List.getElem?_eq_some_iff.mp e).1
        exact small1000 (by omega)
      · rw [upd_upd, List.map_append]
        rfl
      · rw [List.length_append, hM]
        rfl
      · intro y hy
        rcases List.mem_append.mp hy with h | h
        · exact hx y h
        · obtain rfl := List.mem_singleton.mp h
          split <;> omega
    · rintro H' ⟨M, rfl, hM, hx⟩
      have nlq : l ≠ q := fun e => by rw [e, upd_same] at hq; cases hq
      have nlD : l ≠ D := fun e => by rw [← e, upd_ne nlq, upd_same] at hD; cases hD
      rw [List.length_map] at hM
      refine ⟨l, D, _, _, rfl, rfl, by rw [upd_ne nlD, upd_ne nlq, upd_same], upd_same, ?_, fun p hp => ?_⟩
      · rw [List.length_map]
        exact Nat.le_of_lt (small1000 (by simp; omega))
      · have hp0 : H p = none := by
          have npD : p ≠ D := fun e => by rw [e, upd_same] at hp; cases hp
          have npq : p ≠ q := fun e => by rw [upd_ne npD, e, upd_same] at hp; cases hp
          have npl : p ≠ l := fun e => by rw [upd_ne npD, upd_ne npq, e, upd_same] at hp; cases hp
          rw [upd_ne npD, upd_ne npq, upd_ne npl] at hp
          exact hp
        have s1 : Same H (upd H l (.lst [.int 0, .int 0])) := Same.upd_new hl
        refine k _ p (0 :: 0 :: M) ((s1.trans (Same.upd_new hq)).trans ((Same.upd_new hD).trans (Same.upd_new hp))) hp0 (by rw [upd_same]; rfl) ⟨0, 0, M, rfl, by decide, by decide, by decide, hx⟩
end
end Dl

namespace Dl
open PySem L2
/-! ### names -/
def SG : Str := "abcdefghijklmnopqrstuvwxyz0123456789"
def validN (z : Str) : Bool := decide (1 ≤ z.length) && (decide (z.length ≤ 12) && z.cps.toList.all fun c => decide (c ∈ SG.cps.toList))
def isNm : V → Bool
  | .str z => validN z
  | _ => false
/-- what may be passed as a name: a text, an int, None, a list -/
def NmOk (H : Hp) : V → Prop
  | .str z => z.length ≤ sizeLine
  | .int _ => True
  | .non => True
  | .ref p => ∃ xs, H p = some (.lst xs)
  | _ => False
structure TxtN (mg : Str → Option Value) : Prop where
  isi : mg "isinstance" = none
  str : mg "str" = none
  len : mg "len" = none
  all : mg "all" = none
  longest : ∃ t, mg "LONGEST" = some (.int 12 t)
  signs : ∃ t, mg "SIGNS" = some (.str SG t)
theorem nm_type (K : PySem.W.Frag) {H : Hp} {v : V} (hv : NmOk H v) : ∃ (ty : String) (b : Bool), TyX K H v (.type ty) ∧ PySem.W.kitOne K (.type ty) (.type "str") = some b ∧ ((b = false ∧ isNm v = false ∧ ∀ z, v ≠ .str z) ∨ (b = true ∧ ∃ z, v = .str z ∧ z.length ≤ sizeLine)) := by
  cases v with
  | int i => exact ⟨"int", false, .base (.int i), kit_ty (by decide +kernel), .inl ⟨rfl, rfl, fun z h => by cases h⟩⟩
  | non => exact ⟨"NoneType", false, .base .non, kit_ty (by decide +kernel), .inl ⟨rfl, rfl, fun z h => by cases h⟩⟩
  | ref p => obtain ⟨xs, hp⟩ := hv; exact ⟨"list", false, .base (.lst hp), kit_ty (by decide +kernel), .inl ⟨rfl, rfl, fun z h => by cases h⟩⟩
  | str z => exact ⟨"str", true, .base (.str z), kit_ty (by decide +kernel), .inr ⟨rfl, z, rfl, hv⟩⟩
  | bl _ => exact hv.elim
  | byt _ => exact hv.elim
  | flt _ => exact hv.elim
  | ty _ => exact hv.elim
def Dfn (P : Program) (w : World) (K : PySem.W.Frag) (mg : Str → Option Value) (base : Heap) (CX : CXT) (k : Nat) (x : Str) (ps : List Str) (sp : Sp) : Prop :=
  ∃ f fd, mg x = some (.ref f) ∧ PySem.W.keepIn K (.ref f) = true ∧ Binds K fd ps [] ∧ FnOk P w K mg base CX k f fd ps sp
open PySem.Spec PyProof.Rows in
theorem Same.tup {K : PySem.W.Frag} {H H' : Hp} {a : Addr} {xs : List V} (e : Same H H') (h : SqT K H a xs) : SqT K H' a xs := by
  rcases h with (h | ⟨o, h⟩) | h
  · exact .inl (.inl (e _ _ h))
  · exact .inl (.inr ⟨o, e _ _ h⟩)
  · exact .inr h
def knows (v : V) (es : List Str) : Bool :=
  match v with
  | .str z => decide (z ∈ es)
  | _ => false
def strOf : V → Str
  | .str z => z
  | _ => ""
open PySem.Spec PyProof.Rows in
theorem Same.either {K : PySem.W.Frag} {H H' : Hp} {a : Addr} {xs : List V} (e : Same H H') (h : SqL K H a xs ∨ SqT K H a xs) : SqL K H' a xs ∨ SqT K H' a xs := h.imp (Same.seq e) (Same.tup e)
open PySem.Spec PyProof.Rows in
theorem inV_str {z : Str} {es : List Str} : inV (.str z) (es.map V.str) = decide (z ∈ es) := by
  unfold inV
  rw [List.any_map]
  induction es with
  | nil => simp
  | cons a r ih =>
    rw [List.any_cons, ih]
    have e : ((fun y => eqV y (V.str z)) ∘ V.str) a = decide (a = z) := by
      show eqV (V.str a) (V.str z) = decide (a = z)
      unfold eqV
      first | rfl | simp
    rw [e]
    by_cases h : a = z
    · subst h; simp
    · have h2 : ¬ z = a := fun q => h q.symm
      simp [h, h2]
open PySem.Spec PyProof.Rows in
theorem flat_strs (es : List Str) : (es.map V.str).all flatV = true := by
  rw [List.all_map]
  induction es with
  | nil => rfl
  | cons a r ih => rw [List.all_cons, ih]; rfl
end Dl

namespace Dl
open PySem PySem.Spec PyProof.Rows L2
/-! ### the drawn names: one to three letters, and the number of the names before where it was there -/
def LT : Str := "abcdefghijklmnopqrstuvwxyz"
def isLet (c : Nat) : Prop := 97 ≤ c ∧ c ≤ 122
def dg (n : Nat) : List Nat := (Str.ofString (toString (n : Int))).cps.toList
theorem lt_facts : ∀ c ∈ LT.cps.toList, 97 ≤ c ∧ c ≤ 122 := by decide +kernel
theorem lt_len : LT.cps.toList.length = 26 := by decide +kernel
theorem dg_facts : ∀ k, k < 25 → dg k ≠ [] ∧ (dg k).length ≤ 2 ∧ ∀ c ∈ dg k, ¬ (97 ≤ c ∧ c ≤ 122) ∧ c ∈ SG.cps.toList ∧ c < 1114112 := by decide +kernel
theorem dg_inj : ∀ j, j < 25 → ∀ k, k < 25 → dg j = dg k → j = k := by decide +kernel
theorem let_sg : ∀ c, c < 123 → 97 ≤ c → c ∈ SG.cps.toList ∧ c < 1114112 := by decide +kernel
theorem sg_small' : ∀ c ∈ SG.cps.toList, c < 1114112 := by decide +kernel
theorem nil_codes : ("" : Str).cps.toList = [] := by decide +kernel
/-- the name that was drawn as number i -/
structure NameAt (i : Nat) (z : Str) : Prop where
  ex : ∃ l : List Nat, l ≠ [] ∧ l.length ≤ 3 ∧ (∀ c ∈ l, isLet c) ∧ (z.cps.toList = l ∨ z.cps.toList = l ++ dg i)
structure NamesOk (zs : List Str) : Prop where
  at_ : ∀ i z, zs[i]? = some z → NameAt i z
  nd : zs.Nodup
  few : zs.length ≤ 24
theorem codes_ext {a b : Str} (h : a.cps.toList = b.cps.toList) : a = b := by
  cases a; cases b
  congr
  exact Array.ext' h
theorem let_dg {l l' : List Nat} {j k : Nat} (hj : j < 25) (hk : k < 25) (hl : ∀ c ∈ l, isLet c) (hl' : ∀ c ∈ l', isLet c) (h : l' ++ dg j = l ++ dg k) : j = k := by
  have tw : ∀ (m d : List Nat), (∀ c ∈ m, isLet c) → (∀ c ∈ d, ¬ isLet c) → (m ++ d).dropWhile (fun c => decide (97 ≤ c ∧ c ≤ 122)) = d := by
    intro m
    induction m with
    | nil =>
      intro d _ hd
      cases d with
      | nil => rfl
      | cons a r =>
        have q : ¬ (97 ≤ a ∧ a ≤ 122) := hd a (List.mem_cons_self ..)
        simp only [List.nil_append, List.dropWhile]
        rw [decide_eq_false q]
    | cons a r ih =>
      intro d hm hd
      have q : 97 ≤ a ∧ a ≤ 122 := hm a (List.mem_cons_self ..)
      rw [List.cons_append, List.dropWhile, decide_eq_true q]
      exact ih d (fun c hc => hm c (List.mem_cons_of_mem _ hc)) hd
  have e := congrArg (List.dropWhile fun c => decide (97 ≤ c ∧ c ≤ 122)) h
  rw [tw l' (dg j) hl' fun c hc => ((dg_facts j hj).2.2 c hc).1, tw l (dg k) hl fun c hc => ((dg_facts k hk).2.2 c hc).1] at e
  exact dg_inj j hj k hk e
theorem fresh_tail {zs : List Str} {l : List Nat} {z : Str} (ok : NamesOk zs) (h23 : zs.length ≤ 23) (hl : ∀ c ∈ l, isLet c) (hz : z.cps.toList = l ++ dg zs.length) : z ∉ zs := by
  intro hm
  obtain ⟨i, hi⟩ := List.getElem?_of_mem hm
  have hlt : i < zs.length := (List.getElem?_eq_some_iff.mp hi).1
  obtain ⟨l', _, _, hl', e⟩ := (ok.at_ i z hi).ex
  rcases e with e | e
  · rw [hz] at e
    have d := dg_facts zs.length (by omega)
    cases hd : dg zs.length with
    | nil => exact d.1 hd
    | cons c r =>
      have m1 : c ∈ l' := by rw [← e, hd]; simp
      have m2 : c ∈ dg zs.length := by rw [hd]; simp
      exact (d.2.2 c m2).1 (hl' c m1)
  · rw [hz] at e
    have := let_dg (by omega) (by omega) hl hl' e.symm
    omega
theorem NameAt.sg {i : Nat} {z : Str} (h : NameAt i z) (hi : i < 25) : (∀ c ∈ z.cps.toList, c ∈ SG.cps.toList) ∧ 1 ≤ z.length ∧ z.length ≤ 5 := by
  obtain ⟨l, h1, h2, h3, h4⟩ := h.ex
  have zl : z.length = z.cps.toList.length := by simp [Str.length]
  have l1 : 1 ≤ l.length := by cases l with | nil => exact absurd rfl h1 | cons _ _ => simp
  have d := dg_facts i hi
  rcases h4 with e | e
  · refine ⟨fun c hc => ?_, by rw [zl, e]; exact l1, by rw [zl, e]; omega⟩
    rw [e] at hc
    exact (let_sg c (by have := (h3 c hc).2; omega) (h3 c hc).1).1
  · refine ⟨fun c hc => ?_, by rw [zl, e, List.length_append]; omega, by rw [zl, e, List.length_append]; omega⟩
    rw [e] at hc
    rcases List.mem_append.mp hc with hc | hc
    · exact (let_sg c (by have := (h3 c hc).2; omega) (h3 c hc).1).1
    · exact (d.2.2 c hc).2.1
theorem NameAt.valid {i : Nat} {z : Str} (h : NameAt i z) (hi : i < 25) : validN z = true := by
  obtain ⟨h1, h2, h3⟩ := h.sg hi
  unfold validN
  rw [decide_eq_true h2, decide_eq_true (show z.length ≤ 12 by omega), List.all_eq_true.mpr fun c hc => decide_eq_true (h1 c hc)]
  rfl
theorem NamesOk.valid {zs : List Str} (ok : NamesOk zs) {z : Str} (hz : z ∈ zs) : validN z = true := by
  obtain ⟨i, hi⟩ := List.getElem?_of_mem hz
  have hlt : i < zs.length := (List.getElem?_eq_some_iff.mp hi).1
  exact (ok.at_ i z hi).valid (by have := ok.few; omega)
theorem valid_small {z : Str} (h : validN z = true) : z.length ≤ 12 ∧ (∀ c ∈ z.cps.toList, c < 1114112) := by
  unfold validN at h
  simp only [Bool.and_eq_true, decide_eq_true_eq] at h
  exact ⟨h.2.1, fun c hc => sg_small' c (of_decide_eq_true (List.all_eq_true.mp h.2.2 c hc))⟩
/-- everything but the bag at b stands -/
def SameB (b : Addr) (H H' : Hp) : Prop := ∀ c o, c ≠ b → H c = some o → H' c = some o
theorem SameB.refl (b : Addr) (H : Hp) : SameB b H H := fun _ _ _ h => h
theorem SameB.trans {b : Addr} {H H1 H2 : Hp} (s : SameB b H H1) (t : SameB b H1 H2) : SameB b H H2 := fun c o n h => t c o n (s c o n h)
theorem SameB.upd {b : Addr} {H : Hp} {o : HO} : SameB b H (upd H b o) := fun c u n h => by rw [upd_ne n]; exact h
theorem SameB.of {b : Addr} {H H' : Hp} (s : Same H H') : SameB b H H' := fun c o _ h => s c o h
theorem SameB.free {b : Addr} {H H' : Hp} (s : SameB b H H') {c : Addr} (n : c ≠ b) (h : H' c = none) : H c = none := by
  cases e : H c with
  | none => rfl
  | some o => rw [s c o n e] at h; cases h
theorem upd_none {H : Hp} {b c : Addr} {o : HO} (h : upd H b o c = none) : H c = none ∧ c ≠ b := by
  by_cases e : c = b
  · subst e; rw [upd_same] at h; cases h
  · rw [upd_ne e] at h; exact ⟨h, e⟩
structure TxtM (mg : Str → Option Value) : Prop where
  range : mg "range" = none
  len : mg "len" = none
  str : mg "str" = none
def spName : Sp := fun vs H Q _ => ∃ (b u : Addr) (L : List Int) (zs : List Str), vs = [.ref b, .ref u] ∧ H b = some (.lst (L.map V.int)) ∧ BagOk L ∧ u ≠ b ∧ H u = some (.lst (zs.map V.str)) ∧ NamesOk zs ∧ zs.length ≤ 23 ∧
  ∀ (L' : List Int) (z : Str), BagOk L' → NameAt zs.length z → z ∉ zs → Q (.str z) (upd H b (.lst (L'.map V.int)))
def spNames : Sp := fun vs H Q _ => ∃ (b : Addr) (L : List Int) (n : Int), vs = [.ref b, .int n] ∧ H b = some (.lst (L.map V.int)) ∧ BagOk L ∧ 0 ≤ n ∧ n ≤ 24 ∧
  ∀ (H' : Hp) (u : Addr) (L' : List Int) (zs : List Str), SameB b H H' → H u = none → H' u = some (.lst (zs.map V.str)) → H' b = some (.lst (L'.map V.int)) → BagOk L' → NamesOk zs → zs.length = n.toNat → Q (.ref u) H'
theorem cat_codes (a b : Str) : (a ++ b).cps.toList = a.cps.toList ++ b.cps.toList := by
  show (a.cps ++ b.cps).toList = _
  simp
theorem cat_len (a b : Str) : (a ++ b).length = a.length + b.length := by
  show (a.cps ++ b.cps).size = _
  rw [Array.size_append]
  rfl
section
variable {P : Program} {w : World} {K : PySem.W.Frag} {mg : Str → Option Value} {base : Heap}
theorem scName : FnScope ["_law_bag_here", "_law_used", "_law_letters", "_law_name_here", "_law_k"] ["_law_bag_here", "_law_used"] (defScope sLawName) := ⟨rfl, rfl, rfl, by decide +kernel, rfl, by decide +kernel, by decide +kernel⟩
theorem ok_name {f : Addr} {fd : FuncData} (F : Fun K "_law_name" "_law_name" sLawName f fd) (T : TxtM mg) (gT : Dfn P w K mg base CX0 1 "_law_take" ["_law_bag_here", "_law_size"] spTake) :
    FnOk P w K mg base CX0 2 f fd ["_law_bag_here", "_law_used"] spName := by
  obtain ⟨fT, dT, mT, kT, bT, GT⟩ := gT
  refine F.ok scName (fun vs H Q E h => ?_) (fun cdv A outer s H vs Q E hr h => ?_)
  · obtain ⟨a, u, L, zs, rfl, _⟩ := h
    rfl
  · obtain ⟨b, u, L, zs, rfl, hb, hok, hub, hu, ok, hlen, k⟩ := h
    have hr1 : Room 1 _ := hr
    refine ⟨_, (pss_cons (ps_set (i := 2) scName.nd rfl (Or.inl rfl) pe_str)
        (pss_cons (ps_set (i := 3) scName.nd rfl (Or.inl rfl) pe_str)
        (pss_cons (ps_for PassesOwn.never rfl (pi_range1 (by rfl) T.range (pa_cons (pe_op op_add pe_int (pe_call GT hr1 (by rfl) mT kT bT .nil pass0 (pa_cons (pv 0) (pa_cons pe_int pa_nil)))) pa_nil)) (pg_name (i := 4) scName.nd rfl (Or.inl rfl)) (pss_one (ps_set (i := 3) scName.nd rfl (Or.inl rfl) (pe_op op_add_str (pv 3) (pe_ix ix_str (pv 2) (pe_call GT hr1 (by rfl) mT kT bT .nil pass0 (pa_cons (pv 0) (pa_cons pe_int pa_nil))) (fun _ _ => rfl))))))
        (pss_cons (ps_if (pt_cmpR op_in_seq (pv 3) (pv 1) (by rfl)) (pss_one (ps_set (i := 3) scName.nd rfl (Or.inl rfl) (pe_op op_add_str (pv 3) (pe_callTy call_str_int (by rfl) T.str (by decide +kernel) (pa_cons (pe_callB call_len_seq (by rfl) T.len PySem.boot_len (pa_cons (pv 1) pa_nil)) pa_nil))))) pss_nil)
        (pss_one (ps_ret (pv 3))))))), ?_⟩
    refine ⟨_, rfl, b, L, 3, rfl, hb, hok, by decide, by decide, fun L1 r ok1 r0 r1 => ⟨_, _, rfl, rfl, _, rfl, by omega, by omega, for_range (n := (1 + r).toNat) (lo := 0)
      (fun i σ H' => ∃ (z : Str) (x : Option V) (L2 : List Int), σ = [some (.ref b), some (.ref u), some (.str LT), some (.str z), x] ∧ H' = upd H b (.lst (L2.map V.int)) ∧ BagOk L2 ∧ z.cps.toList.length = i ∧ ∀ c ∈ z.cps.toList, isLet c)
      ⟨_, none, L1, rfl, rfl, ok1, by decide +kernel, fun c hc => absurd hc (by rw [nil_codes]; exact List.not_mem_nil)⟩ ?_ ?_⟩⟩
    · rintro i σ H2 hi ⟨z, x, L2, rfl, rfl, ok2, hz, hzc⟩
      refine ⟨_, rfl, _, rfl, _, rfl, b, L2, 26, rfl, upd_same, ok2, by decide, by decide, fun L3 q ok3 q0 q1 => ?_⟩
      have hq3 : q.toNat < LT.cps.toList.length := by rw [lt_len]; omega
      refine ⟨LT, q, LT.cps.toList[q.toNat], rfl, rfl, by decide +kernel, ?_, ?_⟩
      · have e := atI_nat (xs := LT.cps.toList) (j := q.toNat) (List.getElem?_eq_getElem hq3)
        rw [Int.toNat_of_nonneg q0] at e
        exact e
      · have ez : z.length = i := hz
        refine ⟨z, _, rfl, rfl, ?_, ?_⟩
        · rw [ez]
          exact Nat.le_of_lt (small1000 (by show i + 1 ≤ 1000; omega))
        · refine ⟨_, _, L3, rfl, upd_upd, ok3, ?_, ?_⟩
          · rw [cat_codes, List.length_append, hz]
            rfl
          · intro c hc
            rw [cat_codes] at hc
            rcases List.mem_append.mp hc with h | h
            · exact hzc c h
            · obtain rfl : c = LT.cps.toList[q.toNat] := by simpa using h
              exact lt_facts _ (List.getElem_mem hq3)
    · rintro σ H2 ⟨z, x, L2, rfl, rfl, ok2, hz, hzc⟩
      have zl : z.length = (1 + r).toNat := hz
      have hne : z.cps.toList ≠ [] := by
        intro e
        rw [e] at hz
        simp at hz
        omega
      have at0 : NameAt zs.length z := ⟨z.cps.toList, hne, by omega, hzc, .inl rfl⟩
      refine ⟨_, rfl, _, rfl, u, _, rfl, .inl (SqL.of (by rw [upd_ne hub]; exact hu)), rfl, flat_strs zs, _, rfl, ?_⟩
      show if (inV (.str z) (zs.map V.str)) = true then _ else _
      rw [inV_str]
      by_cases hm : z ∈ zs
      · rw [decide_eq_true hm]
        refine iteT ⟨_, rfl, _, rfl, u, _, rfl, .inl (SqL.of (by rw [upd_ne hub]; exact hu)), _, rfl, ?_, z, _, rfl, rfl, ?_, _, rfl, ?_⟩
        · rw [List.length_map]
          have : ((zs.length : Nat) : Int).natAbs = zs.length := by simp
          rw [this]
          exact Nat.lt_of_le_of_lt (Nat.log2_le_self _) (by omega)
        · have d := (dg_facts zs.length (by omega)).2.1
          have e : (Str.ofString (toString ((((zs.map V.str).length : Nat) : Int)))).length = (dg zs.length).length := by
            rw [List.length_map]
            simp [dg, Str.length]
          show z.length + (Str.ofString (toString ((((zs.map V.str).length : Nat) : Int)))).length ≤ sizeLine
          rw [e, zl]
          exact Nat.le_of_lt (small1000 (by omega))
        · have ez : (z ++ (Str.ofString (toString ((((zs.map V.str).length : Nat) : Int))))).cps.toList = z.cps.toList ++ dg zs.length := by
            rw [cat_codes, List.length_map]
            rfl
          exact k L2 _ ok2 ⟨z.cps.toList, hne, by omega, hzc, .inr ez⟩ (fresh_tail ok hlen hzc ez)
      · rw [decide_eq_false hm]
        exact iteF ⟨_, rfl, k L2 z ok2 at0 hm⟩
theorem scNames : FnScope ["_law_bag_here", "_law_count", "_law_names_here", "_law_k"] ["_law_bag_here", "_law_count"] (defScope sLawNames) := ⟨rfl, rfl, rfl, by decide +kernel, rfl, by decide +kernel, by decide +kernel⟩
theorem ok_names {f : Addr} {fd : FuncData} (F : Fun K "_law_names" "_law_names" sLawNames f fd) (T : TxtM mg) (gN : Dfn P w K mg base CX0 2 "_law_name" ["_law_bag_here", "_law_used"] spName) :
    FnOk P w K mg base CX0 3 f fd ["_law_bag_here", "_law_count"] spNames := by
  obtain ⟨fNm, dNm, mNm, kNm, bNm, GNm⟩ := gN
  refine F.ok scNames (fun vs H Q E h => ?_) (fun cdv A outer s H vs Q E hr h => ?_)
  · obtain ⟨a, L, n, rfl, _⟩ := h
    rfl
  · obtain ⟨b, L, n, rfl, hb, hok, hn0, hn1, k⟩ := h
    have hr2 : Room 2 _ := hr
    refine ⟨_, (pss_cons (ps_set (i := 2) scNames.nd rfl (Or.inl rfl) (pe_lst pa_nil))
        (pss_cons (ps_for PassesOwn.never rfl (pi_range1 (by rfl) T.range (pa_cons (pv 1) pa_nil)) (pg_name (i := 3) scNames.nd rfl (Or.inl rfl)) (pss_one (ps_expr (pe_bm PySem.F.plainAttrs_list PySem.F.slot_list_append PySem.F.type_list_append mt_append (pv 2) (pa_cons (pe_call GNm hr2 (by rfl) mNm kNm bNm .nil pass0 (pa_cons (pv 0) (pa_cons (pv 2) pa_nil))) pa_nil)))))
        (pss_one (ps_ret (pv 2))))), ?_⟩
    refine ⟨Nat.zero_le _, fun u hu => ?_⟩
    have nub : u ≠ b := fun e => by rw [e, hb] at hu; cases hu
    refine ⟨_, rfl, _, rfl, by omega, by omega, for_range (n := n.toNat) (lo := 0)
      (fun i σ H' => ∃ (zs : List Str) (x : Option V) (L2 : List Int), σ = [some (.ref b), some (.int n), some (.ref u), x] ∧ SameB b H H' ∧ H' b = some (.lst (L2.map V.int)) ∧ BagOk L2 ∧ H' u = some (.lst (zs.map V.str)) ∧ NamesOk zs ∧ zs.length = i)
      ⟨[], none, L, rfl, SameB.of (Same.upd_new hu), by rw [upd_ne nub.symm]; exact hb, hok, upd_same, ⟨fun i z h => by simp at h, by simp, by simp⟩, rfl⟩ ?_ ?_⟩
    · rintro i σ H2 hi ⟨zs, x, L2, rfl, s2, hb2, ok2, hu2, okz, hz⟩
      refine ⟨_, rfl, .inl ⟨rfl, _, SqL.of hu2⟩, _, rfl, _, rfl, b, u, L2, zs, rfl, hb2, ok2, nub, hu2, okz, by omega, fun L3 z ok3 hat hnz => ?_⟩
      refine ⟨u, _, _, rfl, rfl, by rw [upd_ne nub]; exact hu2, ?_, ?_⟩
      · rw [List.length_map]
        exact small1000 (by omega)
      · refine ⟨zs ++ [z], _, L3, rfl, fun c o n h => ?_, ?_, ok3, ?_, ⟨fun j y h => ?_, ?_, ?_⟩, ?_⟩
        · have ncu : c ≠ u := ne_of_none h hu
          rw [upd_ne ncu, upd_ne n]
          exact s2 c o n h
        · rw [upd_ne nub.symm, upd_same]
        · rw [upd_same, List.map_append]
          rfl
        · by_cases hj : j < zs.length
          · rw [List.getElem?_append_left hj] at h
            exact okz.at_ j y h
          · rw [List.getElem?_append_right (by omega)] at h
            have hj0 : j - zs.length = 0 := by
              have := (List.getElem?_eq_some_iff.mp h).1
              simp at this
              omega
            rw [hj0] at h
            obtain rfl : z = y := by simpa using h
            have : j = zs.length := by omega
            rw [this]
            exact hat
        · rw [List.nodup_append]
          refine ⟨okz.nd, by simp, fun a ha c hc => ?_⟩
          obtain rfl := List.mem_singleton.mp hc
          exact fun e => hnz (e ▸ ha)
        · rw [List.length_append]
          simp
          omega
        · rw [List.length_append, hz]
          rfl
    · rintro σ H2 ⟨zs, x, L2, rfl, s2, hb2, ok2, hu2, okz, hz⟩
      exact ⟨_, rfl, k H2 u L2 zs s2 hu hu2 hb2 ok2 okz hz⟩
end
end Dl

namespace Dl
open PySem PySem.Spec PyProof.Rows L2
/-! ### texts: what is a valid name -/
theorem len_pos {z : Str} (h : ¬ z = ("" : Str)) : 1 ≤ z.length := by
  have e0 : ("" : Str) = ⟨#[]⟩ := by decide +kernel
  cases z with
  | mk cps =>
    by_cases q : cps.size = 0
    · exfalso
      apply h
      rw [e0, Array.eq_empty_of_size_eq_zero q]
    · show 1 ≤ cps.size
      omega
theorem valid_of {z : Str} (h1 : 1 ≤ z.length) (h : ∀ c ∈ z.cps.toList, c ∈ SG.cps.toList) : validN z = decide (z.length ≤ 12) := by
  unfold validN
  rw [decide_eq_true h1, List.all_eq_true.mpr fun c hc => decide_eq_true (h c hc)]
  simp
theorem invalid_of {z : Str} {c : Nat} (hc : c ∈ z.cps.toList) (h : c ∉ SG.cps.toList) : validN z = false := by
  unfold validN
  have q : (z.cps.toList.all fun c => decide (c ∈ SG.cps.toList)) = false := by
    rw [List.all_eq_false]
    exact ⟨c, hc, by simpa using h⟩
  rw [q]
  simp
end Dl

/-! C(e, ..) in a try's body: what the class's __init__ lets out is wished for at the caller's slots; lists of texts as data -/
namespace Dl
open PySem PySem.Spec PyProof.Rows L2
def tMakeS (C : Addr) (sp : Sp) (E : L2.St → XK) (t : TA) : TE := fun σ H Q => t σ H fun vs H1 =>
  ∀ x dx, H1 x = none → H1 dx = none → dx ≠ x → sp (.ref x :: vs) (upd (upd H1 dx (.own x)) x (.ins C dx [])) (fun v H2 => v = .non ∧ Q (.ref x) H2) (E σ)
theorem make_slots {X : Cx} {CX : CXT} {k : Nat} {f C : Addr} {fd : FuncData} {ps : List Str} {sp : Sp} {E : XK} {σ : L2.St} {pins : List (Addr × Obj)} {H : Hp} {s : Shared} {Q : VK} {us : List Value} {vs : List V}
    (M : Mk X.K C f) (F : FnOk X.prog X.w X.K X.mg X.base CX k f fd ps sp) (hr : Room (k + 1) X.A) (hb : Binds X.K fd ps []) (hx : PassesAt CX X σ E) (I : Inv X pins σ H s) (r : Vals vs us)
    (h : ∀ x dx, H x = none → H dx = none → dx ≠ x → sp (.ref x :: vs) (upd (upd H dx (.own x)) x (.ins C dx [])) (fun v H2 => v = .non ∧ Q (.ref x) H2) E) :
    wpAny (model X.prog X.w) X.A (call (.ref C) us) (EP X pins σ Q) X.xe s := by
  have at0 : H s.heap.objs.size = none := I.hok.fresh (Nat.le_refl _)
  have at1 : H (s.heap.objs.size + 1) = none := I.hok.fresh (Nat.le_succ _)
  have want := h _ _ at1 at0 (Nat.ne_of_lt (Nat.lt_succ_self _))
  have J := Inv.made (C := C) I
  have rv : Vals (V.ref (s.heap.objs.size + 1) :: vs) (Value.ref (s.heap.objs.size + 1) :: us) := .cons rfl r
  have len : (Value.ref (s.heap.objs.size + 1) :: us).length = ps.length := by rw [← rv.length]; exact F.len _ _ _ _ want
  have bind := hb _ (Value.ref (s.heap.objs.size + 1) :: us) J.kIn (by rw [List.append_nil]; exact len)
  rw [List.append_nil] at bind
  have body := F.run _ X.stack _ _ ⟨Value.ref (s.heap.objs.size + 1) :: us, []⟩ _ _ _ E (hr.make C us []) (J.env0.make C us []) bind rv want
  apply wpAny_call
  apply make_map (f := f) I.kIn M.makes M.init (beq_iff_eq.mp M.fn)
  apply codeAny_mono body
  intro out s2 hout
  match out, hout with
  | .error er, hout => exact hx pins _ _ er s2 J hout
  | .ok (.ret u), hout =>
    obtain ⟨v, H2, J2, rel, ev, q⟩ := J.after hout
    cases ev
    exact ⟨rel, V.ref (s.heap.objs.size + 1), H2, J2, rfl, q⟩
theorem pe_makeS {X : Cx} {CX : CXT} {k : Nat} {f C : Addr} {fd : FuncData} {ps : List Str} {sp : Sp} {E : L2.St → XK} {x : Str} {p pos : Pos} {e : Expr} {es : List Expr} {t : TA}
    (M : Mk X.K C f) (F : FnOk X.prog X.w X.K X.mg X.base CX k f fd ps sp) (hr : Room (k + 1) X.A) (hg : Gl X x) (hm : X.mg x = some (.ref C)) (hb : Binds X.K fd ps []) (hx : ∀ σ, PassesAt CX X σ (E σ)) (ha : PA X (e :: es) t)
    (hdb : (x == ("__debug__" : Str)) = false := by decide) (he : starEach (e :: es) X.env = (false, eval e X.env) :: starEach es X.env := by rfl) (hpl : (backTo pos (starEach es X.env)).any (·.1) = false := by rfl) :
    PE X (.Call (.Name x p) (e :: es) [] pos) (tMakeS C sp E t) := by
  constructor
  intro pins s σ H Q I h
  apply wpAny_Call_Name_kw
  apply ld_glob I hg hm _ hdb
  apply PySem.W.callWith_K (h₀ := X.base) I.ok.mod.kin M.kp _ he hpl
  apply thn (ha.run pos pins s σ H _ I h)
  rintro us s1 ⟨vs, H1, I1, r, q⟩
  exact ⟨I1.kIn, make_slots M F hr hb (hx σ) I1 r q⟩
/-! ### lists and tuples of texts as data -/
theorem canAll_strs : ∀ {zs : List Str}, (∀ z ∈ zs, PyData.canLay0 (.str z) = true) → PyData.canLayAll0 (zs.map PyData.str) = true
  | [], _ => by simp [PyData.canLayAll0]
  | z :: r, h => by
    rw [List.map_cons, PyData.canLayAll0, Bool.and_eq_true]
    exact ⟨h z (List.mem_cons_self ..), canAll_strs fun y hy => h y (List.mem_cons_of_mem _ hy)⟩
theorem depthAll_strs : ∀ zs : List Str, PyData.depthAll (zs.map PyData.str) = 0
  | [] => by simp [PyData.depthAll]
  | z :: r => by rw [List.map_cons, PyData.depthAll, depthAll_strs r]; simp [PyData.depth]
theorem shaped_strs {zs : List Str} (h : ∀ z ∈ zs, PyData.canLay0 (.str z) = true) : SeqAt.shaped (.list (zs.map PyData.str)) = true := by
  unfold SeqAt.shaped
  rw [Bool.and_eq_true, PyData.canLay0, PyData.depth, depthAll_strs]
  exact ⟨canAll_strs h, by decide⟩
theorem dpAll_strs {K : PySem.W.Frag} {H : Hp} : ∀ zs : List Str, DpAll K H (zs.map V.str) (zs.map PyData.str)
  | [] => .nil
  | z :: r => .cons (.str z) (dpAll_strs r)
theorem eqvAll_strs : ∀ zs ys : List Str, PyData.eqvAll (zs.map PyData.str) (ys.map PyData.str) = decide (zs = ys)
  | [], [] => by simp [PyData.eqvAll]
  | [], _ :: _ => by simp [PyData.eqvAll]
  | _ :: _, [] => by simp [PyData.eqvAll]
  | z :: r, y :: q => by
    rw [List.map_cons, List.map_cons, PyData.eqvAll, eqvAll_strs r q, PyData.eqv]
    by_cases h1 : z = y <;> by_cases h2 : r = q <;> simp [h1, h2]
end Dl

namespace Dl
open PySem PySem.Spec PyProof.Rows L2
/-! ### names and texts as data -/
def canS (z : Str) : Prop := PyData.canLay0 (.str z) = true
theorem can_of {z : Str} (h : ∀ c ∈ z.cps.toList, c < 1114112) : canS z := by
  unfold canS PyData.canLay0 PyData.strOk
  rw [Array.all_eq_true]
  intro i hi
  exact decide_eq_true (h _ (by simp))
/-- a value that is passed as a name, as data -/
def NmD (H : Hp) : V → Prop
  | .str z => canS z ∧ z.length ≤ 1000
  | .int _ => True
  | .non => True
  | .ref p => ∃ zs : List Str, H p = some (.lst (zs.map V.str)) ∧ ∀ z ∈ zs, canS z
  | _ => False
theorem NmD.ok {H : Hp} {v : V} (h : NmD H v) : NmOk H v := by
  cases v with
  | str z => exact Nat.le_of_lt (small1000 h.2)
  | int i => trivial
  | non => trivial
  | ref p => obtain ⟨zs, e, _⟩ := h; exact ⟨_, e⟩
  | bl _ => exact h.elim
  | byt _ => exact h.elim
  | flt _ => exact h.elim
  | ty _ => exact h.elim
theorem NmD.of {H H' : Hp} {v : V} (s : Same H H') (h : NmD H v) : NmD H' v := by
  cases v with
  | str z => exact h
  | int i => trivial
  | non => trivial
  | ref p => obtain ⟨zs, e, q⟩ := h; exact ⟨zs, s _ _ e, q⟩
  | bl _ => exact h.elim
  | byt _ => exact h.elim
  | flt _ => exact h.elim
  | ty _ => exact h.elim
theorem any_str (es : List Str) (y : Str) : (es.map PyData.str).any (fun z => PyData.eqv z (.str y)) = decide (y ∈ es) := by
  rw [List.any_map]
  induction es with
  | nil => simp
  | cons a r ih =>
    rw [List.any_cons, ih]
    show (PyData.eqv (.str a) (.str y) || decide (y ∈ r)) = _
    rw [PyData.eqv]
    by_cases h : a = y
    · subst h; simp
    · have h2 : ¬ y = a := fun q => h q.symm
      simp [h, h2]
theorem any_no (es : List Str) {d : PyData} (h : ∀ z : Str, PyData.eqv (.str z) d = false) : (es.map PyData.str).any (fun z => PyData.eqv z d) = false := by
  rw [List.any_map, List.any_eq_false]
  intro z _
  show ¬ PyData.eqv (.str z) d = true
  rw [h z]
  decide
/-- the data of a name -/
theorem NmD.dat (K : PySem.W.Frag) {H : Hp} {v : V} (h : NmD H v) : ∃ d, Dp K H v d ∧ PyData.canLay0 d = true ∧ d.depth ≤ 1 ∧ ∀ es : List Str, (es.map PyData.str).any (fun z => PyData.eqv z d) = knows v es := by
  cases v with
  | str z => exact ⟨.str z, .str z, h.1, by simp [PyData.depth], fun es => any_str es z⟩
  | int i => exact ⟨.int i, .int i, by simp [PyData.canLay0], by simp [PyData.depth], fun es => any_no es fun z => by rw [PyData.eqv]⟩
  | non => exact ⟨.none, .non, by simp [PyData.canLay0], by simp [PyData.depth], fun es => any_no es fun z => by rw [PyData.eqv]⟩
  | ref p =>
    obtain ⟨zs, e, q⟩ := h
    refine ⟨.list (zs.map PyData.str), .lst (SqL.of e) (dpAll_strs zs), ?_, ?_, fun es => any_no es fun z => by rw [PyData.eqv]⟩
    · rw [PyData.canLay0]; exact canAll_strs q
    · rw [PyData.depth, depthAll_strs]; decide
  | bl _ => exact h.elim
  | byt _ => exact h.elim
  | flt _ => exact h.elim
  | ty _ => exact h.elim
theorem shaped_of {d : PyData} (h : PyData.canLay0 d = true) (h2 : d.depth ≤ 1) : SeqAt.shaped d = true := by
  unfold SeqAt.shaped
  rw [h, Bool.true_and]
  exact decide_eq_true (by omega)
theorem room65 {k : Nat} {A : Around} (r : Room k A) : A.units + 65 < cLine := by
  have := r.un
  omega
theorem valid_can {z : Str} (h : validN z = true) : canS z := can_of (valid_small h).2
end Dl

/-! Notes: the methods of the operators -/
namespace Dl
open PySem PySem.Spec PyProof.Rows L2
section
variable {X : Cx}
def rInT (K : PySem.W.Frag) (neg : Bool) : R2 := fun x y H Q => ∃ d ds, Dp K H x d ∧ Dp K H y (.tuple ds) ∧ SeqAt.shaped d = true ∧ SeqAt.shaped (.tuple ds) = true ∧ Q (.bl (if neg = true then !ds.any fun z => PyData.eqv z d else ds.any fun z => PyData.eqv z d)) H
theorem tup_can {ds : List PyData} (h : SeqAt.shaped (.tuple ds) = true) : PyData.canLayAll0 ds = true := by
  unfold SeqAt.shaped at h
  rw [Bool.and_eq_true, PyData.canLay0] at h
  exact h.1
theorem op_inT (hu : X.A.units + 65 < cLine) : OpR X (compareOp .In) (rInT X.K false) := by
  intro pins s σ H x y v u Q I rx ry h
  obtain ⟨d, ds, hd, he, sd, se, q⟩ := h
  obtain ⟨as, r1⟩ := Dp.reads I d x v hd rx
  obtain ⟨bs, r2⟩ := Dp.reads I (.tuple ds) y u he ry
  exact SeqAt.in_tuple_reads r2 r1 (tup_can se) (SeqAt.canLay_of_shaped sd) (room_in_shaped sd hu) ⟨.bl _, H, I, rfl, q⟩
theorem op_notInT (hu : X.A.units + 65 < cLine) : OpR X (compareOp .NotIn) (rInT X.K true) := by
  intro pins s σ H x y v u Q I rx ry h
  obtain ⟨d, ds, hd, he, sd, se, q⟩ := h
  obtain ⟨as, r1⟩ := Dp.reads I d x v hd rx
  obtain ⟨bs, r2⟩ := Dp.reads I (.tuple ds) y u he ry
  exact SeqAt.notIn_tuple_reads r2 r1 (tup_can se) (SeqAt.canLay_of_shaped sd) (room_in_shaped sd hu) ⟨.bl _, H, I, rfl, q⟩
end
end Dl

namespace Dl
open PySem PySem.Spec PyProof.Rows L2
theorem int_nd {i j : Int} (h : i ≠ j) : decide (V.int i = V.int j) = false := decide_eq_false fun q => h (V.int.inj q)
theorem int_yd {i : Int} : decide (V.int i = V.int i) = true := decide_eq_true rfl
theorem iteY {c : Bool} {A B : Prop} (e : c = true) (h : A) : if c = true then A else B := by rw [if_pos e]; exact h
theorem iteZ {c : Bool} {A B : Prop} (e : c = false) (h : B) : if c = true then A else B := by rw [if_neg (by rw [e]; decide)]; exact h
end Dl

namespace Dl
open PySem PySem.Spec PyProof.Rows L2
/-- a walk over a list or a tuple -/
def iLT (K : PySem.W.Frag) (tl : TE) : TI := fun σ H R => tl σ H fun x H1 => ∃ a, x = .ref a ∧ (((∃ xs, SqL K H1 a xs) ∧ R (Itl K a) H1) ∨ ((∃ xs, SqT K H1 a xs) ∧ R (Itt K a) H1))
theorem pi_lt {X : Cx} {tg l : Expr} {tl : TE} (seq : PE X l tl) : PI X tg l (iLT X.K tl) := by
  constructor
  intro qs t τ G R J want
  have go := seq.run qs t τ G _ J want
  apply thn go
  rintro v t1 ⟨x, G1, J1, rel, a, rfl, far⟩
  cases rel
  have new : FpOk X qs G1 t1.heap.objs.size := J1.fpOk (Nat.le_refl _) (J1.hok.fresh (Nat.le_refl _))
  have only : ∀ c ∈ [t1.heap.objs.size], FpOk X qs G1 c := fun c hc => by
    rw [List.mem_singleton.mp hc]
    exact new
  rcases far with ⟨⟨xs, sq⟩, r⟩ | ⟨⟨xs, sq⟩, r⟩
  · obtain ⟨items, _, whole, _⟩ := J1.list sq
    apply wpAny_pyIter_list whole.isList
    exact ⟨_, [t1.heap.objs.size], _, _, G1, rfl, J1.kept (t' := t1.toks) fun c o z => Heap.get?_push_of_some _ z, turn_list a _, ⟨_, Heap.get?_push_size _ rfl, rfl, rfl⟩, only, r⟩
  · obtain ⟨items, _, whole, _⟩ := J1.tuple sq
    apply wpAny_pyIter_tuple (show t1.heap.IsTuple a items.toArray from whole)
    exact ⟨_, [t1.heap.objs.size], _, _, G1, rfl, J1.kept (t' := t1.toks) fun c o z => Heap.get?_push_of_some _ z, turn_tuple a _, ⟨_, Heap.get?_push_size _ rfl, rfl, rfl⟩, only, r⟩
end Dl

namespace Dl
open PySem PySem.Spec PyProof.Rows L2
structure TxtS (mg : Str → Option Value) : Prop where
  isinstance : mg "isinstance" = none
  bool : mg "bool" = none
  int : mg "int" = none
  tuple : mg "tuple" = none
  list : mg "list" = none
  len : mg "len" = none
def spIs : Sp := fun vs H Q _ => ∃ a b : Bool, vs = [.bl a, .bl b] ∧ a = b ∧ Q (.bl true) H
section
variable {P : Program} {w : World} {K : PySem.W.Frag} {mg : Str → Option Value} {base : Heap}
theorem scLawIs : FnScope ["_law_value", "_law_due"] ["_law_value", "_law_due"] (defScope sLawIs) := ⟨rfl, rfl, rfl, by decide +kernel, rfl, by decide +kernel, by decide +kernel⟩
theorem ok_is {f : Addr} {fd : FuncData} (F : Fun K "_law_is" "_law_is" sLawIs f fd) (T : TxtS mg) : FnOk P w K mg base CX0 1 f fd ["_law_value", "_law_due"] spIs := by
  refine F.ok scLawIs (fun vs H Q E h => ?_) (fun cdv A outer s H vs Q E hr h => ?_)
  · obtain ⟨a, b, rfl, _⟩ := h
    rfl
  · obtain ⟨a, b, rfl, rfl, k⟩ := h
    refine ⟨_, (pss_one (ps_ret (pe_and (pe_callB call_isi (by rfl) T.isinstance (by decide +kernel) (pa_cons (pv 0) (pa_cons (pe_bltn (v := .ty "bool") (by rfl) T.bool (by decide +kernel) rfl) pa_nil))) (pe_one (pe_cmpR op_eq (pv 0) (pv 1) (nomark _)))))), ?_⟩
    refine ⟨_, rfl, _, _, _, _, true, rfl, ClsV.ty "bool", .base (.bl a), kit_ty (by decide +kernel), true, rfl, iteT ?_⟩
    refine ⟨_, rfl, _, rfl, rfl, ?_⟩
    rw [decide_eq_true (rfl : V.bl a = V.bl a)]
    exact k
end
end Dl

/-! rules for nodes: a method of one of several classes; not in a list of instances without an own __eq__; t[::-1] of a tuple -/
namespace Dl
open PySem PySem.Spec PyProof.Rows L2
section
variable {X : Cx} {CX : CXT} {k : Nat} {fd : FuncData} {ps : List Str} {E : XK}
/-- o.m(..), o an instance of one of the classes of D -/
def tMethD (D : Addr → Prop) (m : Str) (sp : Addr → Sp) (E : XK) (ta : TE) (t : TA) : TE := fun σ H Q => ta σ H fun x H1 => ∃ a C dx fs, x = .ref a ∧ H1 a = some (.ins C dx fs) ∧ D C ∧ fs.lookup m = none ∧
  t σ H1 fun vs H2 => sp C (x :: vs) H2 Q E
structure HasM (P : Program) (w : World) (K : PySem.W.Frag) (mg : Str → Option Value) (base : Heap) (CX : CXT) (k : Nat) (m : Str) (ps : List Str) (sp : Addr → Sp) (C : Addr) : Prop where
  cl : Cls K C
  ex : ∃ f fd, Meth K C m f ∧ Binds K fd ps [] ∧ FnOk P w K mg base CX k f fd ps (sp C)
theorem pe_methD {D : Addr → Prop} {sp : Addr → Sp} {o e : Expr} {es : List Expr} {ta : TE} {t : TA} {m : Str} {apos pos : Pos} {pl : Sem Bool} (he : PE X o ta) (hD : ∀ C, D C → HasM X.prog X.w X.K X.mg X.base CX k m ps sp C) (hr : Room k X.A) (hx : Passes CX X E) (ha : PA X (e :: es) t)
    (hst : starEach (e :: es) X.env = (false, eval e X.env) :: starEach es X.env := by rfl) (hpl : (backTo pos (starEach es X.env)).any (·.1) = false := by rfl)
    (ht : eval (.Call (.Attribute o m apos) (e :: es) [] pos) X.env = (do
      let ov ← eval o X.env
      standAt apos.atName
      let (f, first) ← holding [ov] (getMethod ov m pl)
      callWith pos f first (backTo pos (starEach (e :: es) X.env)) (backToKw pos (keywordEach [] X.env))) := by rfl) :
    PE X (.Call (.Attribute o m apos) (e :: es) [] pos) (tMethD D m sp E ta t) := by
  refine ⟨fun pins s σ H Q I h => ?_⟩
  refine PySem.W.methodCall_KW (pl := pl) (thn (he.run pins s σ H _ I h) fun u s1 ⟨x, H1, I1, rx, a, C, dx, fs, ex, ea, dC, l, q⟩ => ?_) ht
  subst ex
  obtain rfl : u = Value.ref a := rx
  obtain ⟨c, f, fd, hm, hb, F⟩ := hD C dC
  refine getmeth_ok I1 ea c hm l ?_
  refine PySem.W.callWith_K (first := [.ref a]) (h₀ := X.base) I.ok.mod.kin hm.kp (thn (ha.run pos pins s1 σ H1 _ I1 q) fun us s2 ⟨vs, H2, I2, r, q2⟩ => ⟨I2.kIn, ?_⟩) hst hpl
  exact run_fn (us := .ref a :: us) (vs := .ref a :: vs) F hr hb (dvs := []) .nil hx I2 (.cons rfl r) (by rw [List.append_nil]; exact q2)
theorem pe_methD0 {D : Addr → Prop} {sp : Addr → Sp} {o : Expr} {ta : TE} {m : Str} {apos pos : Pos} {pl : Sem Bool} (he : PE X o ta) (hD : ∀ C, D C → HasM X.prog X.w X.K X.mg X.base CX k m ps sp C) (hr : Room k X.A) (hx : Passes CX X E)
    (ht : eval (.Call (.Attribute o m apos) [] [] pos) X.env = (do
      let ov ← eval o X.env
      standAt apos.atName
      let (f, first) ← holding [ov] (getMethod ov m pl)
      callWith pos f first (backTo pos (starEach [] X.env)) (backToKw pos (keywordEach [] X.env))) := by rfl) :
    PE X (.Call (.Attribute o m apos) [] [] pos) (tMethD D m sp E ta tNil) := by
  refine ⟨fun pins s σ H Q I h => ?_⟩
  refine PySem.W.methodCall_KW (pl := pl) (thn (he.run pins s σ H _ I h) fun u s1 ⟨x, H1, I1, rx, a, C, dx, fs, ex, ea, dC, l, q⟩ => ?_) ht
  subst ex
  obtain rfl : u = Value.ref a := rx
  obtain ⟨c, f, fd, hm, hb, F⟩ := hD C dC
  refine getmeth_ok I1 ea c hm l ?_
  exact PySem.W.callWith_K0 (first := [.ref a]) I1.kIn hm.kp (run_fn (us := [.ref a]) (vs := [.ref a]) F hr hb (dvs := []) .nil hx I1 (.cons rfl .nil) q)
end
end Dl

/-! x not in a list of instances whose classes have no own __eq__ -/
namespace Dl
open PySem PySem.Spec PyProof.Rows L2
structure PlainEq (K : PySem.W.Frag) (D : Addr → Prop) : Prop where
  eq : ∀ C, D C → PySem.W.findIn K (.ref C) "__eq__" = some (some (.builtin "object.__eq__"))
  mro : ∀ C, D C → PySem.W.mroIn K C (.type "object") = some true
  nf : ∀ C C', D C → D C' → PySem.W.notFirst K C (.ref C') = true
section
variable {A : Around} {E : Value → Shared → Prop} {s : Shared} {K : PySem.W.Frag}
theorem check_slot_K2 {M : Model} {id n : String} {rest : List Value} {x C : Addr} {ox : Obj} {od : Option Obj} {Q : Unit → Shared → Prop} (X : K.In s.heap) (I : PySem.W.InstAt s.heap x ox C od) (hm : PySem.W.mroIn K C (.type "object") = some true) (hk : builtinKind id = some .slot) (hs : splitId id = some ("object", n))
    (ha : argsOk id ⟨.ref x :: rest, []⟩) (hq : Q () s) : wpAny M A (checkBuiltinCall id ⟨.ref x :: rest, []⟩) Q E s := by
  simp only [checkBuiltinCall, hk, hs]
  refine wpAny_bind ?_
  unfold isInstance
  refine wpAny_bind (I.type.here ((PySem.W.looks_mroIn X hm).here ?_))
  repeat wp_step
  cases hsig : Manifest.signature? id with
  | none => exact wpAny_pure hq
  | some sig =>
    simp only [argsOk, hsig] at ha
    have h2 : Bind.checkArgs id sig ⟨.ref x :: rest, []⟩ = pure () := ha
    show wpAny M A (Bind.checkArgs id sig ⟨.ref x :: rest, []⟩) Q E _
    rw [h2]; exact wpAny_pure hq
theorem ifBoundB_K2 {M : Model} {x C : Addr} {ox : Obj} {od : Option Obj} {args : List Value} {name : Str} {id : String} {Q : Option Value → Shared → Prop} (X : K.In s.heap) (I : PySem.W.InstAt s.heap x ox C od) (hs : PySem.W.findIn K (.ref C) name = some (some (.builtin id))) {B : String} (S : Slot B name id)
    (h : wpAny M A (call (.builtin id) (.ref x :: args)) (fun v => Q (some v)) E s) : wpAny M A (callSpecialIfBound? (.ref x) name args) Q E s := by
  simp only [callSpecialIfBound?, bindSpecialIfBound?]
  refine wpAny_holding (wpAny_bind (wpAny_bind (wpAny_bind (I.type.here ((PySem.W.looks_findIn X hs).here ?_)))))
  simp only [S.bind]
  refine wpAny_bind (wpAny_askSetting (wpAny_ite ?_))
  have fin : wpAny M A (call (.builtin id) ([.ref x] ++ args) >>= fun v => pure (some v)) Q E s := wpAny_bind (wpAny_mono h (fun v s' h' => wpAny_pure h') fun _ _ h' => h')
  split
  · exact wpAny_bind (wpAny_pure (wpAny_pure fin))
  · exact wpAny_tryCatch (wpAny_bind (wpAny_pure (wpAny_pure fin)))
theorem try_inst {prog : Program} {w : World} {x y C : Addr} {ox oy : Obj} {od od' : Option Obj} {C' : Addr} {Q : Option Value → Shared → Prop} (X : K.In s.heap) (I : PySem.W.InstAt s.heap x ox C od) (J : PySem.W.InstAt s.heap y oy C' od')
    (he : PySem.W.findIn K (.ref C) "__eq__" = some (some (.builtin "object.__eq__"))) (hm : PySem.W.mroIn K C (.type "object") = some true) (hxy : x ≠ y) (h : Q none s) : wpAny (model prog w) A (tryCompare (.ref x) "__eq__" (.ref y)) Q E s := by
  unfold tryCompare
  have nt : ox.cls ≠ .type "tuple" := by rw [I.cls]; intro e; cases e
  refine wpAny_bind (ifBoundB_K2 X I he PySem.F.cmp_object.eq (wpAny_call (codeAny_call_builtin PySem.F.cmp_object.eq.plain PySem.F.cmpEntry_eq
      (check_slot_K2 X I hm PySem.F.cmpKind_eq PySem.F.cmpSplit_eq (PySem.F.cmpArgs_eq _ _) (objEq_entry_other hxy I.at_ J.at_ nt ?_)))))
  exact wpAny_pure h
theorem eq_inst {prog : Program} {w : World} {x y C C' : Addr} {ox oy : Obj} {od od' : Option Obj} {Q : Value → Shared → Prop} (hu : A.units < cLine) (X : K.In s.heap) (I : PySem.W.InstAt s.heap x ox C od) (J : PySem.W.InstAt s.heap y oy C' od')
    (he : PySem.W.findIn K (.ref C) "__eq__" = some (some (.builtin "object.__eq__"))) (hm : PySem.W.mroIn K C (.type "object") = some true)
    (he' : PySem.W.findIn K (.ref C') "__eq__" = some (some (.builtin "object.__eq__"))) (hm' : PySem.W.mroIn K C' (.type "object") = some true) (hn : PySem.W.notFirst K C (.ref C') = true) (hxy : x ≠ y)
    (h : Q (.bool false) s) : wpAny (model prog w) A (richCompare .Eq (.ref x) (.ref y)) Q E s := by
  have nt : ox.cls ≠ .type "tuple" := by rw [I.cls]; intro e; cases e
  have last : wpAny (model prog w) A (isSame (.ref x) (.ref y) >>= fun b => pure (Value.bool b)) Q E s := wpAny_bind (wpAny_isSame_ref_other hxy I.at_ J.at_ nt (wpAny_pure h))
  have two : wpAny (model prog w) A (tryCompare (.ref y) "__eq__" (.ref x)) (fun r s' => r = none ∧ s' = s) E s := try_inst X J I he' hm' hxy.symm ⟨rfl, rfl⟩
  have one : wpAny (model prog w) A (tryCompare (.ref x) "__eq__" (.ref y)) (fun r s' => r = none ∧ s' = s) E s := try_inst X I J he hm hxy ⟨rfl, rfl⟩
  unfold richCompare
  simp only [oneThing_ref]
  refine wpAny_holding (wpAny_bind (wpAny_cRoomFor hu ?_))
  show wpAny _ _ (typeOf (.ref x) >>= _) _ _ s
  refine wpAny_bind (I.type.here (wpAny_bind (J.type.here ?_)))
  split
  · rename_i q
    have e : PySem.W.subIn K (.ref C') (.ref C) = some false := by
      rcases Bool.or_eq_true_iff.mp hn with e | e
      · rw [beq_iff_eq.mp e] at q; simp at q
      · exact beq_iff_eq.mp e
    refine wpAny_bind ((PySem.W.looks_subIn X e).here ?_)
    simp only [Bool.false_eq_true, if_false]
    refine wpAny_bind (wpAny_mono one (fun r s' z => ?_) fun _ _ e => e)
    obtain ⟨rfl, rfl⟩ := z
    refine wpAny_bind (wpAny_mono two (fun r s' z => ?_) fun _ _ e => e)
    obtain ⟨rfl, rfl⟩ := z
    first | exact last | exact wpAny_bind (wpAny_rule (wpAny_pure last)) | exact wpAny_rule last | exact wpAny_bind (wpAny_rule last)
  · refine wpAny_bind (wpAny_pure ?_)
    simp only [Bool.false_eq_true, if_false]
    refine wpAny_bind (wpAny_mono one (fun r s' z => ?_) fun _ _ e => e)
    obtain ⟨rfl, rfl⟩ := z
    refine wpAny_bind (wpAny_mono two (fun r s' z => ?_) fun _ _ e => e)
    obtain ⟨rfl, rfl⟩ := z
    first | exact last | exact wpAny_bind (wpAny_rule (wpAny_pure last)) | exact wpAny_rule last | exact wpAny_bind (wpAny_rule last)
end
section
variable {X : Cx}
def InsOf (D : Addr → Prop) (H : Hp) (a : Addr) : Prop := ∃ C dx fs, H a = some (.ins C dx fs) ∧ D C
def rNotInI (K : PySem.W.Frag) (D : Addr → Prop) : R2 := fun x y H Q => ∃ (a p : Addr) (ls : List Addr), x = .ref a ∧ y = .ref p ∧ SqL K H p (ls.map V.ref) ∧ InsOf D H a ∧ (∀ b ∈ ls, InsOf D H b) ∧ Q (.bl (!decide (a ∈ ls))) H
theorem vals_refs : ∀ {ls : List Addr} {us : List Value}, Vals (ls.map V.ref) us → us = ls.map Value.ref
  | [], _, .nil => rfl
  | a :: r, _ :: us, .cons h t => by
    cases h
    rw [List.map_cons, vals_refs t]
theorem any_refs (a : Addr) : ∀ ls : List Addr, (ls.map Value.ref).any (fun u => decide (u = Value.ref a)) = decide (a ∈ ls)
  | [] => by simp
  | b :: r => by
    rw [List.map_cons, List.any_cons, any_refs a r]
    by_cases e : b = a
    · simp [e]
    · have e2 : ¬ a = b := fun q => e q.symm
      simp [e, e2]
theorem op_notInI {D : Addr → Prop} (pe : PlainEq X.K D) (hu : X.A.units + 1 < cLine) : OpR X (compareOp .NotIn) (rNotInI X.K D) := by
  intro pins s σ H x y v u Q I rx ry h
  obtain ⟨a, p, ls, rfl, rfl, hq, ha, hb, q⟩ := h
  cases rx
  cases ry
  obtain ⟨its, r, pl, hz⟩ := I.list hq
  obtain rfl := vals_refs r
  obtain ⟨C, dx, fs, ea, dC⟩ := ha
  obtain ⟨mA, JA, _⟩ := ins_get I.hok ea
  obtain ⟨od, JA, _⟩ := JA.look
  refine SeqAt.notIn_listAt (fun u => decide (u = Value.ref a)) pl.isList (fun w hw => ?_) ⟨.bl _, H, I, rfl, ?_⟩
  · obtain ⟨b, hbm, rfl⟩ := List.mem_map.mp (by simpa using hw)
    by_cases e : b = a
    · subst e
      rw [decide_eq_true rfl]
      exact SeqAt.EqAt.same _
    · rw [decide_eq_false (fun z => e (by injection z))]
      obtain ⟨C', dy, gs, eb, dC'⟩ := hb b hbm
      obtain ⟨mB, JB, _⟩ := ins_get I.hok eb
      obtain ⟨od', JB, _⟩ := JB.look
      exact SeqAt.EqAt.of_refs e fun prog w E Q hq => eq_inst hu I.kIn JB JA (pe.eq _ dC') (pe.mro _ dC') (pe.eq _ dC) (pe.mro _ dC) (pe.nf _ _ dC' dC) e hq
  · have e : (ls.map Value.ref).toArray.any (fun u => decide (u = Value.ref a)) = decide (a ∈ ls) := by
      rw [List.any_toArray, any_refs]
    rw [e]
    exact q
end
end Dl

/-! t[::-1] of a tuple -/
namespace HT2
open PySem PySem.Spec PyProof.Rows HT
section
variable {prog : Program} {w : World} {A : Around} {E : Value → Shared → Prop} {s : Shared}
theorem adjust_rev (n : Nat) : Builtin.Slice.sliceAdjust none none (-1) (n : Int) = ((n : Int) - 1, -1) := by
  unfold Builtin.Slice.sliceAdjust
  simp
theorem places_rev (n : Nat) : Builtin.Slice.slicePlaces ((n : Int) - 1) (-1) (-1) = n := by
  unfold Builtin.Slice.slicePlaces
  have h1 : ¬ ((-1 : Int) > 0) := by omega
  have e : (-(-1 : Int)) = 1 := by decide
  simp only [h1, if_false, e, Int.ediv_one]
  split <;> omega
theorem sliceApplied_rev {sl : Addr} {vs : Value} {n : Nat} {Q : Int × Int × Nat → Shared → Prop} (hs : s.heap.IsSliceOf sl .none .none vs) (ps : IsPart vs (some (-1)))
    (h : Q ((n : Int) - 1, -1, n) s) : wpAny (model prog w) A (Builtin.Slice.sliceApplied (.ref sl) (pure (n : Int))) Q E s := by
  obtain ⟨os, hos, hcs, hds⟩ := id hs
  unfold Builtin.Slice.sliceApplied Builtin.Slice.sliceFields
  refine wpAny_bind (wpAny_bind (wpAny_field hos hds (x := .none) rfl (wpAny_bind (wpAny_field hos hds (x := .none) rfl (wpAny_bind (wpAny_field hos hds (x := vs) rfl (wpAny_pure ?_)))))))
  refine wpAny_bind (slicePart_ ps ?_)
  show wpAny _ _ (if ((-1 : Int) == 0) = true then _ else _) _ _ s
  rw [if_neg (by decide)]
  refine wpAny_bind (slicePart_none (wpAny_bind (slicePart_none (wpAny_bind (wpAny_pure ?_)))))
  show wpAny _ _ (match Builtin.Slice.sliceAdjust none none (-1) (n : Int) with | (lo, hi) => pure (lo, (-1 : Int), Builtin.Slice.slicePlaces lo hi (-1))) _ _ s
  rw [adjust_rev n]
  show wpAny _ _ (pure ((n : Int) - 1, (-1 : Int), Builtin.Slice.slicePlaces ((n : Int) - 1) (-1) (-1))) _ _ s
  rw [places_rev]
  exact wpAny_pure h
theorem pick_rev (xs : Array Value) : ((List.range xs.size).filterMap fun (m : Nat) => xs[((xs.size : Int) - 1 + (m : Int) * (-1)).toNat]?).toArray = xs.toList.reverse.toArray := by
  have e : ((List.range xs.size).filterMap fun (m : Nat) => xs[((xs.size : Int) - 1 + (m : Int) * (-1)).toNat]?) = ((List.range xs.size).map fun k => xs.size - 1 - k).filterMap (xs[·]?) := by
    have e1 : ((List.range xs.size).map fun (m : Nat) => ((xs.size : Int) - 1 + (m : Int) * (-1)).toNat) = (List.range xs.size).map fun k => xs.size - 1 - k := by
      apply List.map_congr_left
      intro m hm
      have := List.mem_range.mp hm
      omega
    rw [← e1, List.filterMap_map]
    rfl
  rw [e, PySem.W.krv_range, List.filterMap_reverse, PySem.W.krv_all]
theorem getItem_tuple_rev {t sl : Addr} {items : Array Value} {vs : Value} {Q : Value → Shared → Prop} (ht : IsTup s.heap t items) (hs : s.heap.IsSliceOf sl .none .none vs) (ps : IsPart vs (some (-1)))
    (h : Q (.ref s.heap.objs.size) { s with heap := s.heap.push { cls := .type "tuple", data := .seq items.toList.reverse.toArray } })
    (hsz : items.size ≤ sizeLine) : wpAny (model prog w) A (getItem (.ref t) (.ref sl)) Q E s := by
  have htake : sizeOk (.seq items.toList.reverse.toArray) := by
    show items.toList.reverse.toArray.size ≤ sizeLine
    rw [List.size_toArray, List.length_reverse, Array.length_toList]
    exact hsz
  obtain ⟨os, hos, hcs, hds⟩ := id hs
  have hTs : s.TypeIs (.ref sl) "slice" := ⟨os, hos, hcs⟩
  unfold getItem
  try with_reducible refine wpAny_holding ?_
  first | refine wpAny_bind (wpAny_pure ?_) | skip
  refine wpAny_bind (wpAny_sequenceKey ht.typeIs (by decide) ?_)
  refine wpAny_bind (wpAny_callSpecial?_slot (name := Str.ofString "__getitem__") ht.typeIs PyProof.Rows.slot_tuple_getitem
    (wpAny_call_entry PyProof.Rows.slot_tuple_getitem ht.typeIs entry_tuple_getitem ?_ (args_tuple_getitem _ _)))
  show wpAny _ _ (Builtin.Tuple.tupleItemsOf (.ref t) >>= _) _ _ s
  refine wpAny_bind (tupleItemsOf_ ht ?_)
  refine wpAny_bind (wpAny_typeOf hTs ?_)
  rw [if_pos (by decide)]
  refine wpAny_bind (sliceApplied_rev hs ps ?_)
  have hno : ¬ ((((items.size : Int) - 1) == 0 && (-1 : Int) == 1 && items.size == items.size) = true) := by
    simp
  show wpAny _ _ (if (((items.size : Int) - 1) == 0 && (-1 : Int) == 1 && items.size == items.size) = true then _ else _) _ _ s
  rw [if_neg hno, pick_rev]
  first
    | exact wpAny_bind (m := Builtin.Tuple.tupleExact _) (wpAny_newObj_type (wpAny_pure ⟨_, rfl, wpAny_pure h⟩) htake)
    | exact wpAny_bind (m := Builtin.Tuple.tupleExact _) (wpAny_newObj_type (wpAny_bind (wpAny_pure (wpAny_pure ⟨_, rfl, wpAny_pure h⟩))) htake)
    | exact wpAny_bind (wpAny_bind (m := Builtin.Tuple.tupleExact _) (wpAny_newObj_type (wpAny_pure (wpAny_pure ⟨_, rfl, wpAny_pure h⟩)) htake))
    | exact wpAny_bind (wpAny_bind (m := Builtin.Tuple.tupleExact _) (wpAny_newObj_type (wpAny_pure ⟨_, rfl, wpAny_pure h⟩) htake))
end
end HT2
namespace Dl
open PySem PySem.Spec PyProof.Rows L2
section
variable {X : Cx}
def tRevT (K : PySem.W.Frag) (te ts : TE) : TE := fun σ H Q => te σ H fun x H1 => ts σ H1 fun y H2 => y = .int (-1) ∧ ∃ a xs, x = .ref a ∧ SqT K H2 a xs ∧ ∀ p, H2 p = none → Q (.ref p) (upd H2 p (.tup xs.reverse))
theorem pe_revT {e st : Expr} {te ts : TE} {pos p2 : Pos} (he : PE X e te) (hs : PE X st ts) : PE X (.Subscript e (.Slice none none (some st) p2) pos) (tRevT X.K te ts) := by
  refine ⟨fun pins s σ H Q I h => ?_⟩
  refine Subscript_ (thn (he.run pins s σ H _ I h) fun v s1 ⟨x, H1, I1, r1, q1⟩ => ?_)
  refine wpAny_Slice ?_
  rw [evalPart_none]
  refine wpAny_pure (wpAny_pure ?_)
  rw [evalPart_some]
  refine thn (hs.run pins s1 σ H1 _ I1 q1) fun vs s3 ⟨y, H2, I3, r2, ey, a, xs, ex, hx, q⟩ => ?_
  subst ex
  subst ey
  obtain rfl : v = Value.ref a := r1
  obtain ⟨t, rfl⟩ := r2
  have I4 : Inv X pins σ H2 { s3 with heap := s3.heap.push { cls := .type "slice", data := .fields #[.none, .none, .int (-1) t] } } := I3.kept (t' := s3.toks) fun b ob q => Heap.get?_push_of_some _ q
  obtain ⟨its, r, ht, hz⟩ := I4.tuple hx
  show wpAny (model X.prog X.w) X.A (subscriptTail e (.Slice none none (some st) p2) (.ref a) (.ref s3.heap.objs.size)) (EP X pins σ Q) X.xe { s3 with heap := s3.heap.push { cls := .type "slice", data := .fields #[.none, .none, .int (-1) t] } }
  refine tail_any (ops := [.ref a, .ref s3.heap.objs.size]) ht.typeIs PyProof.Rows.slot_tuple_getitem.lookup ?_ (by with_unfolding_all rfl)
  have hlen : its.toArray.size = xs.length := by rw [List.size_toArray]; exact r.length.symm
  refine HT2.getItem_tuple_rev ht (Heap.IsSliceOf.new ..) (.int (-1) t) ?_ (by rw [hlen]; exact hz)
  refine ⟨.ref _, _, I4.laid (t' := s3.toks) (o := .tup xs.reverse) (fun b ob q => Heap.get?_push_of_some _ q) (Nat.le_refl _) ?_, rfl, q _ (I4.hok.fresh (Nat.le_refl _))⟩
  have rr : Vals xs.reverse its.reverse := by
    have go : ∀ {xs : List V} {its : List Value} {ys : List V} {js : List Value}, Vals xs its → Vals ys js → Vals (xs.reverse ++ ys) (its.reverse ++ js) := by
      intro xs its ys js h
      induction h generalizing ys js with
      | nil => intro q; exact q
      | cons a b ih => intro q; rw [List.reverse_cons, List.reverse_cons, List.append_assoc, List.append_assoc]; exact ih (.cons a q)
    have := go r .nil
    rwa [List.append_nil, List.append_nil] at this
  exact ⟨by rw [List.length_reverse]; exact hz, _, rr, IsTup.new _ _⟩
end
end Dl

/-! shapes, their orders, and what begins an order -/
namespace Dl
open PySem
inductive Sh where
  | leaf (n : Str)
  | br (row : Bool) (ps : List Sh)
mutual
def Sh.leaves : Sh → List Str
  | .leaf n => [n]
  | .br _ ps => Sh.leavesL ps
def Sh.leavesL : List Sh → List Str
  | [] => []
  | p :: r => p.leaves ++ Sh.leavesL r
end
mutual
def Sh.depth : Sh → Nat
  | .leaf _ => 0
  | .br _ ps => Sh.depthL ps + 1
def Sh.depthL : List Sh → Nat
  | [] => 0
  | p :: r => max p.depth (Sh.depthL r)
end
theorem leavesL_eq : ∀ ps : List Sh, Sh.leavesL ps = ps.flatMap Sh.leaves
  | [] => rfl
  | p :: r => by rw [Sh.leavesL, leavesL_eq r, List.flatMap_cons]
theorem leaves_br (row : Bool) (ps : List Sh) : (Sh.br row ps).leaves = ps.flatMap Sh.leaves := by rw [Sh.leaves, leavesL_eq]
theorem depth_mem : ∀ {ps : List Sh} {p : Sh}, p ∈ ps → p.depth ≤ Sh.depthL ps
  | q :: r, p, h => by
    rw [Sh.depthL]
    rcases List.mem_cons.mp h with rfl | h
    · omega
    · have := depth_mem h
      omega
theorem depthL_le : ∀ {ps : List Sh} {d : Nat}, (∀ p ∈ ps, p.depth ≤ d) → Sh.depthL ps ≤ d
  | [], d, _ => Nat.zero_le _
  | q :: r, d, h => by
    rw [Sh.depthL]
    have h1 := h q (List.mem_cons_self ..)
    have h2 := depthL_le (ps := r) (d := d) fun p hp => h p (List.mem_cons_of_mem _ hp)
    omega
inductive Sh.Ok : Sh → Prop where
  | leaf (n : Str) : Ok (.leaf n)
  | br (row : Bool) (ps : List Sh) : 2 ≤ ps.length → ps.length ≤ 4 → (row = true → 3 ≤ ps.length) → (∀ p ∈ ps, Ok p) → Ok (.br row ps)
/-- all ways to write one of each behind the other -/
def prodO : List (List (List Str)) → List (List Str) := fun xss => xss.foldl (fun (made inner : List (List Str)) => made.flatMap fun o => inner.map fun i => o ++ i) [[]]
def waysN (n : Nat) : Nat → List (List Nat)
  | 0 => [[]]
  | t + 1 => (waysN n t).flatMap fun w => ((List.range n).filter fun k => decide (k ∉ w)).map fun k => w ++ [k]
def ways : Bool → Nat → List (List Nat)
  | true, n => [List.range n, (List.range n).map fun k => n - 1 - k]
  | false, n => waysN n n
mutual
def Sh.orders : Sh → List (List Str)
  | .leaf n => [[n]]
  | .br row ps => (ways row ps.length).flatMap fun w => prodO (w.map fun k => (Sh.ordersL ps).getD k [])
def Sh.ordersL : List Sh → List (List (List Str))
  | [] => []
  | p :: r => p.orders :: Sh.ordersL r
end
theorem ordersL_eq : ∀ ps : List Sh, Sh.ordersL ps = ps.map Sh.orders
  | [] => rfl
  | p :: r => by rw [Sh.ordersL, ordersL_eq r, List.map_cons]
def begO (os : List (List Str)) (pre : List Str) : Bool := os.any fun o => decide (o.take pre.length = pre)
def Sh.begins (s : Sh) (pre : List Str) : Bool := begO s.orders pre
def beginsL (ps : List Sh) (pre : List Str) : Bool := begO (prodO (ps.map Sh.orders)) pre
theorem begO_iff {os : List (List Str)} {pre : List Str} : begO os pre = true ↔ ∃ o ∈ os, o.take pre.length = pre := by
  unfold begO
  rw [List.any_eq_true]
  constructor
  · rintro ⟨o, h, e⟩; exact ⟨o, h, of_decide_eq_true e⟩
  · rintro ⟨o, h, e⟩; exact ⟨o, h, decide_eq_true e⟩
/-! the product -/
theorem prod_from : ∀ (xss : List (List (List Str))) (acc : List (List Str)) (o : List Str), o ∈ xss.foldl (fun (made inner : List (List Str)) => made.flatMap fun o => inner.map fun i => o ++ i) acc ↔ ∃ a ∈ acc, ∃ b ∈ prodO xss, o = a ++ b
  | [], acc, o => by
    show o ∈ acc ↔ ∃ a ∈ acc, ∃ b ∈ ([[]] : List (List Str)), o = a ++ b
    constructor
    · intro h; exact ⟨o, h, [], List.mem_singleton.mpr rfl, by simp⟩
    · rintro ⟨a, ha, b, hb, rfl⟩
      rw [List.mem_singleton.mp hb, List.append_nil]; exact ha
  | x :: r, acc, o => by
    have two : ∀ (acc : List (List Str)) (o : List Str), o ∈ (x :: r).foldl (fun (made inner : List (List Str)) => made.flatMap fun o => inner.map fun i => o ++ i) acc ↔ ∃ a ∈ acc, ∃ i ∈ x, ∃ b ∈ prodO r, o = a ++ i ++ b := fun acc o => by
      rw [List.foldl_cons, prod_from r]
      constructor
      · rintro ⟨a, ha, b, hb, rfl⟩
        obtain ⟨c, hc, h⟩ := List.mem_flatMap.mp ha
        obtain ⟨i, hi, rfl⟩ := List.mem_map.mp h
        exact ⟨c, hc, i, hi, b, hb, rfl⟩
      · rintro ⟨a, ha, i, hi, b, hb, rfl⟩
        exact ⟨a ++ i, List.mem_flatMap.mpr ⟨a, ha, List.mem_map.mpr ⟨i, hi, rfl⟩⟩, b, hb, rfl⟩
    rw [two]
    constructor
    · rintro ⟨a, ha, i, hi, b, hb, rfl⟩
      exact ⟨a, ha, i ++ b, (two [[]] (i ++ b)).mpr ⟨[], List.mem_singleton.mpr rfl, i, hi, b, hb, by simp⟩, by simp⟩
    · rintro ⟨a, ha, c, hc, rfl⟩
      obtain ⟨z, hz, i, hi, b, hb, rfl⟩ := (two [[]] c).mp hc
      rw [List.mem_singleton.mp hz]
      exact ⟨a, ha, i, hi, b, hb, by simp⟩
theorem mem_prod_cons {x : List (List Str)} {r : List (List (List Str))} {o : List Str} : o ∈ prodO (x :: r) ↔ ∃ i ∈ x, ∃ b ∈ prodO r, o = i ++ b := by
  show o ∈ r.foldl _ (([[]] : List (List Str)).flatMap fun o => x.map fun i => o ++ i) ↔ _
  rw [prod_from]
  constructor
  · rintro ⟨a, ha, b, hb, rfl⟩
    obtain ⟨c, hc, h⟩ := List.mem_flatMap.mp ha
    obtain ⟨i, hi, rfl⟩ := List.mem_map.mp h
    rw [List.mem_singleton.mp hc]
    exact ⟨i, hi, b, hb, by simp⟩
  · rintro ⟨i, hi, b, hb, rfl⟩
    exact ⟨i, List.mem_flatMap.mpr ⟨[], List.mem_singleton.mpr rfl, List.mem_map.mpr ⟨i, hi, by simp⟩⟩, b, hb, rfl⟩
theorem mem_prod_nil {o : List Str} : o ∈ prodO [] ↔ o = [] := by
  show o ∈ ([[]] : List (List Str)) ↔ _
  exact List.mem_singleton
theorem mem_prod_append {xs ys : List (List (List Str))} {o : List Str} : o ∈ prodO (xs ++ ys) ↔ ∃ a ∈ prodO xs, ∃ b ∈ prodO ys, o = a ++ b := by
  show o ∈ (xs ++ ys).foldl _ [[]] ↔ _
  rw [List.foldl_append, prod_from]
  rfl
/-! the ways -/
theorem mem_waysN {n : Nat} : ∀ {t : Nat} {w : List Nat}, w ∈ waysN n t ↔ w.length = t ∧ w.Nodup ∧ ∀ k ∈ w, k < n
  | 0, w => by
    show w ∈ ([[]] : List (List Nat)) ↔ _
    rw [List.mem_singleton]
    constructor
    · rintro rfl; simp
    · rintro ⟨h, _⟩; exact List.eq_nil_of_length_eq_zero h
  | t + 1, w => by
    unfold waysN
    rw [List.mem_flatMap]
    constructor
    · rintro ⟨v, hv, h⟩
      obtain ⟨k, hk, rfl⟩ := List.mem_map.mp h
      obtain ⟨k1, k2⟩ := List.mem_filter.mp hk
      have k2 := of_decide_eq_true k2
      obtain ⟨a1, a2, a3⟩ := mem_waysN.mp hv
      refine ⟨by simp [a1], List.nodup_append.mpr ⟨a2, by simp, fun a ha b hb e => k2 (by rw [List.mem_singleton] at hb; rw [← hb, ← e]; exact ha)⟩, fun j hj => ?_⟩
      rcases List.mem_append.mp hj with h | h
      · exact a3 j h
      · rw [List.mem_singleton.mp h]; exact List.mem_range.mp k1
    · rintro ⟨h1, h2, h3⟩
      rcases List.eq_nil_or_concat w with rfl | ⟨v, k, rfl⟩
      · simp at h1
      · simp only [List.concat_eq_append] at h1 h2 h3 ⊢
        obtain ⟨n1, _, n3⟩ := List.nodup_append.mp h2
        refine ⟨v, mem_waysN.mpr ⟨by simpa using h1, n1, fun j hj => h3 j (by simp [hj])⟩, List.mem_map.mpr ⟨k, List.mem_filter.mpr ⟨List.mem_range.mpr (h3 k (by simp)), decide_eq_true fun hk => n3 k hk k (by simp) rfl⟩, rfl⟩⟩
theorem perm_range {n : Nat} {w : List Nat} (hl : w.length = n) (nd : w.Nodup) (lt : ∀ k ∈ w, k < n) : w.Perm (List.range n) := by
  have sub : w ⊆ List.range n := fun k hk => List.mem_range.mpr (lt k hk)
  refine (List.perm_ext_iff_of_nodup nd List.nodup_range).mpr fun k => ⟨fun h => sub h, fun h => ?_⟩
  by_cases m : k ∈ w
  · exact m
  · have := List.Nodup.length_le_of_subset (l₁ := k :: w) (l₂ := List.range n) (List.nodup_cons.mpr ⟨m, nd⟩) fun j hj => by
      rcases List.mem_cons.mp hj with rfl | hj
      · exact h
      · exact sub hj
    rw [List.length_cons, List.length_range] at this
    omega
theorem getD_at {α : Type} {xs : List α} {k : Nat} (h : k < xs.length) (d : α) : xs.getD k d = xs[k] := by
  rw [List.getD_eq_getElem?_getD, List.getElem?_eq_getElem h]
  rfl
theorem map_getD {α : Type} (xs : List α) (d : α) : (List.range xs.length).map (fun k => xs.getD k d) = xs := by
  apply List.ext_getElem
  · simp
  · intro i h1 h2
    rw [List.getElem_map, List.getElem_range, getD_at h2]
theorem way_perm {row : Bool} {n : Nat} {w : List Nat} (h : w ∈ ways row n) : w.Perm (List.range n) := by
  cases row with
  | false =>
    obtain ⟨a, b, c⟩ := mem_waysN.mp h
    exact perm_range a b c
  | true =>
    unfold ways at h
    rcases List.mem_cons.mp h with rfl | h
    · exact .refl _
    · rw [List.mem_singleton.mp h, PySem.W.krv_range]
      exact List.reverse_perm _
/-- the parts in the order of a way -/
def partsBy (ps : List Sh) (w : List Nat) : List Sh := w.map fun k => ps.getD k (.leaf "")
theorem partsBy_perm {row : Bool} {ps : List Sh} {w : List Nat} (h : w ∈ ways row ps.length) : (partsBy ps w).Perm ps := by
  have := (way_perm h).map fun k => ps.getD k (.leaf "")
  rwa [map_getD] at this
theorem getD_orders {ps : List Sh} {w : List Nat} (h : ∀ k ∈ w, k < ps.length) : (w.map fun k => (Sh.ordersL ps).getD k []) = (partsBy ps w).map Sh.orders := by
  unfold partsBy
  rw [List.map_map, ordersL_eq]
  refine List.map_congr_left fun k hk => ?_
  have := h k hk
  show (ps.map Sh.orders).getD k [] = (ps.getD k (.leaf "")).orders
  rw [getD_at (show k < (ps.map Sh.orders).length by simpa using this), getD_at this, List.getElem_map]
theorem way_lt {row : Bool} {n : Nat} {w : List Nat} (h : w ∈ ways row n) : ∀ k ∈ w, k < n := fun k hk => List.mem_range.mp ((way_perm h).mem_iff.mp hk)
theorem mem_orders_br {row : Bool} {ps : List Sh} {o : List Str} : o ∈ (Sh.br row ps).orders ↔ ∃ w ∈ ways row ps.length, o ∈ prodO ((partsBy ps w).map Sh.orders) := by
  rw [Sh.orders, List.mem_flatMap]
  constructor
  · rintro ⟨w, hw, h⟩
    rw [getD_orders (way_lt hw)] at h
    exact ⟨w, hw, h⟩
  · rintro ⟨w, hw, h⟩
    refine ⟨w, hw, ?_⟩
    rw [getD_orders (way_lt hw)]
    exact h
/-- every permutation of the parts is a way of a group -/
theorem way_of_perm {α : Type} {d : α} {ps qs : List α} (h : qs.Perm ps) : ∃ w ∈ ways false ps.length, (w.map fun k => ps.getD k d) = qs := by
  induction h with
  | nil => exact ⟨[], List.mem_singleton.mpr rfl, rfl⟩
  | @cons a l1 l2 p ih =>
    obtain ⟨w, hw, e⟩ := ih
    obtain ⟨a1, a2, a3⟩ := mem_waysN.mp hw
    refine ⟨0 :: w.map (· + 1), mem_waysN.mpr ⟨by simp [a1], List.nodup_cons.mpr ⟨by simp, List.Pairwise.map _ (fun x y ne e => ne (Nat.succ.inj e)) a2⟩, fun k hk => ?_⟩, ?_⟩
    · rw [List.length_cons]
      rcases List.mem_cons.mp hk with rfl | hk
      · omega
      · obtain ⟨j, hj, rfl⟩ := List.mem_map.mp hk
        have := a3 j hj
        omega
    · rw [List.map_cons, List.map_map]
      show (a :: l2).getD 0 d :: _ = _
      rw [← e]
      rfl
  | @swap a b l =>
    refine ⟨1 :: 0 :: (List.range l.length).map (· + 2), mem_waysN.mpr ⟨by simp, List.nodup_cons.mpr ⟨by simp, List.nodup_cons.mpr ⟨by simp, List.Pairwise.map _ (fun x y ne e => ne (by omega)) List.nodup_range⟩⟩, fun k hk => ?_⟩, ?_⟩
    · rw [List.length_cons, List.length_cons]
      rcases List.mem_cons.mp hk with rfl | hk
      · omega
      rcases List.mem_cons.mp hk with rfl | hk
      · omega
      · obtain ⟨j, hj, rfl⟩ := List.mem_map.mp hk
        have := List.mem_range.mp hj
        omega
    · rw [List.map_cons, List.map_cons, List.map_map]
      have e : (List.range l.length).map ((fun k => (a :: b :: l).getD k d) ∘ (· + 2)) = l := by
        rw [show ((fun k => (a :: b :: l).getD k d) ∘ (· + 2)) = fun k => l.getD k d from rfl, map_getD]
      rw [e]
      rfl
  | @trans l1 l2 l3 p q ih1 ih2 =>
    obtain ⟨w1, h1, e1⟩ := ih1
    obtain ⟨w2, h2, e2⟩ := ih2
    have l12 := q.length_eq
    obtain ⟨a1, a2, a3⟩ := mem_waysN.mp h1
    have p2 := way_perm h2
    rw [l12] at a1 a3
    have r1 := perm_range a1 a2 a3
    have l2w : w2.length = l3.length := by rw [p2.length_eq, List.length_range]
    have pp : (w1.map fun k => w2.getD k 0).Perm (List.range l3.length) := by
      have := r1.map fun k => w2.getD k 0
      rw [← l2w, map_getD] at this
      rw [← l2w]
      exact this.trans (by rw [l2w]; exact p2)
    refine ⟨w1.map fun k => w2.getD k 0, mem_waysN.mpr ⟨by simp [a1], pp.nodup_iff.mpr List.nodup_range, fun k hk => List.mem_range.mp (pp.mem_iff.mp hk)⟩, ?_⟩
    rw [List.map_map, ← e1, ← e2]
    refine List.map_congr_left fun k hk => ?_
    have := a3 k hk
    show l3.getD (w2.getD k 0) d = (w2.map fun k => l3.getD k d).getD k d
    rw [getD_at (xs := w2) (by omega), getD_at (xs := w2.map _) (by simp; omega), List.getElem_map]
end Dl

/-! what begins an order, part by part -/
namespace Dl
open PySem
theorem Sh.ind {M : Sh → Prop} (hl : ∀ n, M (.leaf n)) (hb : ∀ row ps, (∀ p ∈ ps, M p) → M (.br row ps)) : ∀ s, M s
  | .leaf n => hl n
  | .br row ps => hb row ps (indL hl hb ps)
where indL {M : Sh → Prop} (hl : ∀ n, M (.leaf n)) (hb : ∀ row ps, (∀ p ∈ ps, M p) → M (.br row ps)) : ∀ ps : List Sh, ∀ p ∈ ps, M p
  | [], _, h => absurd h (by simp)
  | q :: r, p, h => by
    rcases List.mem_cons.mp h with e | h
    · rw [e]; exact Sh.ind hl hb q
    · exact indL hl hb r p h
/-- an order of concatenated parts is a permutation of their leaves -/
theorem prod_perm : ∀ {ps : List Sh} {o : List Str}, (∀ p ∈ ps, ∀ o ∈ p.orders, o.Perm p.leaves) → o ∈ prodO (ps.map Sh.orders) → o.Perm (ps.flatMap Sh.leaves)
  | [], o, _, h => by rw [mem_prod_nil.mp h]; exact .refl _
  | p :: r, o, ih, h => by
    obtain ⟨a, ha, b, hb, rfl⟩ := mem_prod_cons.mp h
    rw [List.flatMap_cons]
    exact (ih p (List.mem_cons_self ..) a ha).append (prod_perm (fun q hq => ih q (List.mem_cons_of_mem _ hq)) hb)
theorem flatMap_perm {ps qs : List Sh} (h : ps.Perm qs) : (ps.flatMap Sh.leaves).Perm (qs.flatMap Sh.leaves) := by
  induction h with
  | nil => exact .refl _
  | cons a _ ih => rw [List.flatMap_cons, List.flatMap_cons]; exact ih.append_left _
  | swap a b l =>
    simp only [List.flatMap_cons]
    rw [← List.append_assoc, ← List.append_assoc]
    exact List.perm_append_comm.append_right _
  | trans _ _ h1 h2 => exact h1.trans h2
theorem order_perm (s : Sh) : ∀ o ∈ s.orders, o.Perm s.leaves := by
  induction s using Sh.ind with
  | hl n => intro o h; rw [Sh.orders, List.mem_singleton] at h; rw [h]; exact .refl _
  | hb row ps ih =>
    intro o h
    obtain ⟨w, hw, h⟩ := mem_orders_br.mp h
    rw [leaves_br]
    have pp := partsBy_perm hw
    exact (prod_perm (fun p hp => ih p (pp.mem_iff.mp hp)) h).trans (flatMap_perm pp)
theorem order_len {s : Sh} {o : List Str} (h : o ∈ s.orders) : o.length = s.leaves.length := (order_perm s o h).length_eq
theorem prod_some : ∀ {ps : List Sh}, (∀ p ∈ ps, ∃ o, o ∈ p.orders) → ∃ o, o ∈ prodO (ps.map Sh.orders)
  | [], _ => ⟨[], mem_prod_nil.mpr rfl⟩
  | p :: r, h => by
    obtain ⟨a, ha⟩ := h p (List.mem_cons_self ..)
    obtain ⟨b, hb⟩ := prod_some (ps := r) fun q hq => h q (List.mem_cons_of_mem _ hq)
    exact ⟨a ++ b, mem_prod_cons.mpr ⟨a, ha, b, hb, rfl⟩⟩
theorem order_some (s : Sh) : ∃ o, o ∈ s.orders := by
  induction s using Sh.ind with
  | hl n => exact ⟨[n], by rw [Sh.orders]; exact List.mem_singleton.mpr rfl⟩
  | hb row ps ih =>
    have one : ∃ w, w ∈ ways row ps.length := by
      cases row with
      | true => exact ⟨_, List.mem_cons_self ..⟩
      | false => exact ⟨List.range ps.length, mem_waysN.mpr ⟨List.length_range, List.nodup_range, fun k hk => List.mem_range.mp hk⟩⟩
    obtain ⟨w, hw⟩ := one
    have pp := partsBy_perm hw
    obtain ⟨o, ho⟩ := prod_some (ps := partsBy ps w) fun p hp => ih p (pp.mem_iff.mp hp)
    exact ⟨o, mem_orders_br.mpr ⟨w, hw, ho⟩⟩
/-! the slice of each part -/
theorem take_split {a b pre : List Str} : (a ++ b).take pre.length = pre ↔ a.take (pre.take a.length).length = pre.take a.length ∧ b.take (pre.drop a.length).length = pre.drop a.length := by
  have e1 : (pre.take a.length).length = min a.length pre.length := List.length_take
  have e2 : (pre.drop a.length).length = pre.length - a.length := List.length_drop
  have e3 : a.take (min a.length pre.length) = a.take pre.length := by
    by_cases h : a.length ≤ pre.length
    · rw [Nat.min_eq_left h, List.take_of_length_le (Nat.le_refl _), List.take_of_length_le h]
    · rw [Nat.min_eq_right (by omega)]
  rw [e1, e2, e3, List.take_append]
  constructor
  · intro h
    have h2 : a.take pre.length ++ b.take (pre.length - a.length) = pre.take a.length ++ pre.drop a.length := by rw [List.take_append_drop]; exact h
    exact List.append_inj h2 (by rw [List.length_take, List.length_take, Nat.min_comm])
  · rintro ⟨h1, h2⟩
    rw [h1, h2, List.take_append_drop]
theorem begL_cons (p : Sh) (r : List Sh) (pre : List Str) : beginsL (p :: r) pre = (p.begins (pre.take p.leaves.length) && beginsL r (pre.drop p.leaves.length)) := by
  rw [Bool.eq_iff_iff, Bool.and_eq_true]
  unfold beginsL Sh.begins
  rw [begO_iff, begO_iff, begO_iff, List.map_cons]
  constructor
  · rintro ⟨o, h, e⟩
    obtain ⟨a, ha, b, hb, rfl⟩ := mem_prod_cons.mp h
    obtain ⟨e1, e2⟩ := take_split.mp e
    rw [order_len ha] at e1 e2
    exact ⟨⟨a, ha, e1⟩, ⟨b, hb, e2⟩⟩
  · rintro ⟨⟨a, ha, e1⟩, ⟨b, hb, e2⟩⟩
    refine ⟨a ++ b, mem_prod_cons.mpr ⟨a, ha, b, hb, rfl⟩, take_split.mpr ?_⟩
    rw [order_len ha]
    exact ⟨e1, e2⟩
theorem begL_nil (pre : List Str) : beginsL [] pre = decide (pre = []) := by
  rw [Bool.eq_iff_iff]
  unfold beginsL
  rw [begO_iff, decide_eq_true_iff]
  constructor
  · rintro ⟨o, h, e⟩
    rw [mem_prod_nil.mp h] at e
    simpa using e.symm
  · rintro rfl
    exact ⟨[], mem_prod_nil.mpr rfl, rfl⟩
/-- a leaf -/
theorem begins_leaf (n : Str) (pre : List Str) : (Sh.leaf n).begins pre = decide (pre = [] ∨ pre = [n]) := by
  rw [Bool.eq_iff_iff]
  unfold Sh.begins
  rw [begO_iff, decide_eq_true_iff, Sh.orders]
  constructor
  · rintro ⟨o, h, e⟩
    rw [List.mem_singleton.mp h] at e
    match pre, e with
    | [], _ => exact .inl rfl
    | [x], e => exact .inr (by simpa using e.symm)
    | x :: y :: r, e => simp at e
  · rintro (rfl | rfl)
    · exact ⟨_, List.mem_singleton.mpr rfl, rfl⟩
    · exact ⟨_, List.mem_singleton.mpr rfl, rfl⟩
/-- a row -/
theorem begins_row (ps : List Sh) (pre : List Str) : (Sh.br true ps).begins pre = (beginsL ps pre || beginsL ps.reverse pre) := by
  have e1 : partsBy ps (List.range ps.length) = ps := map_getD ps _
  have e2 : partsBy ps ((List.range ps.length).map fun k => ps.length - 1 - k) = ps.reverse := by
    rw [PySem.W.krv_range]
    unfold partsBy
    rw [List.map_reverse, map_getD]
  rw [Bool.eq_iff_iff, Bool.or_eq_true]
  unfold beginsL Sh.begins
  rw [begO_iff, begO_iff, begO_iff]
  constructor
  · rintro ⟨o, h, e⟩
    obtain ⟨w, hw, h⟩ := mem_orders_br.mp h
    rcases List.mem_cons.mp hw with rfl | hw
    · rw [e1] at h; exact .inl ⟨o, h, e⟩
    · rw [List.mem_singleton.mp hw, e2] at h; exact .inr ⟨o, h, e⟩
  · rintro (⟨o, h, e⟩ | ⟨o, h, e⟩)
    · exact ⟨o, mem_orders_br.mpr ⟨_, List.mem_cons_self .., by rw [e1]; exact h⟩, e⟩
    · exact ⟨o, mem_orders_br.mpr ⟨_, List.mem_cons_of_mem _ (List.mem_singleton.mpr rfl), by rw [e2]; exact h⟩, e⟩
/-! a group: the parts that the prefix names -/
abbrev Parts := List (Nat × Sh)
def nameS (x : Str) (acc : Parts) (q : Nat × Sh) : Parts := if x ∈ q.2.leaves ∧ q.1 ∉ acc.map (·.1) then acc ++ [q] else acc
def nameT (L acc : Parts) (x : Str) : Parts := L.foldl (nameS x) acc
def namedL (L acc : Parts) (pre : List Str) : Parts := pre.foldl (nameT L) acc
structure PartsOk (L : Parts) : Prop where
  ids : (L.map (·.1)).Nodup
  names : (L.flatMap fun q => q.2.leaves).Nodup
  some_ : ∀ q ∈ L, q.2.leaves ≠ []
theorem one_owner : ∀ {L : Parts}, (L.flatMap fun q => q.2.leaves).Nodup → ∀ {q q' : Nat × Sh} {x : Str}, q ∈ L → q' ∈ L → x ∈ q.2.leaves → x ∈ q'.2.leaves → q = q'
  | [], _, q, _, _, h, _, _, _ => absurd h (by simp)
  | p :: r, nd, q, q', x, h, h', hx, hx' => by
    rw [List.flatMap_cons] at nd
    obtain ⟨_, nd2, dis⟩ := List.nodup_append.mp nd
    rcases List.mem_cons.mp h with e | h1 <;> rcases List.mem_cons.mp h' with e' | h1'
    · rw [e, e']
    · exact absurd rfl (dis x (by rw [← e]; exact hx) x (List.mem_flatMap.mpr ⟨q', h1', hx'⟩))
    · exact absurd rfl (dis x (by rw [← e']; exact hx') x (List.mem_flatMap.mpr ⟨q, h1, hx⟩))
    · exact one_owner nd2 h1 h1' hx hx'
/-- a turn over parts of which none has the name, or the one that has it was named -/
theorem foldS_skip (x : Str) : ∀ (L acc : Parts), (∀ q ∈ L, x ∈ q.2.leaves → q.1 ∈ acc.map (·.1)) → L.foldl (nameS x) acc = acc
  | [], _, _ => rfl
  | q :: r, acc, h => by
    rw [List.foldl_cons]
    have e : nameS x acc q = acc := by
      unfold nameS
      rw [if_neg]
      rintro ⟨a, b⟩
      exact b (h q (List.mem_cons_self ..) a)
    rw [e]
    exact foldS_skip x r acc fun p hp => h p (List.mem_cons_of_mem _ hp)
theorem nameT_old {L acc : Parts} (ok : PartsOk L) {q : Nat × Sh} {x : Str} (hq : q ∈ L) (hx : x ∈ q.2.leaves) (old : q.1 ∈ acc.map (·.1)) : nameT L acc x = acc :=
  foldS_skip x L acc fun p hp hpx => by rw [one_owner ok.names hp hq hpx hx]; exact old
theorem nameT_none {L acc : Parts} {x : Str} (h : ∀ q ∈ L, x ∉ q.2.leaves) : nameT L acc x = acc := foldS_skip x L acc fun p hp hpx => absurd hpx (h p hp)
theorem nameT_new {L acc : Parts} (ok : PartsOk L) {q : Nat × Sh} {x : Str} (hq : q ∈ L) (hx : x ∈ q.2.leaves) (new : q.1 ∉ acc.map (·.1)) : nameT L acc x = acc ++ [q] := by
  obtain ⟨l1, l2, e⟩ := List.append_of_mem hq
  have all : ∀ p ∈ L, x ∈ p.2.leaves → p = q := fun p hp hpx => one_owner ok.names hp hq hpx hx
  have once : ∀ p ∈ l1, x ∉ p.2.leaves := fun p hp hpx => by
    have ids := ok.ids
    rw [e, List.map_append, List.map_cons] at ids
    have := (List.nodup_append.mp ids).2.2 p.1 (List.mem_map_of_mem hp) q.1 (List.mem_cons_self ..)
    rw [all p (by rw [e]; exact List.mem_append_left _ hp) hpx] at this
    exact this rfl
  unfold nameT
  rw [e, List.foldl_append, foldS_skip x l1 acc fun p hp hpx => absurd hpx (once p hp), List.foldl_cons]
  have e1 : nameS x acc q = acc ++ [q] := by
    unfold nameS
    rw [if_pos ⟨hx, new⟩]
  rw [e1]
  refine foldS_skip x l2 _ fun p hp hpx => ?_
  rw [all p (by rw [e]; exact List.mem_append_right _ (List.mem_cons_of_mem _ hp)) hpx]
  simp
theorem named_old {L acc : Parts} (ok : PartsOk L) {q : Nat × Sh} (hq : q ∈ L) (old : q.1 ∈ acc.map (·.1)) : ∀ xs : List Str, (∀ x ∈ xs, x ∈ q.2.leaves) → namedL L acc xs = acc
  | [], _ => rfl
  | x :: r, h => by
    show namedL L (nameT L acc x) r = acc
    rw [nameT_old ok hq (h x (List.mem_cons_self ..)) old]
    exact named_old ok hq old r fun y hy => h y (List.mem_cons_of_mem _ hy)
theorem named_new {L acc : Parts} (ok : PartsOk L) {q : Nat × Sh} (hq : q ∈ L) (new : q.1 ∉ acc.map (·.1)) {xs : List Str} (ne : xs ≠ []) (h : ∀ x ∈ xs, x ∈ q.2.leaves) : namedL L acc xs = acc ++ [q] := by
  match xs, ne with
  | x :: r, _ =>
    show namedL L (nameT L acc x) r = _
    rw [nameT_new ok hq (h x (List.mem_cons_self ..)) new]
    exact named_old ok hq (by simp) r fun y hy => h y (List.mem_cons_of_mem _ hy)
theorem named_append (L acc : Parts) (xs ys : List Str) : namedL L acc (xs ++ ys) = namedL L (namedL L acc xs) ys := by
  unfold namedL
  rw [List.foldl_append]
/-- the beginning of an order names its first parts, which begin with it -/
theorem named_pre {L : Parts} (ok : PartsOk L) : ∀ (M acc : Parts) (o : List Str) (m : Nat), (∀ q ∈ M, q ∈ L) → (M.map (·.1)).Nodup → (∀ q ∈ M, q.1 ∉ acc.map (·.1)) → o ∈ prodO ((M.map (·.2)).map Sh.orders) →
    ∃ k, namedL L acc (o.take m) = acc ++ M.take k ∧ beginsL ((M.take k).map (·.2)) (o.take m) = true
  | [], acc, o, m, _, _, _, ho => ⟨0, by rw [mem_prod_nil.mp ho]; simp [namedL], by rw [mem_prod_nil.mp ho]; simp [begL_nil]⟩
  | q :: r, acc, o, m, sub, nd, new, ho => by
    obtain ⟨a, ha, b, hb, rfl⟩ := mem_prod_cons.mp ho
    by_cases m0 : m = 0
    · subst m0
      exact ⟨0, by simp [namedL], by simp [begL_nil]⟩
    · have hq := sub q (List.mem_cons_self ..)
      have al := order_len ha
      have an : a ≠ [] := fun e => ok.some_ q hq (List.eq_nil_of_length_eq_zero (by rw [← al, e]; rfl))
      have nd := List.nodup_cons.mp nd
      have hn := new q (List.mem_cons_self ..)
      have first : namedL L acc (a.take m) = acc ++ [q] := by
        refine named_new ok hq hn ?_ fun x hx => (order_perm q.2 a ha).mem_iff.mp (List.mem_of_mem_take hx)
        intro e
        have := congrArg List.length e
        rw [List.length_take] at this
        have l1 := List.length_pos_iff.mpr an
        simp only [List.length_nil] at this
        omega
      obtain ⟨k, e1, e2⟩ := named_pre ok r (acc ++ [q]) b (m - a.length) (fun p hp => sub p (List.mem_cons_of_mem _ hp)) nd.2 (fun p hp h => by
        rw [List.map_append] at h
        rcases List.mem_append.mp h with h | h
        · exact new p (List.mem_cons_of_mem _ hp) h
        · have : p.1 = q.1 := by simpa using h
          exact nd.1 (by show q.1 ∈ _; rw [← this]; exact List.mem_map_of_mem hp)) hb
      refine ⟨k + 1, ?_, ?_⟩
      · rw [List.take_append, named_append, first, e1, List.append_assoc]
        rfl
      · rw [List.take_succ_cons, List.map_cons, begL_cons, Bool.and_eq_true]
        have t1 : ((a ++ b).take m).take q.2.leaves.length = a.take m := by
          rw [← al, List.take_append, List.take_append]
          rw [List.take_take]
          by_cases h : m ≤ a.length
          · rw [Nat.min_eq_right h, show m - a.length = 0 by omega]
            simp
          · rw [Nat.min_eq_left (by omega), List.take_of_length_le (Nat.le_refl _), List.take_of_length_le (show a.length ≤ m by omega)]
            simp
        have t2 : ((a ++ b).take m).drop q.2.leaves.length = b.take (m - a.length) := by
          rw [← al, List.drop_take, List.drop_left]
        rw [t1, t2]
        refine ⟨begO_iff.mpr ⟨a, ha, ?_⟩, e2⟩
        rw [List.length_take]
        by_cases h : m ≤ a.length
        · rw [Nat.min_eq_left h]
        · rw [Nat.min_eq_right (by omega), List.take_of_length_le (Nat.le_refl _), List.take_of_length_le (by omega)]
theorem nameS_sub (x : Str) {L acc : Parts} (h : ∀ q ∈ acc, q ∈ L) {p : Nat × Sh} (hp : p ∈ L) : ∀ q ∈ nameS x acc p, q ∈ L := by
  unfold nameS
  split
  · intro q hq
    rcases List.mem_append.mp hq with h1 | h1
    · exact h q h1
    · rw [List.mem_singleton.mp h1]; exact hp
  · exact h
theorem nameS_nd (x : Str) {acc : Parts} (h : (acc.map (·.1)).Nodup) (p : Nat × Sh) : ((nameS x acc p).map (·.1)).Nodup := by
  unfold nameS
  split
  · rename_i c
    rw [List.map_append]
    exact List.nodup_append.mpr ⟨h, by simp, fun a ha b hb e => c.2 (by
      have hb : b = p.1 := by simpa using hb
      rw [← hb, ← e]
      exact ha)⟩
  · exact h
theorem foldS_ok (x : Str) (L : Parts) : ∀ (L' acc : Parts), (∀ p ∈ L', p ∈ L) → (∀ q ∈ acc, q ∈ L) → (acc.map (·.1)).Nodup → (∀ q ∈ L'.foldl (nameS x) acc, q ∈ L) ∧ ((L'.foldl (nameS x) acc).map (·.1)).Nodup
  | [], _, _, h, nd => ⟨h, nd⟩
  | p :: r, acc, sub, h, nd => foldS_ok x L r (nameS x acc p) (fun q hq => sub q (List.mem_cons_of_mem _ hq)) (nameS_sub x h (sub p (List.mem_cons_self ..))) (nameS_nd x nd p)
theorem named_ok (L : Parts) : ∀ (xs : List Str) (acc : Parts), (∀ q ∈ acc, q ∈ L) → (acc.map (·.1)).Nodup → (∀ q ∈ namedL L acc xs, q ∈ L) ∧ ((namedL L acc xs).map (·.1)).Nodup
  | [], _, h, nd => ⟨h, nd⟩
  | x :: r, acc, h, nd => by
    obtain ⟨a, b⟩ := foldS_ok x L L acc (fun _ q => q) h nd
    exact named_ok L r (nameT L acc x) a b
/-- the rest behind some of the parts -/
theorem rest_perm {L M : Parts} (sub : ∀ q ∈ M, q ∈ L) (nd : (M.map (·.1)).Nodup) (ndL : (L.map (·.1)).Nodup) : ∃ R, (M ++ R).Perm L := by
  have nM : M.Nodup := List.Pairwise.of_map (·.1) (fun a b h e => h (by rw [e])) nd
  have nL : L.Nodup := List.Pairwise.of_map (·.1) (fun a b h e => h (by rw [e])) ndL
  have dM : ∀ q : Nat × Sh, Decidable (q ∈ M) := fun q => Classical.propDecidable _
  refine ⟨L.filter fun q => decide (q ∉ M), (List.perm_ext_iff_of_nodup ?_ nL).mpr fun q => ?_⟩
  · exact List.nodup_append.mpr ⟨nM, nL.sublist (List.filter_sublist), fun a ha b hb e => of_decide_eq_true (List.mem_filter.mp hb).2 (by rw [← e]; exact ha)⟩
  · rw [List.mem_append, List.mem_filter]
    constructor
    · rintro (h | ⟨h, _⟩)
      · exact sub q h
      · exact h
    · intro h
      by_cases m : q ∈ M
      · exact .inl m
      · exact .inr ⟨h, decide_eq_true m⟩
theorem begins_group {L : Parts} (ok : PartsOk L) (pre : List Str) : (Sh.br false (L.map (·.2))).begins pre = beginsL ((namedL L [] pre).map (·.2)) pre := by
  rw [Bool.eq_iff_iff]
  constructor
  · intro h
    obtain ⟨o, ho, e⟩ := begO_iff.mp h
    obtain ⟨w, hw, ho⟩ := mem_orders_br.mp ho
    rw [List.length_map] at hw
    have e1 : partsBy (L.map (·.2)) w = (w.map fun k => L.getD k (0, .leaf "")).map (·.2) := by
      unfold partsBy
      rw [List.map_map]
      refine List.map_congr_left fun k hk => ?_
      have := way_lt hw k hk
      show (L.map (·.2)).getD k _ = (L.getD k (0, .leaf "")).2
      rw [getD_at (show k < (L.map (·.2)).length by simpa using this), getD_at this, List.getElem_map]
    have pp : (w.map fun k => L.getD k (0, .leaf "")).Perm L := by
      have := (way_perm hw).map fun k => L.getD k (0, .leaf "")
      rwa [map_getD] at this
    rw [e1] at ho
    obtain ⟨k, a, b⟩ := named_pre ok _ [] o pre.length (fun q hq => pp.mem_iff.mp hq) ((pp.map (·.1)).nodup_iff.mpr ok.ids) (fun q hq => by simp) ho
    rw [e, List.nil_append] at a
    rw [e] at b
    rw [a]
    exact b
  · intro h
    obtain ⟨o, ho, e⟩ := begO_iff.mp h
    obtain ⟨sub, nd⟩ := named_ok L pre [] (by simp) (by simp)
    obtain ⟨R, pp⟩ := rest_perm sub nd ok.ids
    obtain ⟨o2, h2⟩ := prod_some (ps := R.map (·.2)) fun p _ => order_some p
    have p2 : ((namedL L [] pre).map (·.2) ++ R.map (·.2)).Perm (L.map (·.2)) := by rw [← List.map_append]; exact pp.map _
    obtain ⟨w, hw, ew⟩ := way_of_perm (d := Sh.leaf "") p2
    refine begO_iff.mpr ⟨o ++ o2, mem_orders_br.mpr ⟨w, hw, ?_⟩, ?_⟩
    · unfold partsBy
      rw [ew, List.map_append]
      exact mem_prod_append.mpr ⟨o, ho, o2, h2, rfl⟩
    · have l1 : pre.length ≤ o.length := by
        have := congrArg List.length e
        rw [List.length_take] at this
        omega
      rw [List.take_append_of_le_length l1]
      exact e
end Dl

/-! how many orders a shape has -/
namespace Dl
open PySem
def fct : Nat → Nat
  | 0 => 1
  | n + 1 => (n + 1) * fct n
def prodN : List Nat → Nat
  | [] => 1
  | n :: r => n * prodN r
mutual
def Sh.many : Sh → Nat
  | .leaf _ => 1
  | .br row ps => Sh.manyL ps * (if row then 2 else fct ps.length)
def Sh.manyL : List Sh → Nat
  | [] => 1
  | p :: r => p.many * Sh.manyL r
end
theorem manyL_eq : ∀ ps : List Sh, Sh.manyL ps = prodN (ps.map Sh.many)
  | [] => rfl
  | p :: r => by rw [Sh.manyL, manyL_eq r]; rfl
theorem fct_pos : ∀ n, 1 ≤ fct n
  | 0 => Nat.le_refl _
  | n + 1 => Nat.mul_pos (Nat.succ_pos _) (fct_pos n)
theorem fct_mono {a b : Nat} (h : a ≤ b) : fct a ≤ fct b := by
  induction h with
  | refl => exact Nat.le_refl _
  | @step m _ ih => exact Nat.le_trans ih (Nat.le_mul_of_pos_left _ (Nat.succ_pos _))
theorem prodN_append : ∀ a b : List Nat, prodN (a ++ b) = prodN a * prodN b
  | [], b => by simp [prodN]
  | x :: r, b => by
    show x * prodN (r ++ b) = x * prodN r * prodN b
    rw [prodN_append r b, Nat.mul_assoc]
theorem prodN_perm {a b : List Nat} (h : a.Perm b) : prodN a = prodN b := by
  induction h with
  | nil => rfl
  | cons x _ ih => exact congrArg (x * ·) ih
  | swap x y l =>
    show y * (x * prodN l) = x * (y * prodN l)
    rw [← Nat.mul_assoc, ← Nat.mul_assoc, Nat.mul_comm y x]
  | trans _ _ h1 h2 => exact h1.trans h2
theorem prodN_pos : ∀ {a : List Nat}, (∀ x ∈ a, 1 ≤ x) → 1 ≤ prodN a
  | [], _ => Nat.le_refl _
  | x :: r, h => Nat.mul_pos (h x (List.mem_cons_self ..)) (prodN_pos fun y hy => h y (List.mem_cons_of_mem _ hy))
theorem prodN_take {a : List Nat} (h : ∀ x ∈ a, 1 ≤ x) (j : Nat) : prodN (a.take j) ≤ prodN a := by
  have e := prodN_append (a.take j) (a.drop j)
  rw [List.take_append_drop] at e
  rw [e]
  exact Nat.le_mul_of_pos_right _ (prodN_pos fun x hx => h x (List.mem_of_mem_drop hx))
theorem flatMap_len {α β : Type} {f : α → List β} {n : Nat} : ∀ {l : List α}, (∀ x ∈ l, (f x).length = n) → (l.flatMap f).length = l.length * n
  | [], _ => by simp
  | x :: r, h => by
    rw [List.flatMap_cons, List.length_append, h x (List.mem_cons_self ..), flatMap_len fun y hy => h y (List.mem_cons_of_mem _ hy), List.length_cons, Nat.add_mul, Nat.one_mul, Nat.add_comm]
theorem prod_len_from : ∀ (xss : List (List (List Str))) (acc : List (List Str)), (xss.foldl (fun (made inner : List (List Str)) => made.flatMap fun o => inner.map fun i => o ++ i) acc).length = acc.length * prodN (xss.map List.length)
  | [], acc => by simp [prodN]
  | x :: r, acc => by
    rw [List.foldl_cons, prod_len_from r, flatMap_len (n := x.length) fun o _ => List.length_map .., List.map_cons]
    show _ = acc.length * (x.length * _)
    rw [Nat.mul_assoc]
theorem prod_len (xss : List (List (List Str))) : (prodO xss).length = prodN (xss.map List.length) := by
  unfold prodO
  rw [prod_len_from]
  simp
theorem ways_len {row : Bool} {n : Nat} (h2 : 2 ≤ n) (h4 : n ≤ 4) : (ways row n).length = if row then 2 else fct n := by
  have : n = 2 ∨ n = 3 ∨ n = 4 := by omega
  cases row <;> rcases this with rfl | rfl | rfl <;> decide +kernel
theorem by_len {row : Bool} {ps : List Sh} {w : List Nat} (hw : w ∈ ways row ps.length) (ih : ∀ p ∈ ps, p.orders.length = p.many) : prodN (((partsBy ps w).map Sh.orders).map List.length) = Sh.manyL ps := by
  rw [manyL_eq, List.map_map]
  have pp := partsBy_perm hw
  rw [← prodN_perm (pp.map Sh.many)]
  refine congrArg prodN (List.map_congr_left fun p hp => ih p (pp.mem_iff.mp hp))
theorem orders_len {s : Sh} (ok : s.Ok) : s.orders.length = s.many := by
  induction s using Sh.ind with
  | hl n => rfl
  | hb row ps ih =>
    cases ok with
    | br _ _ h2 h4 _ hp =>
      have ih := fun p hm => ih p hm (hp p hm)
      rw [Sh.orders, flatMap_len (n := Sh.manyL ps) fun w hw => by rw [getD_orders (way_lt hw), prod_len, by_len hw ih], ways_len h2 h4, Sh.many, Nat.mul_comm]
theorem many_pos {s : Sh} (ok : s.Ok) : 1 ≤ s.many := by
  rw [← orders_len ok]
  obtain ⟨o, ho⟩ := order_some s
  exact List.length_pos_of_mem ho
theorem leaves_pos {s : Sh} (ok : s.Ok) : 1 ≤ s.leaves.length := by
  induction s using Sh.ind with
  | hl n => exact Nat.le_refl _
  | hb row ps ih =>
    cases ok with
    | br _ _ h2 h4 _ hp =>
      rw [leaves_br]
      match ps, h2 with
      | p :: r, _ =>
        have := ih p (List.mem_cons_self ..) (hp p (List.mem_cons_self ..))
        rw [List.flatMap_cons, List.length_append]
        omega
theorem fct_mul (s : Nat) : ∀ a, 1 ≤ a → (s + 1) * (fct s * fct a) ≤ fct (s + a)
  | 1, _ => by
    show (s + 1) * (fct s * (1 * 1)) ≤ (s + 1) * fct s
    simp
  | a + 2, _ => by
    have ih := fct_mul s (a + 1) (by omega)
    show (s + 1) * (fct s * ((a + 1 + 1) * fct (a + 1))) ≤ (s + (a + 1) + 1) * fct (s + (a + 1))
    have e : (s + 1) * (fct s * ((a + 1 + 1) * fct (a + 1))) = (a + 1 + 1) * ((s + 1) * (fct s * fct (a + 1))) := by
      rw [Nat.mul_left_comm (fct s), Nat.mul_left_comm (s + 1)]
    rw [e]
    exact Nat.mul_le_mul (by omega) ih
theorem many_parts : ∀ (ps : List Sh), (∀ p ∈ ps, p.many ≤ fct p.leaves.length ∧ 1 ≤ p.leaves.length) → ps.length ≤ (ps.flatMap Sh.leaves).length ∧ fct ps.length * Sh.manyL ps ≤ fct (ps.flatMap Sh.leaves).length
  | [], _ => ⟨Nat.zero_le _, Nat.le_refl _⟩
  | p :: r, h => by
    obtain ⟨h1, h2⟩ := h p (List.mem_cons_self ..)
    obtain ⟨i1, i2⟩ := many_parts r fun q hq => h q (List.mem_cons_of_mem _ hq)
    rw [List.flatMap_cons, List.length_append, List.length_cons]
    refine ⟨by omega, ?_⟩
    have f := fct_mul (r.flatMap Sh.leaves).length p.leaves.length h2
    rw [Nat.add_comm p.leaves.length]
    refine Nat.le_trans ?_ f
    show (r.length + 1) * fct r.length * (p.many * Sh.manyL r) ≤ _
    have e : (r.length + 1) * fct r.length * (p.many * Sh.manyL r) = (r.length + 1) * ((fct r.length * Sh.manyL r) * p.many) := by
      rw [Nat.mul_assoc, Nat.mul_comm p.many, Nat.mul_assoc]
    rw [e]
    exact Nat.mul_le_mul (by omega) (Nat.mul_le_mul i2 h1)
theorem many_le {s : Sh} (ok : s.Ok) : s.many ≤ fct s.leaves.length := by
  induction s using Sh.ind with
  | hl n => exact Nat.le_refl _
  | hb row ps ih =>
    cases ok with
    | br _ _ h2 h4 h3 hp =>
      rw [leaves_br, Sh.many]
      refine Nat.le_trans ?_ (many_parts ps fun p hm => ⟨ih p hm (hp p hm), leaves_pos (hp p hm)⟩).2
      rw [Nat.mul_comm]
      refine Nat.mul_le_mul ?_ (Nat.le_refl _)
      cases row with
      | false => exact Nat.le_refl _
      | true => exact fct_mono (a := 2) h2
theorem many_720 {s : Sh} (ok : s.Ok) (h : s.leaves.length ≤ 6) : s.many ≤ 720 := Nat.le_trans (many_le ok) (fct_mono (b := 6) h)
end Dl

/-! nodes in the heap; their leaves -/
namespace Dl
open PySem PySem.Spec PyProof.Rows L2
structure NCls where
  L : Addr
  G : Addr
  R : Addr
def NCls.of (c : NCls) (row : Bool) : Addr := if row then c.R else c.G
def NCls.D (c : NCls) (C : Addr) : Prop := C = c.L ∨ C = c.G ∨ C = c.R
theorem NCls.of_D (c : NCls) (row : Bool) : c.D (c.of row) := by
  cases row
  · exact .inr (.inl rfl)
  · exact .inr (.inr rfl)
inductive NodeAt (c : NCls) (H : Hp) : Addr → Sh → Prop where
  | leaf (p dx : Addr) (n : Str) : H p = some (.ins c.L dx [("name", .str n)]) → NodeAt c H p (.leaf n)
  | br (row : Bool) (p dx t : Addr) (L : Parts) : H p = some (.ins (c.of row) dx [("parts", .ref t)]) → H t = some (.tup (L.map fun q => V.ref q.1)) → (L.map (·.1)).Nodup → (∀ q ∈ L, NodeAt c H q.1 q.2) → NodeAt c H p (.br row (L.map (·.2)))
theorem NodeAt.of {c : NCls} {H H' : Hp} {p : Addr} {s : Sh} (h : NodeAt c H p s) (k : Same H H') : NodeAt c H' p s := by
  induction h with
  | leaf p dx n h => exact .leaf p dx n (k _ _ h)
  | br row p dx t L h1 h2 nd _ ih => exact .br row p dx t L (k _ _ h1) (k _ _ h2) nd ih
theorem lookN {f m : Str} {v : V} (e : (m == f) = false) : List.lookup m [(f, v)] = none := by rw [List.lookup_cons, e]; rfl
theorem lookS (f : Str) (v : V) : List.lookup f [(f, v)] = some v := by rw [List.lookup_cons, beq_self_eq_true]
theorem NodeAt.ins {c : NCls} {H : Hp} {p : Addr} {s : Sh} (h : NodeAt c H p s) : ∃ C dx f v, H p = some (.ins C dx [(f, v)]) ∧ c.D C ∧ (f = "name" ∨ f = "parts") := by
  cases h with
  | leaf p dx n h => exact ⟨_, _, _, _, h, .inl rfl, .inl rfl⟩
  | br row p dx t L h1 _ _ _ => exact ⟨_, _, _, _, h1, c.of_D row, .inr rfl⟩
/-- what the classes have -/
structure NFacts (K : PySem.W.Frag) (c : NCls) : Prop where
  cl : ∀ C, c.D C → Cls K C
  name : NoAttr K c.L "name"
  parts : ∀ row, NoAttr K (c.of row) "parts"
  eq : PlainEq K c.D
  lg : c.L ≠ c.G
  lr : c.L ≠ c.R
  gr : c.G ≠ c.R
theorem NFacts.lof {K : PySem.W.Frag} {c : NCls} (F : NFacts K c) (row : Bool) : c.of row ≠ c.L := by
  cases row
  · exact F.lg.symm
  · exact F.lr.symm
theorem NFacts.inj {K : PySem.W.Frag} {c : NCls} (F : NFacts K c) {a b : Bool} (h : c.of a = c.of b) : a = b := by
  cases a <;> cases b
  · rfl
  · exact absurd h F.gr
  · exact absurd h F.gr.symm
  · rfl
theorem nd_at {L : Parts} {i : Nat} {v : V} (h : (L.map fun q => V.ref q.1)[i]? = some v) : ∃ q, L[i]? = some q ∧ q ∈ L ∧ v = .ref q.1 := by
  rw [List.getElem?_map] at h
  cases e : L[i]? with
  | none => rw [e] at h; cases h
  | some q => rw [e] at h; exact ⟨q, rfl, List.mem_of_getElem? e, (Option.some.inj h).symm⟩
theorem st_at {L : List Str} {i : Nat} {v : V} (h : (L.map V.str)[i]? = some v) : ∃ q, L[i]? = some q ∧ q ∈ L ∧ v = .str q := by
  rw [List.getElem?_map] at h
  cases e : L[i]? with
  | none => rw [e] at h; cases h
  | some q => rw [e] at h; exact ⟨q, rfl, List.mem_of_getElem? e, (Option.some.inj h).symm⟩
theorem take_one {α : Type} {l : List α} {i : Nat} {x : α} (h : l[i]? = some x) : l.take (i + 1) = l.take i ++ [x] := by rw [List.take_succ, h]; rfl
/-- the walk of a clause -/
theorem in_it {J : It} {n : Nat} {G : Hp → Prop} {Y : Nat → Hp → V → Hp → Prop} (w : Walk J n G Y) {g : TG} {tt : TT} {vs : List Nat} {σ0 : L2.St} {H1 : Hp} {Qd : Hp → Prop} {tb : L2.St → Hp → (Hp → Prop) → Prop} (Pv : Nat → Hp → Prop) (h0 : Pv 0 H1) (hG : ∀ i H, i ≤ n → Pv i H → G H)
    (hs : ∀ i x H H', i < n → Pv i H → Y i H x H' → g x σ0 H' fun σ2 H2 => wipe σ2 vs = σ0 ∧ tt σ2 H2 fun b H3 => if b = true then tb σ2 H3 (Pv (i + 1)) else Pv (i + 1) H3) (hd : ∀ H, Pv n H → Qd H) :
    ∃ W : Nat → Nat → Hp → Prop, (∃ m, W 0 m H1) ∧ ∀ i m H, W i m H →
      (J.stop i H ∧ Qd H) ∨ (J.go i H ∧ ∃ Nx : Hp → Prop, (∀ H', Nx H' → ∃ m', m' < m ∧ W (i + 1) m' H') ∧ ∀ x H', J.yld i H x H' → g x σ0 H' fun σ2 H2 => wipe σ2 vs = σ0 ∧ tt σ2 H2 fun b H3 => if b = true then tb σ2 H3 Nx else Nx H3) := by
  refine ⟨fun i m H => m + i = n ∧ Pv i H, ⟨n, Nat.add_zero n, h0⟩, ?_⟩
  rintro i m H ⟨e, p⟩
  have here := hG i H (by omega) p
  rcases Nat.lt_or_ge i n with lt | ge
  · exact .inr ⟨w.goes i H lt here, Pv (i + 1), fun H' p' => ⟨m - 1, by omega, by omega, p'⟩, fun x H' y => hs i x H H' lt p (w.yields i H x H' lt here y)⟩
  · have e2 : i = n := by omega
    subst e2
    exact .inl ⟨w.stops H here, hd H p⟩
def PartsAt (c : NCls) (H : Hp) (d : Nat) (L : Parts) : Prop := ∀ q ∈ L, NodeAt c H q.1 q.2 ∧ q.2.depth ≤ d
theorem PartsAt.of {c : NCls} {H H' : Hp} {d : Nat} {L : Parts} (h : PartsAt c H d L) (s : Same H H') : PartsAt c H' d L := fun q hq => ⟨(h q hq).1.of s, (h q hq).2⟩
def lvs (L : Parts) : List Str := L.flatMap fun q => q.2.leaves
theorem lvs_map (L : Parts) : (L.map (·.2)).flatMap Sh.leaves = lvs L := by
  unfold lvs
  rw [List.flatMap_map]
theorem lvs_part {L : Parts} {q : Nat × Sh} (h : q ∈ L) : q.2.leaves.length ≤ (lvs L).length := by
  obtain ⟨a, b, rfl⟩ := List.append_of_mem h
  unfold lvs
  rw [List.flatMap_append, List.flatMap_cons, List.length_append, List.length_append]
  omega
theorem lvs_take (L : Parts) (i : Nat) : (lvs (L.take i)).length ≤ (lvs L).length := by
  have e : lvs L = lvs (L.take i) ++ lvs (L.drop i) := by
    unfold lvs
    rw [← List.flatMap_append, List.take_append_drop]
  rw [e, List.length_append]
  omega
def spLeaves (c : NCls) (d : Nat) (C : Addr) : Sp := fun vs H Q _ => ∃ p s dx fs, vs = [.ref p] ∧ H p = some (.ins C dx fs) ∧ NodeAt c H p s ∧ s.depth ≤ d ∧ s.leaves.length ≤ 720 ∧ ∀ H' t, Same H H' → H' t = some (.tup (s.leaves.map V.str)) → Q (.ref t) H'
def spLeavesOf (K : PySem.W.Frag) (c : NCls) (d : Nat) : Sp := fun vs H Q _ => ∃ t L, vs = [.ref t] ∧ SqT K H t (L.map fun q => V.ref q.1) ∧ PartsAt c H d L ∧ (lvs L).length ≤ 720 ∧ ∀ H' t, Same H H' → H' t = some (.tup ((lvs L).map V.str)) → Q (.ref t) H'
structure TxtNd (mg : Str → Option Value) : Prop where
  tuple : mg "tuple" = none
  list : mg "list" = none
  len : mg "len" = none
section
variable {P : Program} {w : World} {K : PySem.W.Frag} {mg : Str → Option Value} {base : Heap} {c : NCls}
theorem scLeafLeaves : FnScope ["self"] ["self"] (defScope sLeafLeaves) := ⟨rfl, rfl, rfl, by decide +kernel, rfl, by decide +kernel, by decide +kernel⟩
theorem ok_leafleaves {f : Addr} {fd : FuncData} (F : Fun K "leaves" "Leaf.leaves" sLeafLeaves f fd) (N : NFacts K c) (d : Nat) : FnOk P w K mg base CX0 1 f fd ["self"] (spLeaves c d c.L) := by
  refine F.ok scLeafLeaves (fun vs H Q E h => ?_) (fun cdv A outer s H vs Q E hr h => ?_)
  · obtain ⟨p, s, dx, fs, rfl, _⟩ := h
    rfl
  · obtain ⟨p, s, dx, fs, rfl, hp, nd, _, _, k⟩ := h
    refine ⟨_, pss_one (ps_ret (pe_tup (pa_cons (pe_fld (pv 0) rfl) pa_nil))), ?_⟩
    cases nd with
    | br row _ dx' t L h1 _ _ _ =>
      rw [h1] at hp
      injection (Option.some.inj hp) with e
      exact absurd e (N.lof row)
    | leaf _ dx' n h1 =>
      exact ⟨_, rfl, p, c.L, dx', _, _, rfl, h1, N.cl _ (.inl rfl), N.name, lookS _ _, by show 1 ≤ sizeLine; decide, fun t ht => k _ t (Same.upd_new ht) upd_same⟩
theorem scLeavesOf : FnScope ["parts", "part", "name"] ["parts"] (defScope sLeavesOf) := ⟨rfl, rfl, rfl, by decide +kernel, rfl, by decide +kernel, by decide +kernel⟩
theorem ok_leavesof {f : Addr} {fd : FuncData} {d k : Nat} (F : Fun K "_leaves_of" "_leaves_of" sLeavesOf f fd) (T : TxtNd mg) (hD : ∀ C, c.D C → HasM P w K mg base CX0 k "leaves" ["self"] (spLeaves c d) C) : FnOk P w K mg base CX0 (k + 1) f fd ["parts"] (spLeavesOf K c d) := by
  refine F.ok scLeavesOf (fun vs H Q E h => ?_) (fun cdv A outer s H vs Q E hr h => ?_)
  · obtain ⟨t, L, rfl, _⟩ := h
    rfl
  · obtain ⟨t, L, rfl, ht, pa, few, k⟩ := h
    refine ⟨_, pss_one (ps_ret (pe_callTy call_tuple_of (by rfl) T.tuple (by decide +kernel) (pa_cons
      (pe_lc2 (own := [("part", 1), ("name", 2)]) (vs1 := [2]) (g := gName 1) (g1 := gName 2) (tt := tYes) (tt1 := tYes) (wi1 := iTup K (tMethD c.D "leaves" (spLeaves c d) E0 (tVar 1) tNil)) (te := tVar 2) rfl scLeavesOf.nd (pi_tup (pv 0))
        (blkOk_by (N := ["parts", "part", "name"]) (sc := defScope sLeavesOf) (by decide +kernel)) (by decide) (fun _ _ _ _ _ => pg_name (i := 1) scLeavesOf.nd rfl (Or.inl rfl)) (fun _ _ _ _ _ => pts_nil)
        (fun _ _ _ _ _ => by exact pi_tup (pe_methD0 (pv 1) hD hr pass0)) (fun _ _ _ _ _ => pg_name (i := 2) scLeavesOf.nd rfl (Or.inl rfl)) (fun _ _ _ _ _ => pts_nil) (fun _ _ _ _ _ => pv 2)) pa_nil))), ?_⟩
    refine ⟨_, rfl, t, rfl, ⟨_, ht⟩, fun D hD0 => in_it (walk_tup (K := K) (a := t) (xs := L.map fun q => V.ref q.1)) (fun i H' => Same H H' ∧ H' D = some (.lst ((lvs (L.take i)).map V.str))) ⟨Same.upd_new hD0, upd_same⟩ (fun i H' _ ⟨s, _⟩ => Same.tup s ht) ?_ ?_⟩
    · rintro i v H1 H2 hi ⟨s1, hl⟩ ⟨rfl, hv⟩
      obtain ⟨q, hq, hqm, rfl⟩ := nd_at hv
      obtain ⟨C, dx, fn, fv, hi1, dC, fe⟩ := ((pa q hqm).1.of s1).ins
      have l1 := lvs_take L (i + 1)
      have e1 : lvs (L.take (i + 1)) = lvs (L.take i) ++ q.2.leaves := by
        rw [take_one hq]
        unfold lvs
        rw [List.flatMap_append, List.flatMap_cons, List.flatMap_nil, List.append_nil]
      refine ⟨rfl, _, rfl, q.1, C, dx, _, rfl, hi1, dC, lookN (by rcases fe with rfl | rfl <;> decide +kernel), q.1, q.2, dx, _, rfl, hi1, (pa q hqm).1.of s1, (pa q hqm).2, Nat.le_trans (lvs_part hqm) few, fun H3 u s3 hu => ?_⟩
      refine ⟨u, rfl, ⟨_, SqT.of hu⟩, in_it (walk_tup (K := K) (a := u) (xs := q.2.leaves.map V.str)) (fun j H' => Same H H' ∧ H' u = some (.tup (q.2.leaves.map V.str)) ∧ H' D = some (.lst ((lvs (L.take i) ++ q.2.leaves.take j).map V.str))) ⟨s1.trans s3, hu, by rw [List.take_zero, List.append_nil]; exact s3 _ _ hl⟩ (fun j H' _ ⟨_, h, _⟩ => SqT.of h) ?_ ?_⟩
      · rintro j v H4 H5 hj ⟨s4, hu4, hl4⟩ ⟨rfl, hv⟩
        obtain ⟨n, hn, hnm, rfl⟩ := st_at hv
        refine ⟨rfl, _, rfl, _, hl4, ?_, fun b o e => ?_, ?_, ?_⟩
        · rw [List.length_map, List.length_append, List.length_take]
          rw [e1, List.length_append] at l1
          exact small1000 (by omega)
        · rw [upd_ne (ne_of_none e hD0)]
          exact s4 _ _ e
        · rw [upd_ne (by intro e; rw [e, hl4] at hu4; cases hu4)]
          exact hu4
        · rw [upd_same, take_one hn, List.map_append, List.map_append, List.map_append, List.append_assoc]
          rfl
      · rintro H4 ⟨s4, _, hl4⟩
        rw [List.length_map, List.take_length, ← e1] at hl4
        exact ⟨s4, hl4⟩
    · rintro H1 ⟨s1, hl⟩
      rw [List.length_map, List.take_length] at hl
      refine ⟨D, _, rfl, .inl ⟨SqL.of hl, fun t ht => k _ t (s1.trans (Same.upd_new ht)) upd_same⟩⟩
theorem scGroupLeaves : FnScope ["self"] ["self"] (defScope sGroupLeaves) := ⟨rfl, rfl, rfl, by decide +kernel, rfl, by decide +kernel, by decide +kernel⟩
theorem scRowLeaves : FnScope ["self"] ["self"] (defScope sRowLeaves) := ⟨rfl, rfl, rfl, by decide +kernel, rfl, by decide +kernel, by decide +kernel⟩
theorem ok_groupleaves {f : Addr} {fd : FuncData} {d k : Nat} (F : Fun K "leaves" "Group.leaves" sGroupLeaves f fd) (N : NFacts K c) (g : Dfn P w K mg base CX0 k "_leaves_of" ["parts"] (spLeavesOf K c d)) : FnOk P w K mg base CX0 (k + 1) f fd ["self"] (spLeaves c (d + 1) c.G) := by
  obtain ⟨fO, dO, mO, kO, bO, GO⟩ := g
  refine F.ok scGroupLeaves (fun vs H Q E h => ?_) (fun cdv A outer s H vs Q E hr h => ?_)
  · obtain ⟨p, s, dx, fs, rfl, _⟩ := h
    rfl
  · obtain ⟨p, s, dx, fs, rfl, hp, nd, hd, few, k⟩ := h
    refine ⟨_, pss_one (ps_ret (pe_call GO hr (by rfl) mO kO bO .nil pass0 (pa_cons (pe_fld (pv 0) rfl) pa_nil))), ?_⟩
    cases nd with
    | leaf _ dx' n h1 =>
      rw [h1] at hp
      injection (Option.some.inj hp) with e
      exact absurd e N.lg
    | br row _ dx' t L h1 h2 h3 h4 =>
      rw [leaves_br, lvs_map] at few k
      rw [Sh.depth] at hd
      exact ⟨_, rfl, p, c.of row, dx', _, _, rfl, h1, N.cl _ (c.of_D row), N.parts row, lookS _ _, t, L, rfl, SqT.of h2, fun q hq => ⟨h4 q hq, by have := depth_mem (List.mem_map_of_mem (f := (·.2)) hq); omega⟩, few, k⟩
theorem ok_rowleaves {f : Addr} {fd : FuncData} {d k : Nat} (F : Fun K "leaves" "Row.leaves" sRowLeaves f fd) (N : NFacts K c) (g : Dfn P w K mg base CX0 k "_leaves_of" ["parts"] (spLeavesOf K c d)) : FnOk P w K mg base CX0 (k + 1) f fd ["self"] (spLeaves c (d + 1) c.R) := by
  obtain ⟨fO, dO, mO, kO, bO, GO⟩ := g
  refine F.ok scRowLeaves (fun vs H Q E h => ?_) (fun cdv A outer s H vs Q E hr h => ?_)
  · obtain ⟨p, s, dx, fs, rfl, _⟩ := h
    rfl
  · obtain ⟨p, s, dx, fs, rfl, hp, nd, hd, few, k⟩ := h
    refine ⟨_, pss_one (ps_ret (pe_call GO hr (by rfl) mO kO bO .nil pass0 (pa_cons (pe_fld (pv 0) rfl) pa_nil))), ?_⟩
    cases nd with
    | leaf _ dx' n h1 =>
      rw [h1] at hp
      injection (Option.some.inj hp) with e
      exact absurd e N.lr
    | br row _ dx' t L h1 h2 h3 h4 =>
      rw [leaves_br, lvs_map] at few k
      rw [Sh.depth] at hd
      exact ⟨_, rfl, p, c.of row, dx', _, _, rfl, h1, N.cl _ (c.of_D row), N.parts row, lookS _ _, t, L, rfl, SqT.of h2, fun q hq => ⟨h4 q hq, by have := depth_mem (List.mem_map_of_mem (f := (·.2)) hq); omega⟩, few, k⟩
end
end Dl

/-! what begins an order of a node -/
namespace Dl
open PySem PySem.Spec PyProof.Rows L2
section
variable {X : Cx}
def rSlW (K : PySem.W.Frag) : V → Option Int → Option Int → Hp → VK → Prop := fun x lo hi H Q => ∃ a xs, x = .ref a ∧ SqT K H a xs ∧ ∀ H' p, Same H H' → SqT K H' p (cutV xs lo hi) → Q (.ref p) H'
theorem sl_tupW : SlR X (rSlW X.K) := by
  intro pins s σ H x v vl vu lo hi sl Q I rx hs pl pu h
  obtain ⟨a, xs, rfl, hx, q⟩ := h
  refine sl_tupA pins s σ H _ v vl vu lo hi sl Q I rx hs pl pu ⟨a, xs, rfl, hx, fun hw => ?_, fun _ p hp => q _ p (Same.upd_new hp) (SqT.of upd_same)⟩
  have e : cutV xs lo hi = xs := by
    unfold cutV
    rw [hw.1, hw.2]
    simp
  exact q H a (Same.refl H) (by rw [e]; exact hx)
def rCatW (K : PySem.W.Frag) : R2 := fun x y H Q => ∃ a b xs ys, x = .ref a ∧ y = .ref b ∧ SqT K H a xs ∧ SqT K H b ys ∧ xs.length + ys.length ≤ sizeLine ∧ ∀ H' p, Same H H' → SqT K H' p (xs ++ ys) → Q (.ref p) H'
theorem op_catW : OpR X (binaryOp .Add) (rCatW X.K) := by
  intro pins s σ H x y v u Q I rx ry h
  obtain ⟨a, b, xs, ys, rfl, rfl, ha, hb, hz, q⟩ := h
  refine op_catA pins s σ H _ _ v u Q I rx ry ⟨a, b, xs, ys, rfl, rfl, ha, hb, hz, fun e => ?_, fun _ e => ?_, fun _ _ p hp => q _ p (Same.upd_new hp) (SqT.of upd_same)⟩
  · subst e; exact q H b (Same.refl H) hb
  · subst e; exact q H a (Same.refl H) (by rw [List.append_nil]; exact ha)
end
theorem cut_nat {xs : List V} {s e : Nat} (h : s ≤ e) : cutV xs (some (s : Int)) (some (e : Int)) = (xs.drop s).take (e - s) := by
  unfold cutV
  rw [HT.sIx_nat, HT.sIx_nat]
  by_cases h1 : e ≤ xs.length
  · rw [Nat.min_eq_left h1, Nat.min_eq_left (show s ≤ xs.length by omega)]
  · by_cases h2 : s ≤ xs.length
    · rw [Nat.min_eq_left h2, Nat.min_eq_right (show xs.length ≤ e by omega), List.take_of_length_le (by rw [List.length_drop]; omega), List.take_of_length_le (by rw [List.length_drop]; omega)]
    · rw [Nat.min_eq_right (show xs.length ≤ s by omega), Nat.min_eq_right (show xs.length ≤ e by omega), List.drop_of_length_le (Nat.le_refl _), List.drop_of_length_le (by omega)]
      simp
structure GoodS (s : Sh) : Prop where
  ok : s.Ok
  nd : s.leaves.Nodup
  can : ∀ z ∈ s.leaves, canS z
  few : s.leaves.length ≤ 720
theorem nodup_part {L : Parts} (h : (lvs L).Nodup) {q : Nat × Sh} (hq : q ∈ L) : q.2.leaves.Nodup := by
  obtain ⟨a, b, rfl⟩ := List.append_of_mem hq
  unfold lvs at h
  rw [List.flatMap_append, List.flatMap_cons] at h
  exact (List.nodup_append.mp (List.nodup_append.mp h).2.1).1
theorem lvs_mem {L : Parts} {q : Nat × Sh} (hq : q ∈ L) {z : Str} (h : z ∈ q.2.leaves) : z ∈ lvs L := List.mem_flatMap.mpr ⟨q, hq, h⟩
theorem GoodS.parts {row : Bool} {L : Parts} (g : GoodS (.br row (L.map (·.2)))) : (lvs L).Nodup ∧ (lvs L).length ≤ 720 ∧ ∀ q ∈ L, GoodS q.2 := by
  have nd := g.nd
  have few := g.few
  have can := g.can
  rw [leaves_br, lvs_map] at nd few can
  refine ⟨nd, few, fun q hq => ?_⟩
  have ok := g.ok
  cases ok with
  | br _ _ _ _ _ hp => exact ⟨hp _ (List.mem_map_of_mem hq), nodup_part nd hq, fun z hz => can z (lvs_mem hq hz), Nat.le_trans (lvs_part hq) few⟩
theorem GoodS.pok {row : Bool} {L : Parts} (g : GoodS (.br row (L.map (·.2)))) (ids : (L.map (·.1)).Nodup) : PartsOk L :=
  ⟨ids, g.parts.1, fun q hq e => by have := leaves_pos (g.parts.2.2 q hq).ok; rw [e] at this; exact absurd this (by decide)⟩
theorem eqv_leaf (n : Str) (pre : List Str) : ([PyData.list [], .list [.str n]].any fun z => PyData.eqv z (.list (pre.map PyData.str))) = decide (pre = [] ∨ pre = [n]) := by
  have e0 : ∀ ds : List PyData, PyData.eqv (.list []) (.list ds) = ds.isEmpty := fun ds => by cases ds <;> simp [PyData.eqv, PyData.eqvAll]
  match pre with
  | [] => simp [e0]
  | [x] =>
    simp only [List.any_cons, List.any_nil, Bool.or_false, List.map_cons, List.map_nil, e0]
    simp only [PyData.eqv, PyData.eqvAll]
    by_cases h : n = x
    · simp [h]
    · have h2 : ¬ x = n := fun e => h e.symm
      simp [h, h2]
  | x :: y :: r =>
    simp only [List.any_cons, List.any_nil, Bool.or_false, List.map_cons, e0]
    simp [PyData.eqv, PyData.eqvAll]
def spBegins (K : PySem.W.Frag) (c : NCls) (d : Nat) (C : Addr) : Sp := fun vs H Q _ => ∃ p s dx fs u pre, vs = [.ref p, .ref u] ∧ H p = some (.ins C dx fs) ∧ NodeAt c H p s ∧ s.depth ≤ d ∧ GoodS s ∧ SqT K H u (pre.map V.str) ∧ (∀ z ∈ pre, canS z) ∧ pre.length ≤ 1000 ∧ ∀ H', Same H H' → Q (.bl (s.begins pre)) H'
def spTurn (K : PySem.W.Frag) (c : NCls) (d : Nat) : Sp := fun vs H Q _ => ∃ t u L pre, vs = [.ref t, .ref u] ∧ (SqL K H t (L.map fun q => V.ref q.1) ∨ SqT K H t (L.map fun q => V.ref q.1)) ∧ PartsAt c H d L ∧ (∀ q ∈ L, GoodS q.2) ∧ (lvs L).length ≤ 720 ∧ SqT K H u (pre.map V.str) ∧ (∀ z ∈ pre, canS z) ∧ pre.length ≤ 1000 ∧
  ∀ H', Same H H' → Q (.bl (beginsL (L.map (·.2)) pre)) H'
def spNamed (K : PySem.W.Frag) (c : NCls) (d : Nat) : Sp := fun vs H Q _ => ∃ t u L pre, vs = [.ref t, .ref u] ∧ SqT K H t (L.map fun q => V.ref q.1) ∧ PartsAt c H d L ∧ (L.map (·.1)).Nodup ∧ (lvs L).length ≤ 720 ∧ L.length ≤ 720 ∧ SqT K H u (pre.map V.str) ∧
  ∀ H' D, Same H H' → H' D = some (.lst ((namedL L [] pre).map fun q => V.ref q.1)) → Q (.ref D) H'
section
variable {P : Program} {w : World} {K : PySem.W.Frag} {mg : Str → Option Value} {base : Heap} {c : NCls}
theorem scLeafBegins : FnScope ["self", "prefix"] ["self", "prefix"] (defScope sLeafBegins) := ⟨rfl, rfl, rfl, by decide +kernel, rfl, by decide +kernel, by decide +kernel⟩
theorem ok_leafbegins {f : Addr} {fd : FuncData} (F : Fun K "begins" "Leaf.begins" sLeafBegins f fd) (T : TxtNd mg) (N : NFacts K c) (d : Nat) : FnOk P w K mg base CX0 1 f fd ["self", "prefix"] (spBegins K c d c.L) := by
  refine F.ok scLeafBegins (fun vs H Q E h => ?_) (fun cdv A outer s H vs Q E hr h => ?_)
  · obtain ⟨p, s, dx, fs, u, pre, rfl, _⟩ := h
    rfl
  · obtain ⟨p, s, dx, fs, u, pre, rfl, hp, nd, _, g, hu, can, few, k⟩ := h
    refine ⟨_, pss_one (ps_ret (pe_cmpR (op_inT (room65 hr)) (pe_callTy call_list_of (by rfl) T.list (by decide +kernel) (pa_cons (pv 1) pa_nil)) (pe_tup (pa_cons (pe_lst pa_nil) (pa_cons (pe_lst (pa_cons (pe_fld (pv 0) rfl) pa_nil)) pa_nil))) (by rfl))), ?_⟩
    cases nd with
    | br row _ dx' t L h1 _ _ _ =>
      rw [h1] at hp
      injection (Option.some.inj hp) with e
      exact absurd e (N.lof row)
    | leaf _ dx' n h1 =>
      have cn : canS n := g.can n (by rw [Sh.leaves]; exact List.mem_singleton.mpr rfl)
      refine ⟨_, rfl, u, _, rfl, .inr hu, fun l hl => ⟨by decide, fun e0 he0 => ⟨_, rfl, p, c.L, dx', [("name", .str n)], .str n, rfl, ?_⟩⟩⟩
      have s1 := Same.upd_new hl (o := .lst (pre.map V.str))
      have s2 := Same.upd_new he0 (o := .lst [])
      refine ⟨s2 _ _ (s1 _ _ h1), N.cl _ (.inl rfl), N.name, lookS _ _, by show 1 ≤ sizeLine; decide, fun e1 he1 => ⟨by show 2 ≤ sizeLine; decide, fun t ht => ?_⟩⟩
      have s3 := Same.upd_new he1 (o := .lst [V.str n])
      have s4 := Same.upd_new ht (o := .tup [V.ref e0, .ref e1])
      refine ⟨.list (pre.map PyData.str), [.list [], .list [.str n]], .lst (SqL.of ((s2.trans (s3.trans s4)) _ _ upd_same)) (dpAll_strs pre), .tup (SqT.of upd_same) (.cons (.lst (SqL.of ((s3.trans s4) _ _ upd_same)) .nil) (.cons (.lst (SqL.of (s4 _ _ upd_same)) (.cons (.str n) .nil)) .nil)), ?_, ?_, ?_⟩
      · exact shaped_of (by rw [PyData.canLay0]; exact canAll_strs can) (by rw [PyData.depth, depthAll_strs]; decide)
      · unfold SeqAt.shaped
        rw [Bool.and_eq_true]
        exact ⟨by have := cn; unfold canS at this; rw [PyData.canLay0] at this; simp [PyData.canLay0, PyData.canLayAll0, this], by simp [PyData.depth, PyData.depthAll]⟩
      · rw [if_neg (by decide), eqv_leaf, ← begins_leaf]
        exact k _ (s1.trans (s2.trans (s3.trans s4)))
end
end Dl

namespace Dl
open PySem PySem.Spec PyProof.Rows L2
theorem fold_len {L : Parts} (ids : (L.map (·.1)).Nodup) {M : Parts} (sub : ∀ q ∈ M, q ∈ L) (nd : (M.map (·.1)).Nodup) : M.length ≤ L.length := by
  have := List.Nodup.length_le_of_subset (l₁ := M.map (·.1)) (l₂ := L.map (·.1)) nd fun a ha => by
    obtain ⟨q, hq, rfl⟩ := List.mem_map.mp ha
    exact List.mem_map_of_mem (sub q hq)
  rwa [List.length_map, List.length_map] at this
theorem lvs_perm {L M : Parts} (h : L.Perm M) : (lvs L).Perm (lvs M) := by
  rw [← lvs_map, ← lvs_map]
  exact flatMap_perm (h.map _)
theorem lvs_named {L M : Parts} (ids : (L.map (·.1)).Nodup) (sub : ∀ q ∈ M, q ∈ L) (nd : (M.map (·.1)).Nodup) : (lvs M).length ≤ (lvs L).length := by
  obtain ⟨R, pp⟩ := rest_perm sub nd ids
  have := (lvs_perm pp).length_eq
  unfold lvs at this ⊢
  rw [List.flatMap_append, List.length_append] at this
  omega
theorem nodes_in {c : NCls} {K : PySem.W.Frag} {H : Hp} {d : Nat} {L : Parts} (pa : PartsAt c H d L) {q : Nat × Sh} (hq : q ∈ L) : InsOf c.D H q.1 := by
  obtain ⟨C, dx, f, v, h, dC, _⟩ := (pa q hq).1.ins
  exact ⟨C, dx, _, h, dC⟩
section
variable {P : Program} {w : World} {K : PySem.W.Frag} {mg : Str → Option Value} {base : Heap} {c : NCls}
theorem scNamed : FnScope ["parts", "prefix", "named", "name", "part"] ["parts", "prefix"] (defScope sPartsAsNamed) := ⟨rfl, rfl, rfl, by decide +kernel, rfl, by decide +kernel, by decide +kernel⟩
theorem ok_named {f : Addr} {fd : FuncData} {d k : Nat} (F : Fun K "_parts_as_named" "_parts_as_named" sPartsAsNamed f fd) (N : NFacts K c) (hD : ∀ C, c.D C → HasM P w K mg base CX0 k "leaves" ["self"] (spLeaves c d) C) : FnOk P w K mg base CX0 (k + 1) f fd ["parts", "prefix"] (spNamed K c d) := by
  refine F.ok scNamed (fun vs H Q E h => ?_) (fun cdv A outer s H vs Q E hr h => ?_)
  · obtain ⟨t, u, L, pre, rfl, _⟩ := h
    rfl
  · obtain ⟨t, u, L, pre, rfl, ht, pa, ids, few, fewL, hu, k⟩ := h
    refine ⟨_, pss_cons (ps_set (i := 2) scNamed.nd rfl (Or.inl rfl) (pe_lst pa_nil)) (pss_cons (ps_for PassesOwn.never rfl (pi_tup (pv 1)) (pg_name (i := 3) scNamed.nd rfl (Or.inl rfl)) (pss_one
      (ps_for PassesOwn.never rfl (pi_tup (pv 0)) (pg_name (i := 4) scNamed.nd rfl (Or.inl rfl)) (pss_one
        (ps_if (PW.pt (pw_and (pt_cmpR op_in_seq (pv 3) (pe_methD0 (pv 4) hD hr pass0) (by rfl)) (pw_and1 (pt_cmpR (op_notInI N.eq (hu_of hr)) (pv 4) (pv 2) (by rfl)))))
          (pss_one (ps_expr (pe_bm PySem.F.plainAttrs_list PySem.F.slot_list_append PySem.F.type_list_append mt_append (pv 2) (pa_cons (pv 4) pa_nil)))) pss_nil)))))
      (pss_one (ps_ret (pv 2)))), ?_⟩
    refine ⟨Nat.zero_le _, fun D hD0 => ?_⟩
    refine ⟨_, rfl, u, rfl, ⟨_, Same.tup (Same.upd_new hD0) hu⟩, for_it (walk_tup (K := K) (a := u) (xs := pre.map V.str)) (fun i σ H' => ∃ x3 x4, σ = [some (.ref t), some (.ref u), some (.ref D), x3, x4] ∧ Same H H' ∧ H' D = some (.lst ((namedL L [] (pre.take i)).map fun q => V.ref q.1)))
      ⟨none, none, rfl, Same.upd_new hD0, upd_same⟩ (fun i σ H' _ ⟨_, _, _, s, _⟩ => Same.tup s hu) ?_ ?_⟩
    · rintro i v σ H1 H2 hi ⟨x3, x4, rfl, s1, hl⟩ ⟨rfl, hv⟩
      obtain ⟨n, hn, hnm, rfl⟩ := st_at hv
      obtain ⟨subM, ndM⟩ := named_ok L (pre.take i) [] (by simp) (by simp)
      have eN : namedL L [] (pre.take (i + 1)) = nameT L (namedL L [] (pre.take i)) n := by
        rw [take_one hn, named_append]
        rfl
      generalize namedL L [] (pre.take i) = M at *
      refine ⟨_, rfl, t, rfl, ⟨_, Same.tup s1 ht⟩, for_it (walk_tup (K := K) (a := t) (xs := L.map fun q => V.ref q.1)) (fun j σ H' => ∃ x4, σ = [some (.ref t), some (.ref u), some (.ref D), some (.str n), x4] ∧ Same H H' ∧ H' D = some (.lst (((L.take j).foldl (nameS n) M).map fun q => V.ref q.1)))
        ⟨x4, rfl, s1, hl⟩ (fun i σ H' _ ⟨_, _, s, _⟩ => Same.tup s ht) ?_ ?_⟩
      · rintro j v σ H3 H4 hj ⟨x4, rfl, s3, hl3⟩ ⟨rfl, hv⟩
        obtain ⟨q, hq, hqm, rfl⟩ := nd_at hv
        obtain ⟨C, dx, fn, fv, hi1, dC, fe⟩ := ((pa q hqm).1.of s3).ins
        have eS : (L.take (j + 1)).foldl (nameS n) M = nameS n ((L.take j).foldl (nameS n) M) q := by rw [take_one hq, List.foldl_append]; rfl
        obtain ⟨subM', ndM'⟩ := foldS_ok n L (L.take j) M (fun p hp => List.mem_of_mem_take hp) subM ndM
        generalize (L.take j).foldl (nameS n) M = M' at *
        refine ⟨_, rfl, _, rfl, q.1, C, dx, _, rfl, hi1, dC, lookN (by rcases fe with rfl | rfl <;> decide +kernel), q.1, q.2, dx, _, rfl, hi1, (pa q hqm).1.of s3, (pa q hqm).2, Nat.le_trans (lvs_part hqm) few, fun H5 v s5 hv5 => ?_⟩
        have hl5 := s5 _ _ hl3
        have s35 := s3.trans s5
        refine ⟨v, _, rfl, .inr (SqT.of hv5), rfl, flat_strs q.2.leaves, _, rfl, ?_⟩
        rw [inV_str]
        have stay : nameS n M' q = M' → ∃ x4, [some (V.ref t), some (.ref u), some (.ref D), some (.str n), some (.ref q.1)] = [some (.ref t), some (.ref u), some (.ref D), some (.str n), x4] ∧ Same H H5 ∧ H5 D = some (.lst (((L.take (j + 1)).foldl (nameS n) M).map fun q => V.ref q.1)) := fun e => ⟨_, rfl, s35, by rw [eS, e]; exact hl5⟩
        by_cases m : n ∈ q.2.leaves
        · refine iteY (decide_eq_true m) ⟨_, rfl, _, rfl, q.1, D, M'.map (·.1), rfl, rfl, SqL.of (by rw [List.map_map]; exact hl5), nodes_in (K := K) (pa.of s35) hqm, fun b hb => ?_, _, rfl, ?_⟩
          · obtain ⟨p, hp, rfl⟩ := List.mem_map.mp hb
            exact nodes_in (K := K) (pa.of s35) (subM' p hp)
          · by_cases m2 : q.1 ∈ M'.map (·.1)
            · refine iteZ (by rw [decide_eq_true m2]; rfl) ?_
              exact stay (by unfold nameS; rw [if_neg (fun h => h.2 m2)])
            · refine iteY (by rw [decide_eq_false m2]; rfl) ?_
              refine ⟨_, rfl, .inl ⟨rfl, _, SqL.of hl5⟩, _, rfl, D, _, _, rfl, rfl, hl5, ?_, ?_⟩
              · rw [List.length_map]
                have := fold_len ids subM' ndM'
                exact small1000 (by omega)
              · refine ⟨_, rfl, fun b o e => ?_, ?_⟩
                · rw [upd_ne (ne_of_none e hD0)]
                  exact s35 _ _ e
                · rw [upd_same, eS]
                  have e : nameS n M' q = M' ++ [q] := by unfold nameS; rw [if_pos ⟨m, m2⟩]
                  rw [e, List.map_append]
                  rfl
        · refine iteZ (decide_eq_false m) ?_
          exact stay (by unfold nameS; rw [if_neg (fun h => m h.1)])
      · rintro σ H3 ⟨x4, rfl, s3, hl3⟩
        rw [List.length_map, List.take_length] at hl3
        exact ⟨_, _, rfl, s3, by rw [eN]; exact hl3⟩
    · rintro σ H1 ⟨x3, x4, rfl, s1, hl⟩
      rw [List.length_map, List.take_length] at hl
      exact ⟨_, rfl, k _ _ s1 hl⟩
theorem scTurn : FnScope ["parts", "prefix", "start", "part", "end"] ["parts", "prefix"] (defScope sBeginInTurn) := ⟨rfl, rfl, rfl, by decide +kernel, rfl, by decide +kernel, by decide +kernel⟩
theorem ok_turn {f : Addr} {fd : FuncData} {d k : Nat} (F : Fun K "_begin_in_turn" "_begin_in_turn" sBeginInTurn f fd) (T : TxtNd mg) (hD : ∀ C, c.D C → HasM P w K mg base CX0 k "leaves" ["self"] (spLeaves c d) C)
    (hB : ∀ C, c.D C → HasM P w K mg base CX0 k "begins" ["self", "prefix"] (spBegins K c d) C) : FnOk P w K mg base CX0 (k + 1) f fd ["parts", "prefix"] (spTurn K c d) := by
  refine F.ok scTurn (fun vs H Q E h => ?_) (fun cdv A outer s H vs Q E hr h => ?_)
  · obtain ⟨t, u, L, pre, rfl, _⟩ := h
    rfl
  · obtain ⟨t, u, L, pre, rfl, ht, pa, good, few, hu, can, fewp, k⟩ := h
    refine ⟨_, pss_cons (ps_set (i := 2) scTurn.nd rfl (Or.inl rfl) pe_int) (pss_cons (ps_for PassesOwn.never rfl (pi_lt (pv 0)) (pg_name (i := 3) scTurn.nd rfl (Or.inl rfl))
      (pss_cons (ps_set (i := 4) scTurn.nd rfl (Or.inl rfl) (pe_op op_add (pv 2) (pe_callB call_len_seq (by rfl) T.len PySem.boot_len (pa_cons (pe_methD0 (pv 3) hD hr pass0) pa_nil))))
      (pss_cons (ps_if (pt_not (pt_val (pe_methD (pv 3) hB hr pass0 (pa_cons (pe_slice sl_tupW (pv 1) (po_some (pv 2)) (po_some (pv 4))) pa_nil)))) (pss_one (ps_ret pe_bl)) pss_nil)
      (pss_one (ps_set (i := 2) scTurn.nd rfl (Or.inl rfl) (pv 4))))))
      (pss_one (ps_ret (pe_cmpR op_le (pe_callB call_len_seq (by rfl) T.len PySem.boot_len (pa_cons (pv 1) pa_nil)) (pv 2) (nomark _))))), ?_⟩
    rcases ht with ht | ht
    · refine ⟨_, rfl, t, rfl, .inl ⟨⟨_, ht⟩, for_it (walk_list (K := K) (a := t) (xs := L.map fun q => V.ref q.1)) (fun i σ H' => ∃ x3 x4, σ = [some (.ref t), some (.ref u), some (.int ((lvs (L.take i)).length : Nat)), x3, x4] ∧ Same H H' ∧ beginsL (L.map (·.2)) pre = beginsL ((L.drop i).map (·.2)) (pre.drop (lvs (L.take i)).length))
        ⟨none, none, rfl, Same.refl H, rfl⟩ (fun i σ H' _ ⟨_, _, _, s, _⟩ => Same.seq s ht) ?_ ?_⟩⟩
      · rintro i v σ H1 H2 hi ⟨x3, x4, rfl, s1, eB⟩ ⟨rfl, hv⟩
        obtain ⟨q, hq, hqm, rfl⟩ := nd_at hv
        obtain ⟨C, dx, fn, fv, hi1, dC, fe⟩ := ((pa q hqm).1.of s1).ins
        have e1 : lvs (L.take (i + 1)) = lvs (L.take i) ++ q.2.leaves := by
          rw [take_one hq]
          unfold lvs
          rw [List.flatMap_append, List.flatMap_cons, List.flatMap_nil, List.append_nil]
        have e2 : L.drop i = q :: L.drop (i + 1) := by
          obtain ⟨hlt, e⟩ := List.getElem?_eq_some_iff.mp hq
          rw [List.drop_eq_getElem_cons hlt, e]
        have l1 := lvs_take L i
        have l2 := lvs_part hqm
        rw [e2, List.map_cons, begL_cons, List.drop_drop] at eB
        generalize hsn : (lvs (L.take i)).length = sn at *
        refine ⟨_, rfl, _, rfl, q.1, C, dx, _, rfl, hi1, dC, lookN (by rcases fe with rfl | rfl <;> decide +kernel), q.1, q.2, dx, _, rfl, hi1, (pa q hqm).1.of s1, (pa q hqm).2, Nat.le_trans l2 few, fun H3 v s3 hv3 => ?_⟩
        have s13 := s1.trans s3
        refine ⟨v, _, rfl, .inr (SqT.of hv3), _, _, rfl, rfl, ?_⟩
        have hi3 := s3 _ _ hi1
        refine ⟨_, rfl, q.1, C, dx, _, rfl, hi3, dC, lookN (by rcases fe with rfl | rfl <;> decide +kernel), _, rfl, _, rfl, _, rfl, _, rfl, _, rfl, u, _, rfl, Same.tup s13 hu, fun H4 p s4 hp4 => ?_⟩
        rw [List.length_map, ← Int.natCast_add, cut_nat (Nat.le_add_right _ _), Nat.add_sub_cancel_left, ← List.map_drop, ← List.map_take] at hp4
        have s14 := s13.trans s4
        refine ⟨q.1, q.2, dx, _, p, (pre.drop sn).take q.2.leaves.length, rfl, s4 _ _ hi3, (pa q hqm).1.of s14, (pa q hqm).2, good q hqm, hp4, fun z hz => can z (List.mem_of_mem_drop (List.mem_of_mem_take hz)), by rw [List.length_take, List.length_drop]; omega, fun H5 s5 => ?_⟩
        have s15 := s14.trans s5
        refine ⟨_, rfl, ?_⟩
        cases hb : q.2.begins ((pre.drop sn).take q.2.leaves.length) with
        | false =>
          refine iteT ?_
          rw [hb, Bool.false_and] at eB
          have := k _ s15
          rw [eB] at this
          exact this
        | true =>
          refine iteF ⟨_, rfl, some (.ref q.1), some (.int ((sn : Int) + ((q.2.leaves.map V.str).length : Nat))), ?_, s15, ?_⟩
          · rw [e1, List.length_append, hsn, Int.natCast_add]
            rw [show ((q.2.leaves.length : Nat) : Int) = (((q.2.leaves.map V.str).length : Nat) : Int) by rw [List.length_map]]
            rfl
          · rw [eB, hb, Bool.true_and, e1, List.length_append, hsn]
      · rintro σ H1 ⟨x3, x4, rfl, s1, eB⟩
        rw [List.length_map, List.drop_of_length_le (Nat.le_refl _), List.take_of_length_le (Nat.le_refl _), List.map_nil, begL_nil] at eB
        rw [List.length_map, List.take_of_length_le (Nat.le_refl _)]
        refine ⟨_, rfl, u, _, rfl, .inr (Same.tup s1 hu), _, rfl, _, _, rfl, rfl, ?_⟩
        have := k _ s1
        rw [eB] at this
        have e : decide ((((pre.map V.str).length : Nat) : Int) ≤ ((lvs L).length : Nat)) = decide (pre.drop (lvs L).length = []) := by
          rw [List.length_map, decide_eq_decide, List.drop_eq_nil_iff]
          omega
        rw [← e] at this
        exact this
    · refine ⟨_, rfl, t, rfl, .inr ⟨⟨_, ht⟩, for_it (walk_tup (K := K) (a := t) (xs := L.map fun q => V.ref q.1)) (fun i σ H' => ∃ x3 x4, σ = [some (.ref t), some (.ref u), some (.int ((lvs (L.take i)).length : Nat)), x3, x4] ∧ Same H H' ∧ beginsL (L.map (·.2)) pre = beginsL ((L.drop i).map (·.2)) (pre.drop (lvs (L.take i)).length))
        ⟨none, none, rfl, Same.refl H, rfl⟩ (fun i σ H' _ ⟨_, _, _, s, _⟩ => Same.tup s ht) ?_ ?_⟩⟩
      · rintro i v σ H1 H2 hi ⟨x3, x4, rfl, s1, eB⟩ ⟨rfl, hv⟩
        obtain ⟨q, hq, hqm, rfl⟩ := nd_at hv
        obtain ⟨C, dx, fn, fv, hi1, dC, fe⟩ := ((pa q hqm).1.of s1).ins
        have e1 : lvs (L.take (i + 1)) = lvs (L.take i) ++ q.2.leaves := by
          rw [take_one hq]
          unfold lvs
          rw [List.flatMap_append, List.flatMap_cons, List.flatMap_nil, List.append_nil]
        have e2 : L.drop i = q :: L.drop (i + 1) := by
          obtain ⟨hlt, e⟩ := List.getElem?_eq_some_iff.mp hq
          rw [List.drop_eq_getElem_cons hlt, e]
        have l1 := lvs_take L i
        have l2 := lvs_part hqm
        rw [e2, List.map_cons, begL_cons, List.drop_drop] at eB
        generalize hsn : (lvs (L.take i)).length = sn at *
        refine ⟨_, rfl, _, rfl, q.1, C, dx, _, rfl, hi1, dC, lookN (by rcases fe with rfl | rfl <;> decide +kernel), q.1, q.2, dx, _, rfl, hi1, (pa q hqm).1.of s1, (pa q hqm).2, Nat.le_trans l2 few, fun H3 v s3 hv3 => ?_⟩
        have s13 := s1.trans s3
        refine ⟨v, _, rfl, .inr (SqT.of hv3), _, _, rfl, rfl, ?_⟩
        have hi3 := s3 _ _ hi1
        refine ⟨_, rfl, q.1, C, dx, _, rfl, hi3, dC, lookN (by rcases fe with rfl | rfl <;> decide +kernel), _, rfl, _, rfl, _, rfl, _, rfl, _, rfl, u, _, rfl, Same.tup s13 hu, fun H4 p s4 hp4 => ?_⟩
        rw [List.length_map, ← Int.natCast_add, cut_nat (Nat.le_add_right _ _), Nat.add_sub_cancel_left, ← List.map_drop, ← List.map_take] at hp4
        have s14 := s13.trans s4
        refine ⟨q.1, q.2, dx, _, p, (pre.drop sn).take q.2.leaves.length, rfl, s4 _ _ hi3, (pa q hqm).1.of s14, (pa q hqm).2, good q hqm, hp4, fun z hz => can z (List.mem_of_mem_drop (List.mem_of_mem_take hz)), by rw [List.length_take, List.length_drop]; omega, fun H5 s5 => ?_⟩
        have s15 := s14.trans s5
        refine ⟨_, rfl, ?_⟩
        cases hb : q.2.begins ((pre.drop sn).take q.2.leaves.length) with
        | false =>
          refine iteT ?_
          rw [hb, Bool.false_and] at eB
          have := k _ s15
          rw [eB] at this
          exact this
        | true =>
          refine iteF ⟨_, rfl, some (.ref q.1), some (.int ((sn : Int) + ((q.2.leaves.map V.str).length : Nat))), ?_, s15, ?_⟩
          · rw [e1, List.length_append, hsn, Int.natCast_add]
            rw [show ((q.2.leaves.length : Nat) : Int) = (((q.2.leaves.map V.str).length : Nat) : Int) by rw [List.length_map]]
            rfl
          · rw [eB, hb, Bool.true_and, e1, List.length_append, hsn]
      · rintro σ H1 ⟨x3, x4, rfl, s1, eB⟩
        rw [List.length_map, List.drop_of_length_le (Nat.le_refl _), List.take_of_length_le (Nat.le_refl _), List.map_nil, begL_nil] at eB
        rw [List.length_map, List.take_of_length_le (Nat.le_refl _)]
        refine ⟨_, rfl, u, _, rfl, .inr (Same.tup s1 hu), _, rfl, _, _, rfl, rfl, ?_⟩
        have := k _ s1
        rw [eB] at this
        have e : decide ((((pre.map V.str).length : Nat) : Int) ≤ ((lvs L).length : Nat)) = decide (pre.drop (lvs L).length = []) := by
          rw [List.length_map, decide_eq_decide, List.drop_eq_nil_iff]
          omega
        rw [← e] at this
        exact this
theorem scGroupBegins : FnScope ["self", "prefix"] ["self", "prefix"] (defScope sGroupBegins) := ⟨rfl, rfl, rfl, by decide +kernel, rfl, by decide +kernel, by decide +kernel⟩
theorem scRowBegins : FnScope ["self", "prefix"] ["self", "prefix"] (defScope sRowBegins) := ⟨rfl, rfl, rfl, by decide +kernel, rfl, by decide +kernel, by decide +kernel⟩
theorem ok_groupbegins {f : Addr} {fd : FuncData} {d k : Nat} (F : Fun K "begins" "Group.begins" sGroupBegins f fd) (N : NFacts K c) (gT : Dfn P w K mg base CX0 k "_begin_in_turn" ["parts", "prefix"] (spTurn K c d)) (gN : Dfn P w K mg base CX0 k "_parts_as_named" ["parts", "prefix"] (spNamed K c d)) :
    FnOk P w K mg base CX0 (k + 1) f fd ["self", "prefix"] (spBegins K c (d + 1) c.G) := by
  obtain ⟨fT, dT, mT, kT, bT, GT⟩ := gT
  obtain ⟨fN, dN, mN, kN, bN, GN⟩ := gN
  refine F.ok scGroupBegins (fun vs H Q E h => ?_) (fun cdv A outer s H vs Q E hr h => ?_)
  · obtain ⟨p, s, dx, fs, u, pre, rfl, _⟩ := h
    rfl
  · obtain ⟨p, s, dx, fs, u, pre, rfl, hp, nd, hd, g, hu, can, few, k⟩ := h
    refine ⟨_, pss_one (ps_ret (pe_call GT hr (by rfl) mT kT bT .nil pass0 (pa_cons (pe_call GN hr (by rfl) mN kN bN .nil pass0 (pa_cons (pe_fld (pv 0) rfl) (pa_cons (pv 1) pa_nil))) (pa_cons (pv 1) pa_nil)))), ?_⟩
    cases nd with
    | leaf _ dx' n h1 =>
      rw [h1] at hp
      injection (Option.some.inj hp) with e
      exact absurd e N.lg
    | br row _ dx' t L h1 h2 h3 h4 =>
      rw [h1] at hp
      injection (Option.some.inj hp) with ec
      obtain rfl : row = false := N.inj ec
      obtain ⟨nd, fewL, good⟩ := g.parts
      have pok := g.pok h3
      rw [Sh.depth] at hd
      have pa : PartsAt c H d L := fun q hq => ⟨h4 q hq, by have := depth_mem (List.mem_map_of_mem (f := (·.2)) hq); omega⟩
      have l4 : L.length ≤ 720 := by
        cases g.ok with
        | br _ _ _ h _ _ => rw [List.length_map] at h; omega
      obtain ⟨sub, ndN⟩ := named_ok L pre [] (by simp) (by simp)
      refine ⟨_, rfl, p, c.of false, dx', _, _, rfl, h1, N.cl _ (c.of_D false), N.parts false, lookS _ _, _, rfl, t, u, L, pre, rfl, SqT.of h2, pa, h3, fewL, l4, hu, fun H' D s1 hD => ?_⟩
      refine ⟨_, rfl, D, u, namedL L [] pre, pre, rfl, .inl (SqL.of hD), fun q hq => pa.of s1 q (sub q hq), fun q hq => good q (sub q hq), Nat.le_trans (lvs_named h3 sub ndN) fewL, Same.tup s1 hu, can, few, fun H2 s2 => ?_⟩
      rw [← begins_group pok]
      exact k _ (s1.trans s2)
theorem ok_rowbegins {f : Addr} {fd : FuncData} {d k : Nat} (F : Fun K "begins" "Row.begins" sRowBegins f fd) (N : NFacts K c) (gT : Dfn P w K mg base CX0 k "_begin_in_turn" ["parts", "prefix"] (spTurn K c d)) :
    FnOk P w K mg base CX0 (k + 1) f fd ["self", "prefix"] (spBegins K c (d + 1) c.R) := by
  obtain ⟨fT, dT, mT, kT, bT, GT⟩ := gT
  refine F.ok scRowBegins (fun vs H Q E h => ?_) (fun cdv A outer s H vs Q E hr h => ?_)
  · obtain ⟨p, s, dx, fs, u, pre, rfl, _⟩ := h
    rfl
  · obtain ⟨p, s, dx, fs, u, pre, rfl, hp, nd, hd, g, hu, can, few, k⟩ := h
    refine ⟨_, pss_one (ps_ret (pe_or (pe_call GT hr (by rfl) mT kT bT .nil pass0 (pa_cons (pe_fld (pv 0) rfl) (pa_cons (pv 1) pa_nil))) (pe_one (pe_call GT hr (by rfl) mT kT bT .nil pass0 (pa_cons (pe_revT (pe_fld (pv 0) rfl) (pe_un un_neg pe_int)) (pa_cons (pv 1) pa_nil)))))), ?_⟩
    cases nd with
    | leaf _ dx' n h1 =>
      rw [h1] at hp
      injection (Option.some.inj hp) with e
      exact absurd e N.lr
    | br row _ dx' t L h1 h2 h3 h4 =>
      rw [h1] at hp
      injection (Option.some.inj hp) with ec
      obtain rfl : row = true := N.inj ec
      obtain ⟨nd, fewL, good⟩ := g.parts
      rw [Sh.depth] at hd
      have pa : PartsAt c H d L := fun q hq => ⟨h4 q hq, by have := depth_mem (List.mem_map_of_mem (f := (·.2)) hq); omega⟩
      rw [begins_row, ← List.map_reverse] at k
      refine ⟨_, rfl, p, c.of true, dx', _, _, rfl, h1, N.cl _ (c.of_D true), N.parts true, lookS _ _, _, rfl, t, u, L, pre, rfl, .inr (SqT.of h2), pa, good, fewL, hu, can, few, fun H1 s1 => ?_⟩
      refine ⟨_, rfl, ?_⟩
      cases hb : beginsL (L.map (·.2)) pre with
      | true =>
        rw [hb, Bool.true_or] at k
        exact k _ s1
      | false =>
        rw [hb, Bool.false_or] at k
        refine ⟨_, rfl, p, c.of true, dx', _, _, rfl, s1 _ _ h1, N.cl _ (c.of_D true), N.parts true, lookS _ _, _, rfl, rfl, t, _, rfl, SqT.of (s1 _ _ h2), fun r hr0 => ?_⟩
        have s2 := Same.upd_new hr0 (o := .tup (L.map fun q => V.ref q.1).reverse)
        refine ⟨_, rfl, r, u, L.reverse, pre, rfl, .inr (SqT.of (by rw [List.map_reverse]; exact upd_same)), fun q hq => pa.of (s1.trans s2) q (List.mem_reverse.mp hq), fun q hq => good q (List.mem_reverse.mp hq), by rw [(lvs_perm (List.reverse_perm L)).length_eq]; exact fewL, Same.tup (s1.trans s2) hu, can, few, fun H3 s3 => ?_⟩
        exact k _ (s1.trans (s2.trans s3))
end
end Dl

/-! the drawn shape -/
namespace Dl
open PySem PySem.Spec PyProof.Rows L2
def kindS (row : Bool) : Str := if row then "row" else "group"
inductive ShAt (H : Hp) : V → Sh → Prop where
  | leaf (n : Str) : ShAt H (.str n) (.leaf n)
  | br (row : Bool) (a : Addr) (L : List (V × Sh)) : H a = some (.tup (.str (kindS row) :: L.map (·.1))) → (∀ q ∈ L, ShAt H q.1 q.2) → ShAt H (.ref a) (.br row (L.map (·.2)))
theorem ShAt.imp {H H' : Hp} {v : V} {s : Sh} (h : ShAt H v s) (k : ∀ a xs, H a = some (.tup xs) → H' a = some (.tup xs)) : ShAt H' v s := by
  induction h with
  | leaf n => exact .leaf n
  | br row a L h1 _ ih => exact .br row a L (k _ _ h1) ih
theorem ShAt.of {H H' : Hp} {v : V} {s : Sh} (h : ShAt H v s) (k : Same H H') : ShAt H' v s := h.imp fun a xs e => k _ _ e
theorem ShAt.ofB {H H' : Hp} {v : V} {s : Sh} {b : Addr} {ys : List V} (h : ShAt H v s) (hb : H b = some (.lst ys)) (k : SameB b H H') : ShAt H' v s := h.imp fun a xs e => k _ _ (fun q => by rw [q, hb] at e; cases e) e
def spShape (n : Nat) : Sp := fun vs H Q _ => ∃ (b u : Addr) (L : List Int) (zs : List Str), vs = [.ref b, .ref u] ∧ H b = some (.lst (L.map V.int)) ∧ BagOk L ∧ u ≠ b ∧ H u = some (.lst (zs.map V.str)) ∧ 1 ≤ zs.length ∧ zs.length ≤ n ∧
  ∀ (H' : Hp) (v : V) (s : Sh) (L' : List Int), SameB b H H' → H' b = some (.lst (L'.map V.int)) → BagOk L' → ShAt H' v s → s.leaves = zs → s.Ok → s.depth < zs.length → Q v H'
structure TxtSh (mg : Str → Option Value) : Prop where
  len : mg "len" = none
  min : mg "min" = none
  max : mg "max" = none
  range : mg "range" = none
  tuple : mg "tuple" = none
/-- the places where the names are cut -/
structure Cuts (n count : Nat) (cs : List Nat) : Prop where
  zero : cs[0]? = some 0
  up : ∀ j a b : Nat, cs[j]? = some a → cs[j + 1]? = some b → a < b
  low : ∀ j a : Nat, cs[j]? = some a → j ≤ a
  top : ∀ j a : Nat, cs[j]? = some a → a + count ≤ n + j
theorem Cuts.snoc {n count : Nat} {cs : List Nat} (h : Cuts n count cs) {a c : Nat} (ha : cs[cs.length - 1]? = some a) (lt : a < c) (hc : c + count ≤ n + cs.length) : Cuts n count (cs ++ [c]) := by
  have pos : 0 < cs.length := by
    have := (List.getElem?_eq_some_iff.mp ha).1
    omega
  have at_ : ∀ j x : Nat, (cs ++ [c])[j]? = some x → cs[j]? = some x ∨ (j = cs.length ∧ x = c) := fun j x e => by
    rcases Nat.lt_or_ge j cs.length with l | l
    · rw [List.getElem?_append_left l] at e; exact .inl e
    · rw [List.getElem?_append_right l] at e
      have := (List.getElem?_eq_some_iff.mp e).1
      have j0 : j - cs.length = 0 := by simp at this; omega
      rw [j0] at e
      exact .inr ⟨by omega, by simpa using e.symm⟩
  have la := h.low _ _ ha
  refine ⟨by rw [List.getElem?_append_left pos]; exact h.zero, fun j x y ex ey => ?_, fun j x ex => ?_, fun j x ex => ?_⟩
  · rcases at_ _ _ ex with e1 | ⟨rfl, rfl⟩
    · rcases at_ _ _ ey with e2 | ⟨e, e3⟩
      · exact h.up _ _ _ e1 e2
      · have : j = cs.length - 1 := by omega
        rw [this, ha] at e1
        rw [← Option.some.inj e1, e3]
        exact lt
    · have := (List.getElem?_eq_some_iff.mp ey).1
      simp at this
  · rcases at_ _ _ ex with ex | ⟨rfl, rfl⟩
    · exact h.low _ _ ex
    · omega
  · rcases at_ _ _ ex with ex | ⟨rfl, rfl⟩
    · exact h.top _ _ ex
    · exact hc
theorem Cuts.one {n count : Nat} (h : count ≤ n) : Cuts n count [0] := by
  have at_ : ∀ j x : Nat, ([0] : List Nat)[j]? = some x → j = 0 ∧ x = 0 := fun j x e => by
    match j, e with
    | 0, e => exact ⟨rfl, by simpa using e.symm⟩
    | j + 1, e => simp at e
  refine ⟨rfl, fun j x y ex ey => ?_, fun j x ex => ?_, fun j x ex => ?_⟩
  · have := (at_ _ _ ey).1
    omega
  · obtain ⟨rfl, rfl⟩ := at_ _ _ ex; exact Nat.le_refl _
  · obtain ⟨rfl, rfl⟩ := at_ _ _ ex; omega
theorem cuts_at {cs : List Nat} {j a : Nat} (h : cs[j]? = some a) : atI (cs.map fun c => V.int (c : Nat)) (j : Nat) = some (.int (a : Nat)) := by
  obtain ⟨l, e⟩ := List.getElem?_eq_some_iff.mp h
  unfold atI
  rw [List.length_map, ix_at l]
  show (cs.map _)[j]? = _
  rw [List.getElem?_map, h]
  rfl
theorem atI_last {xs : List V} {v : V} (h : xs[xs.length - 1]? = some v) : atI xs (-1) = some v := by
  have hl : 0 < xs.length := by
    have := (List.getElem?_eq_some_iff.mp h).1
    omega
  unfold atI ixN
  rw [if_neg (by omega), if_pos (by omega)]
  have e : (-1 + (xs.length : Int)).toNat = xs.length - 1 := by omega
  rw [e]
  exact h
section
variable {P : Program} {w : World} {K : PySem.W.Frag} {mg : Str → Option Value} {base : Heap}
theorem scShape : FnScope ["_law_bag_here", "_law_names_here", "_law_count", "_law_cuts", "_law_k", "_law_kind"] ["_law_bag_here", "_law_names_here"] (defScope sLawShape) := ⟨rfl, rfl, rfl, by decide +kernel, rfl, by decide +kernel, by decide +kernel⟩
theorem ok_shape {f : Addr} {fd : FuncData} (F : Fun K "_law_shape" "_law_shape" sLawShape f fd) (T : TxtSh mg) (gT : Dfn P w K mg base CX0 1 "_law_take" ["_law_bag_here", "_law_size"] spTake)
    (mShape : mg "_law_shape" = some (.ref f)) (bShape : Binds K fd ["_law_bag_here", "_law_names_here"] []) : ∀ n, n ≤ 24 → FnOk P w K mg base CX0 (n + 1) f fd ["_law_bag_here", "_law_names_here"] (spShape n)
  | 0, _ => by
    refine F.ok scShape (fun vs H Q E h => ?_) (fun cdv A outer s H vs Q E hr h => ?_)
    · obtain ⟨b, u, L, zs, rfl, _⟩ := h
      rfl
    · obtain ⟨b, u, L, zs, _, _, _, _, _, h1, h2, _⟩ := h
      exfalso
      omega
  | n + 1, hn => by
    have GShape := ok_shape F T gT mShape bShape n (by omega)
    have kShape := F.kp
    obtain ⟨fT, dT, mTake, kTake, bTake, GTake⟩ := gT
    refine F.ok scShape (fun vs H Q E h => ?_) (fun cdv A outer s H vs Q E hr h => ?_)
    · obtain ⟨b, u, L, zs, rfl, _⟩ := h
      rfl
    · obtain ⟨b, u, L, zs, rfl, hb, ok, nub, hu, z1, zn, k⟩ := h
      have hr1 : Room 1 _ := hr.mono (by omega)
      have hrN : Room (n + 1) _ := hr
      refine ⟨_, (pss_cons (ps_if (pt_cmpR op_eq (pe_callB call_len_seq (by rfl) T.len PySem.boot_len (pa_cons (pv 1) pa_nil)) pe_int (nomark _)) (pss_one (ps_ret (pe_ix ix_list (pv 1) pe_int (fun _ _ => rfl)))) pss_nil)
        (pss_cons (ps_set (i := 2) scShape.nd rfl (Or.inl rfl) (pe_callB (call_min2 rfl) (by rfl) T.min (by decide +kernel) (pa_cons (pe_callB call_len_seq (by rfl) T.len PySem.boot_len (pa_cons (pv 1) pa_nil)) (pa_cons (pe_op op_add pe_int (pe_call GTake hr1 (by rfl) mTake kTake bTake .nil pass0 (pa_cons (pv 0) (pa_cons pe_int pa_nil)))) pa_nil))))
        (pss_cons (ps_set (i := 3) scShape.nd rfl (Or.inr rfl) (pe_lst (pa_cons pe_int pa_nil)))
        (pss_cons (ps_for PassesOwn.never rfl (pi_range2 (by rfl) T.range (pa_cons pe_int (pa_cons (pv 2) pa_nil))) (pg_name (i := 4) scShape.nd rfl (Or.inl rfl)) (pss_one (ps_expr (pe_bm PySem.F.plainAttrs_list PySem.F.slot_list_append PySem.F.type_list_append mt_append (pv 3) (pa_cons (pe_callB (call_max2 rfl) (by rfl) T.max (by decide +kernel) (pa_cons (pe_op op_add (pe_ix ix_list (pv 3) (pe_un un_neg pe_int) (fun _ _ => rfl)) pe_int) (pa_cons (pe_callB (call_min2 rfl) (by rfl) T.min (by decide +kernel) (pa_cons (pe_op op_add (pe_op op_sub (pe_callB call_len_seq (by rfl) T.len PySem.boot_len (pa_cons (pv 1) pa_nil)) (pv 2)) (pv 4)) (pa_cons (pe_op op_add (pe_op op_add (pe_ix ix_list (pv 3) (pe_un un_neg pe_int) (fun _ _ => rfl)) pe_int) (pe_call GTake hr1 (by rfl) mTake kTake bTake .nil pass0 (pa_cons (pv 0) (pa_cons pe_int pa_nil)))) pa_nil))) pa_nil))) pa_nil)))))
        (pss_cons (ps_expr (pe_bm PySem.F.plainAttrs_list PySem.F.slot_list_append PySem.F.type_list_append mt_append (pv 3) (pa_cons (pe_callB call_len_seq (by rfl) T.len PySem.boot_len (pa_cons (pv 1) pa_nil)) pa_nil)))
        (pss_cons (ps_set (i := 5) scShape.nd rfl (Or.inl rfl) pe_str)
        (C8.pss_cut (ps_if (PW.pt (pw_and (pt_cmpR op_gt (pv 2) pe_int (nomark _)) (pw_and1 (pt_cmpR op_eq (pe_call GTake hr1 (by rfl) mTake kTake bTake .nil pass0 (pa_cons (pv 0) (pa_cons pe_int pa_nil))) pe_int (nomark _))))) (pss_one (ps_set (i := 5) scShape.nd rfl (Or.inl rfl) pe_str)) pss_nil)
        (pss_one (ps_ret (pe_op op_catT (pe_tup (pa_cons (pv 5) pa_nil)) (pe_callTy call_tuple_of (by rfl) T.tuple (by decide +kernel) (pa_cons (pe_lc (own := [("_law_k", 4)]) (g := gName 4) (tt := tYes) rfl scShape.nd (pi_range1 (by rfl) T.range (pa_cons (pv 2) pa_nil)) (blkOk_by (N := ["_law_bag_here", "_law_names_here", "_law_count", "_law_cuts", "_law_k", "_law_kind"]) (sc := defScope sLawShape) (by decide +kernel)) (fun _ _ _ _ _ => (pg_name (i := 4) scShape.nd rfl (Or.inl rfl))) (fun _ _ _ _ _ => pts_nil) (fun _ _ _ _ _ => (pe_call GShape hrN (by rfl) mShape kShape bShape .nil pass0 (pa_cons (pv 0) (pa_cons (pe_slice (by exact sl_list : SlR _ (rSlL K)) (pv 1) (po_some (pe_ix (by exact ix_list : IxR _ (rIxL K)) (pv 3) (pv 4) (fun _ _ => rfl))) (po_some (pe_ix (by exact ix_list : IxR _ (rIxL K)) (pv 3) (pe_op op_add (pv 4) pe_int) (fun _ _ => rfl)))) pa_nil))))) pa_nil)))))))))))), ?_⟩
      refine ⟨_, rfl, u, _, rfl, .inl (SqL.of hu), rfl, _, rfl, ?_⟩
      rw [List.length_map]
      by_cases one : zs.length = 1
      · refine iteY (by rw [one]; rfl) ?_
        match zs, one with
        | [z], _ => exact ⟨_, rfl, u, _, 0, _, rfl, rfl, SqL.of hu, rfl, k H _ (.leaf z) L (SameB.refl b H) hb ok (.leaf z) rfl (.leaf z) (Nat.zero_lt_one)⟩
      · refine iteZ (decide_eq_false (by intro e; injection e with e; exact one (by omega))) ?_
        refine ⟨_, rfl, u, _, rfl, .inl (SqL.of hu), _, rfl, b, L, 3, rfl, hb, ok, by decide, by decide, fun L1 q ok1 q0 q1 => ?_⟩
        obtain ⟨q, rfl⟩ := Int.eq_ofNat_of_zero_le q0
        have z2 : 2 ≤ zs.length := by omega
        refine ⟨_, _, rfl, rfl, _, _, rfl, ?_⟩
        rw [List.length_map]
        have ec : (if (2 : Int) + (q : Int) < ((zs.length : Nat) : Int) then (2 : Int) + (q : Int) else ((zs.length : Nat) : Int)) = ((min zs.length (2 + q) : Nat) : Int) := by
          split <;> omega
        rw [ec]
        have c2 : 2 ≤ min zs.length (2 + q) := by omega
        have c4 : min zs.length (2 + q) ≤ 4 := by omega
        have cz : min zs.length (2 + q) ≤ zs.length := Nat.min_le_left _ _
        generalize min zs.length (2 + q) = count at *
        have hu1 : upd H b (.lst (L1.map V.int)) u = some (.lst (zs.map V.str)) := by rw [upd_ne nub]; exact hu
        refine ⟨by show 1 ≤ sizeLine; decide, fun g hg => ?_⟩
        have ngb : g ≠ b := fun e => by rw [e, upd_same] at hg; cases hg
        have ngu : g ≠ u := fun e => by rw [e, hu1] at hg; cases hg
        have hg0 : H g = none := by rw [upd_ne ngb] at hg; exact hg
        have ecount : ((count : Int) - 1).toNat = count - 1 := by omega
        refine ⟨_, rfl, 1, (count : Int), rfl, by omega, for_range (lo := 1) (n := ((count : Int) - 1).toNat) (fun i σ H' => ∃ (cs : List Nat) (x4 : Option V) (L2 : List Int), σ = [some (.ref b), some (.ref u), some (.int (count : Nat)), some (.ref g), x4, none] ∧ SameB b H H' ∧ H' b = some (.lst (L2.map V.int)) ∧ BagOk L2 ∧ H' g = some (.lst (cs.map fun c => V.int (c : Nat))) ∧ Cuts zs.length count cs ∧ cs.length = i + 1)
          ⟨[0], none, L1, rfl, fun c o nc e => ?_, ?_, ok1, upd_same, Cuts.one cz, rfl⟩ ?_ ?_⟩
        · rw [upd_ne (ne_of_none e hg0), upd_ne nc]
          exact e
        · rw [upd_ne (Ne.symm ngb), upd_same]
        · rintro i σ H2 hi ⟨cs, x4, L2, rfl, s2, hb2, ok2, hg2, cu, hcl⟩
          have hu2 := s2 _ _ nub hu
          obtain ⟨a, ha⟩ : ∃ a, cs[cs.length - 1]? = some a := ⟨_, List.getElem?_eq_getElem (by omega)⟩
          have last : atI (cs.map fun c => V.int (c : Nat)) (-1) = some (.int (a : Nat)) := atI_last (by rw [List.length_map, List.getElem?_map, ha]; rfl)
          have ta := cu.top _ _ ha
          refine ⟨_, rfl, .inl ⟨rfl, _, SqL.of hg2⟩, _, rfl, _, rfl, g, _, -1, _, rfl, rfl, SqL.of hg2, last, ?_⟩
          refine ⟨_, _, rfl, rfl, ?_⟩
          refine ⟨_, rfl, u, _, rfl, .inl (SqL.of hu2), _, rfl, _, _, rfl, rfl, _, rfl, _, _, rfl, rfl, ?_⟩
          refine ⟨_, rfl, _, rfl, g, _, -1, _, rfl, rfl, SqL.of hg2, last, _, _, rfl, rfl, ?_⟩
          refine ⟨_, rfl, b, L2, 3, rfl, hb2, ok2, by decide, by decide, fun L3 q ok3 q0 q1 => ⟨_, _, rfl, rfl, _, _, rfl, _, _, rfl, ?_⟩⟩
          have hv : ∃ c : Nat, (if (if ((a : Nat) : Int) + 1 + q < (((zs.map V.str).length : Nat) : Int) - (count : Nat) + (1 + (i : Nat)) then ((a : Nat) : Int) + 1 + q else (((zs.map V.str).length : Nat) : Int) - (count : Nat) + (1 + (i : Nat))) > ((a : Nat) : Int) + 1
              then (if ((a : Nat) : Int) + 1 + q < (((zs.map V.str).length : Nat) : Int) - (count : Nat) + (1 + (i : Nat)) then ((a : Nat) : Int) + 1 + q else (((zs.map V.str).length : Nat) : Int) - (count : Nat) + (1 + (i : Nat))) else ((a : Nat) : Int) + 1) = (c : Int) ∧ a < c ∧ c + count ≤ zs.length + cs.length := by
            rw [List.length_map]
            obtain ⟨q, rfl⟩ := Int.eq_ofNat_of_zero_le q0
            by_cases w1 : ((a : Nat) : Int) + 1 + (q : Nat) < ((zs.length : Nat) : Int) - (count : Nat) + (1 + (i : Nat))
            · rw [if_pos w1]
              refine ⟨a + 1 + q, ?_, by omega, by omega⟩
              split <;> omega
            · rw [if_neg w1]
              refine ⟨zs.length - count + (1 + i), ?_, by omega, by omega⟩
              split <;> omega
          obtain ⟨c, ec, lt, top⟩ := hv
          refine ⟨g, _, _, rfl, rfl, by rw [upd_ne ngb]; exact hg2, ?_, cs ++ [c], _, L3, rfl, fun d o nd e => ?_, ?_, ok3, ?_, cu.snoc ha lt top, by rw [List.length_append, hcl]; rfl⟩
          · rw [List.length_map]
            exact small1000 (by omega)
          · rw [upd_ne (ne_of_none e hg0), upd_ne nd]
            exact s2 _ _ nd e
          · rw [upd_ne (Ne.symm ngb), upd_same]
          · rw [upd_same, List.map_append, ec]
            rfl
        · rintro σ H2 ⟨cs, x4, L2, rfl, s2, hb2, ok2, hg2, cu, hcl⟩
          rw [ecount] at hcl
          have hu2 := s2 _ _ nub hu
          refine ⟨_, rfl, .inl ⟨rfl, _, SqL.of hg2⟩, _, rfl, u, _, rfl, .inl (SqL.of hu2), g, _, _, rfl, rfl, hg2, ?_, ?_⟩
          · rw [List.length_map]
            exact small1000 (by omega)
          obtain ⟨a, ha⟩ : ∃ a, cs[cs.length - 1]? = some a := ⟨_, List.getElem?_eq_getElem (by omega)⟩
          have ta := cu.top _ _ ha
          have cd := cu.snoc (c := zs.length) ha (by omega) (by omega)
          have e3 : (.lst (cs.map (fun c => V.int (c : Nat)) ++ [V.int (((zs.map V.str).length : Nat))]) : HO) = .lst ((cs ++ [zs.length]).map fun c => V.int (c : Nat)) := by
            rw [List.length_map, List.map_append]
            rfl
          rw [e3]
          have dl : (cs ++ [zs.length]).length = count + 1 := by rw [List.length_append, hcl]; show count - 1 + 1 + 1 = _; omega
          have dlast : (cs ++ [zs.length])[count]? = some zs.length := by
            rw [List.getElem?_append_right (by omega), show count - cs.length = 0 by omega]
            rfl
          have s3 : SameB b H (upd H2 g (.lst ((cs ++ [zs.length]).map fun c => V.int (c : Nat)))) := fun d o nd e => by
            rw [upd_ne (ne_of_none e hg0)]
            exact s2 _ _ nd e
          have hb3 : upd H2 g (.lst ((cs ++ [zs.length]).map fun c => V.int (c : Nat))) b = some (.lst (L2.map V.int)) := by rw [upd_ne (Ne.symm ngb)]; exact hb2
          have hg3 := upd_same (H := H2) (a := g) (o := .lst ((cs ++ [zs.length]).map fun c => V.int (c : Nat)))
          generalize upd H2 g (.lst ((cs ++ [zs.length]).map fun c => V.int (c : Nat))) = H3 at *
          generalize cs ++ [zs.length] = ds at *
          clear hg2 hb2 s2 hu2 ha ta cu hcl e3
          refine ⟨fun σ H' => ∃ (row : Bool) (L3 : List Int), σ = [some (.ref b), some (.ref u), some (.int (count : Nat)), some (.ref g), x4, some (.str (kindS row))] ∧ (row = true → 3 ≤ count) ∧ SameB b H H' ∧ H' b = some (.lst (L3.map V.int)) ∧ BagOk L3 ∧ H' g = some (.lst (ds.map fun c => V.int (c : Nat))), ?_, ?_⟩
          · refine ⟨_, rfl, _, _, rfl, rfl, _, rfl, ?_⟩
            by_cases c3 : 2 < count
            · refine iteY (decide_eq_true (by omega)) ?_
              refine ⟨_, rfl, b, L2, 2, rfl, hb3, ok2, by decide, by decide, fun L3 q ok3 q0 q1 => ⟨rfl, _, rfl, ?_⟩⟩
              have s4 : SameB b H (upd H3 b (.lst (L3.map V.int))) := s3.trans SameB.upd
              have hg4 : upd H3 b (.lst (L3.map V.int)) g = some (.lst (ds.map fun c => V.int (c : Nat))) := by rw [upd_ne ngb]; exact hg3
              by_cases one : q = 1
              · refine iteY (by rw [one]; rfl) ⟨true, L3, rfl, fun _ => c3, s4, upd_same, ok3, hg4⟩
              · refine iteZ (decide_eq_false (by intro e; injection e with e; exact one e)) ⟨false, L3, rfl, (fun e => absurd e (by decide)), s4, upd_same, ok3, hg4⟩
            · refine iteZ (decide_eq_false (by omega)) ?_
              exact ⟨false, L2, rfl, (fun e => absurd e (by decide)), s3, hb3, ok2, hg3⟩
          · rintro σ H4 ⟨row, L3, rfl, row3, s4, hb4, ok4, hg4⟩
            clear s3 hb3 hg3 ok2
            refine ⟨_, rfl, by show 1 ≤ sizeLine; decide, fun t ht => ?_⟩
            have ngt : g ≠ t := ne_of_none hg4 ht
            have nbt : b ≠ t := ne_of_none hb4 ht
            have s5 : SameB b H (upd H4 t (.tup [.str (kindS row)])) := s4.trans (SameB.of (Same.upd_new ht))
            have hb5 := (Same.upd_new ht (o := .tup [.str (kindS row)])) _ _ hb4
            have hg5 := (Same.upd_new ht (o := .tup [.str (kindS row)])) _ _ hg4
            have ht5 := upd_same (H := H4) (a := t) (o := .tup [.str (kindS row)])
            generalize upd H4 t (.tup [.str (kindS row)]) = H5 at *
            have ec0 : (count : Int).toNat = count := by omega
            refine ⟨_, rfl, _, rfl, by omega, by omega, fun D hD => lc_range (lo := 0) (n := (count : Int).toNat) (fun i H' => ∃ (Ls : List (V × Sh)) (L6 : List Int), H' D = some (.lst (Ls.map (·.1))) ∧ D ≠ b ∧ SameB b H5 H' ∧ H' b = some (.lst (L6.map V.int)) ∧ BagOk L6 ∧ (∀ q ∈ Ls, ShAt H' q.1 q.2 ∧ q.2.Ok ∧ q.2.depth + 2 ≤ zs.length) ∧ Ls.length = i ∧ ∀ a, ds[i]? = some a → (Ls.map (·.2)).flatMap Sh.leaves = zs.take a)
              ⟨[], L3, upd_same, (ne_of_none hb5 hD).symm, SameB.of (Same.upd_new hD), (Same.upd_new hD) _ _ hb5, ok4, (fun q hq => absurd hq (by simp)), rfl, fun a e => ?_⟩ ?_ ?_⟩
            · rw [cd.zero] at e
              rw [← Option.some.inj e]
              rfl
            · rintro i H6 hi ⟨Ls, L6, hD6, nDb, s6, hb6, ok6, all, hl, lv⟩
              rw [ec0] at hi
              obtain ⟨a, ha⟩ : ∃ a, ds[i]? = some a := ⟨_, List.getElem?_eq_getElem (by omega)⟩
              obtain ⟨c, hc⟩ : ∃ c, ds[i + 1]? = some c := ⟨_, List.getElem?_eq_getElem (by omega)⟩
              have lt := cd.up _ _ _ ha hc
              have tc := cd.top _ _ hc
              have la := cd.low _ _ ha
              have i1 : atI (ds.map fun c => V.int (c : Nat)) (0 + (i : Nat)) = some (.int (a : Nat)) := by rw [Int.zero_add]; exact cuts_at ha
              have i2 : atI (ds.map fun c => V.int (c : Nat)) (0 + (i : Nat) + 1) = some (.int (c : Nat)) := by
                rw [Int.zero_add]
                exact cuts_at (j := i + 1) hc
              have hg6 := s6 _ _ ngb hg5
              have hu6 : H6 u = some (.lst (zs.map V.str)) := s6 _ _ nub (s5 _ _ nub hu)
              refine ⟨rfl, _, rfl, _, rfl, _, rfl, _, rfl, g, _, _, _, rfl, rfl, SqL.of hg6, i1, _, rfl, _, rfl, _, rfl, _, _, rfl, rfl, g, _, _, _, rfl, rfl, SqL.of hg6, i2, _, rfl, u, _, rfl, SqL.of hu6, fun p hp => ?_⟩
              have npb : p ≠ b := (ne_of_none hb6 hp).symm
              have slen : ((zs.drop a).take (c - a)).length = c - a := by rw [List.length_take, List.length_drop]; omega
              refine ⟨b, p, L6, (zs.drop a).take (c - a), rfl, (Same.upd_new hp) _ _ hb6, ok6, npb, ?_, by omega, by omega, fun H7 v sh L7 s7 hb7 ok7 sv lf gd dp => ?_⟩
              · rw [upd_same, cut_nat (by omega), List.map_take, List.map_drop]
              · have s67 : SameB b H6 H7 := (SameB.of (Same.upd_new hp)).trans s7
                have hD7 := s67 _ _ nDb hD6
                have keep : ∀ a xs, H7 a = some (.tup xs) → upd H7 D (.lst (Ls.map (·.1) ++ [v])) a = some (.tup xs) := fun a xs e => by
                  rw [upd_ne (by intro q; rw [q, hD7] at e; cases e)]
                  exact e
                refine ⟨_, hD7, ?_, Ls ++ [(v, sh)], L7, ?_, nDb, fun d o nd e => ?_, ?_, ok7, fun q hq => ?_, ?_, fun a' e => ?_⟩
                · rw [List.length_map, hl]
                  exact small1000 (by omega)
                · rw [upd_same, List.map_append]
                  rfl
                · rw [upd_ne (ne_of_none e hD)]
                  exact s67 _ _ nd (s6 _ _ nd e)
                · rw [upd_ne nDb.symm]
                  exact hb7
                · rcases List.mem_append.mp hq with h | h
                  · obtain ⟨x1, x2, x3⟩ := all q h
                    exact ⟨(x1.ofB hb6 s67).imp keep, x2, x3⟩
                  · rw [List.mem_singleton.mp h]
                    exact ⟨sv.imp keep, gd, by show sh.depth + 2 ≤ _; omega⟩
                · rw [List.length_append, hl]
                  rfl
                · rw [hc] at e
                  rw [← Option.some.inj e, List.map_append, List.flatMap_append, lv a ha]
                  show _ ++ List.flatMap Sh.leaves [sh] = _
                  rw [List.flatMap_cons, List.flatMap_nil, List.append_nil, lf, ← List.take_append_drop a (zs.take c)]
                  congr 1
                  · rw [List.take_take, Nat.min_eq_left (by omega)]
                  · rw [List.drop_take]
            · rintro H6 ⟨Ls, L6, hD6, nDb, s6, hb6, ok6, all, hl, lv⟩
              rw [ec0] at hl lv
              have lv := lv _ dlast
              rw [List.take_of_length_le (Nat.le_refl _)] at lv
              refine ⟨D, _, rfl, .inl ⟨SqL.of hD6, fun r hr0 => ?_⟩⟩
              have s8 : Same H6 (upd H6 r (.tup (Ls.map (·.1)))) := Same.upd_new hr0
              have ntb : t ≠ b := fun e => by rw [e, hb5] at ht5; cases ht5
              have ne : Ls.map (·.1) ≠ [] := fun e => by
                have := congrArg List.length e
                rw [List.length_map, hl] at this
                simp at this
                omega
              refine ⟨t, r, [.str (kindS row)], Ls.map (·.1), rfl, rfl, SqT.of (s8 _ _ (s6 _ _ ntb ht5)), SqT.of upd_same, by simp, ?_, fun e => absurd e ne, fun _ p hp => ?_⟩
              · rw [List.length_map, hl]
                exact Nat.le_of_lt (small1000 (by show 1 + count ≤ 1000; omega))
              · have s9 := s8.trans (Same.upd_new hp (o := .tup (.str (kindS row) :: Ls.map (·.1))))
                refine k (upd (upd H6 r (.tup (Ls.map (·.1)))) p (.tup (.str (kindS row) :: Ls.map (·.1)))) (.ref p) (.br row (Ls.map (·.2))) L6 (s5.trans (s6.trans (SameB.of s9))) (s9 _ _ hb6) ok6 (.br row p Ls upd_same fun q hq => (all q hq).1.of s9) ?_ ?_ ?_
                · rw [leaves_br, lv]
                · refine .br row _ (by rw [List.length_map]; omega) (by rw [List.length_map]; omega) (by rw [List.length_map, hl]; exact row3) fun p hp => ?_
                  obtain ⟨q, hq, rfl⟩ := List.mem_map.mp hp
                  exact (all q hq).2.1
                · rw [Sh.depth]
                  have := depthL_le (ps := Ls.map (·.2)) (d := zs.length - 2) fun p hp => by
                    obtain ⟨q, hq, rfl⟩ := List.mem_map.mp hp
                    have := (all q hq).2.2
                    omega
                  omega
end
end Dl

/-! the node of a shape -/
namespace Dl
open PySem PySem.Spec PyProof.Rows L2
theorem NodeAt.imp {c : NCls} {H H' : Hp} {p : Addr} {s : Sh} (h : NodeAt c H p s) (k : ∀ a o, H a = some o → (∀ xs, o ≠ .lst xs) → H' a = some o) : NodeAt c H' p s := by
  induction h with
  | leaf p dx n h => exact .leaf p dx n (k _ _ h (fun _ e => by cases e))
  | br row p dx t L h1 h2 nd _ ih => exact .br row p dx t L (k _ _ h1 (fun _ e => by cases e)) (k _ _ h2 (fun _ e => by cases e)) nd ih
theorem node_made {c : NCls} {H : Hp} {row : Bool} {x dx p : Addr} {L : Parts} (hx : H x = none) (hdx : H dx = none) (ne : dx ≠ x) (hp : upd (upd H dx (.own x)) x (.ins (c.of row) dx []) p = none) (nd : (L.map (·.1)).Nodup) (at_ : ∀ q ∈ L, NodeAt c H q.1 q.2) :
    Same H (upd (upd (upd (upd H dx (.own x)) x (.ins (c.of row) dx [])) p (.tup (L.map fun q => V.ref q.1))) x (.ins (c.of row) dx [("parts", .ref p)])) ∧
    NodeAt c (upd (upd (upd (upd H dx (.own x)) x (.ins (c.of row) dx [])) p (.tup (L.map fun q => V.ref q.1))) x (.ins (c.of row) dx [("parts", .ref p)])) x (.br row (L.map (·.2))) := by
  have npx : p ≠ x := fun e => by rw [e, upd_same] at hp; cases hp
  have s : Same H (upd (upd (upd (upd H dx (.own x)) x (.ins (c.of row) dx [])) p (.tup (L.map fun q => V.ref q.1))) x (.ins (c.of row) dx [("parts", .ref p)])) := fun a o e => by
    rw [upd_ne (ne_of_none e hx)]
    by_cases q : a = p
    · subst q
      rw [upd_ne npx] at hp
      by_cases q2 : a = dx
      · rw [q2, hdx] at e; cases e
      · rw [upd_ne q2] at hp; rw [hp] at e; cases e
    · rw [upd_ne q, upd_ne (ne_of_none e hx), upd_ne (ne_of_none e hdx)]
      exact e
  exact ⟨s, .br row x dx p L upd_same (by rw [upd_ne npx, upd_same]) nd fun q hq => (at_ q hq).of s⟩
theorem under {H : Hp} {x p : Addr} {o u : HO} (h : upd H x o p = none) : upd (upd H x o) p u x = some o := by
  rw [upd_ne (fun e => by rw [← e, upd_same] at h; cases h), upd_same]
theorem two_of {α : Type} {l : List α} (h : l.length = 2) : ∃ a b, l = [a, b] := by
  match l, h with
  | [a, b], _ => exact ⟨a, b, rfl⟩
theorem three_of {α : Type} {l : List α} (h : l.length = 3) : ∃ a b c, l = [a, b, c] := by
  match l, h with
  | [a, b, c], _ => exact ⟨a, b, c, rfl⟩
theorem four_of {α : Type} {l : List α} (h : l.length = 4) : ∃ a b c d, l = [a, b, c, d] := by
  match l, h with
  | [a, b, c, d], _ => exact ⟨a, b, c, d, rfl⟩
def spLeafInit (c : NCls) : Sp := fun vs H Q _ => ∃ x v dx, vs = [.ref x, v] ∧ H x = some (.ins c.L dx []) ∧ Q .non (upd H x (.ins c.L dx [("name", v)]))
def spBranch (C : Addr) : Sp := fun vs H Q _ => ∃ x p dx, vs = [.ref x, .ref p] ∧ H x = some (.ins C dx []) ∧ Q .non (upd H x (.ins C dx [("parts", .ref p)]))
def spStar1 (sp : Sp) : Sp := fun vs H Q E => ∃ ws rest, vs = ws ++ rest ∧ ws.length = 1 ∧ rest.length ≤ sizeLine ∧ ∀ p, H p = Option.none → sp (ws ++ [V.ref p]) (upd H p (.tup rest)) Q E
def spNode (c : NCls) (d : Nat) : Sp := fun vs H Q _ => ∃ v s, vs = [v] ∧ ShAt H v s ∧ s.Ok ∧ s.depth ≤ d ∧ (∀ z ∈ s.leaves, z.length ≤ 12) ∧ ∀ H' p, Same H H' → H p = none → NodeAt c H' p s → Q (.ref p) H'
structure TxtNo (K : PySem.W.Frag) (mg : Str → Option Value) (c : NCls) : Prop where
  isinstance : mg "isinstance" = none
  str : mg "str" = none
  len : mg "len" = none
  gL : mg "Leaf" = some (.ref c.L)
  gG : mg "Group" = some (.ref c.G)
  gR : mg "Row" = some (.ref c.R)
theorem cut_one (xs : List V) : cutV xs (some 1) none = xs.drop 1 := by
  unfold cutV
  show (xs.drop (HT.sIx xs.length 0 (some ((1 : Nat) : Int)))).take (HT.sIx xs.length xs.length none - HT.sIx xs.length 0 (some ((1 : Nat) : Int))) = _
  rw [HT.sIx_nat, HT.sIx_none]
  by_cases h : 1 ≤ xs.length
  · rw [Nat.min_eq_left h, List.take_of_length_le (by rw [List.length_drop]; omega)]
  · rw [Nat.min_eq_right (by omega), List.drop_of_length_le (Nat.le_refl _), List.drop_of_length_le (by omega)]
    simp
section
variable {P : Program} {w : World} {K : PySem.W.Frag} {mg : Str → Option Value} {base : Heap} {c : NCls}
theorem scLeafInit : FnScope ["self", "name"] ["self", "name"] (defScope sLeafInit) := ⟨rfl, rfl, rfl, by decide +kernel, rfl, by decide +kernel, by decide +kernel⟩
theorem ok_leafinit {f : Addr} {fd : FuncData} (F : Fun K "__init__" "Leaf.__init__" sLeafInit f fd) (N : NFacts K c) : FnOk P w K mg base CX0 1 f fd ["self", "name"] (spLeafInit c) := by
  refine F.ok scLeafInit (fun vs H Q E h => ?_) (fun cdv A outer s H vs Q E hr h => ?_)
  · obtain ⟨x, v, dx, rfl, _⟩ := h
    rfl
  · obtain ⟨x, v, dx, rfl, hx, k⟩ := h
    exact ⟨_, pss_one (ps_fld (pv 0) (pv 1) rfl), _, rfl, _, rfl, x, c.L, dx, [], rfl, hx, N.cl _ (.inl rfl), N.name, by decide, k⟩
theorem scBranch : FnScope ["self", "parts"] ["self", "parts"] (defScope sBranchInit) := ⟨rfl, rfl, rfl, by decide +kernel, rfl, by decide +kernel, by decide +kernel⟩
theorem ok_branch {f : Addr} {fd : FuncData} (F : Fun K "__init__" "Branch.__init__" sBranchInit f fd) (N : NFacts K c) (row : Bool) : FnR P w K mg base (L2.CX P w) 1 f (spStar1 (spBranch (c.of row))) := by
  obtain ⟨oc, od, kV, doc, pm, an, cdv, ct, osl, rfl, lk, hcd⟩ := F.ex
  refine StX.fn_star (k := 0) (ps := ["self"]) (pv := "parts") lk hcd scBranch StX.cxUp (StX.bind_star1 (B := fun us => bindArgs _ ⟨us, []⟩) (fun _ => by rfl) (fun _ _ _ => by rfl)) (fun A outer s H vs Q E hr h => ?_)
  obtain ⟨x, p, dx, rfl, hx, k⟩ := h
  exact ⟨_, pss_one (ps_fld (pv 0) (pv 1) rfl), _, rfl, _, rfl, x, c.of row, dx, [], rfl, hx, N.cl _ (c.of_D row), N.parts row, by decide, k⟩
theorem scNode : FnScope ["_law_shape_here", "_law_parts", "_law_part"] ["_law_shape_here"] (defScope sLawNode) := ⟨rfl, rfl, rfl, by decide +kernel, rfl, by decide +kernel, by decide +kernel⟩
theorem ok_node {f : Addr} {fd : FuncData} (F : Fun K "_law_node" "_law_node" sLawNode f fd) (T : TxtNo K mg c) (N : NFacts K c)
    (iL : ∃ fL fdL, Mk K c.L fL ∧ Binds K fdL ["self", "name"] [] ∧ FnOk P w K mg base CX0 1 fL fdL ["self", "name"] (spLeafInit c))
    (iG : ∃ fG, Mk K c.G fG ∧ FnR P w K mg base (L2.CX P w) 1 fG (spStar1 (spBranch (c.of false)))) (iR : ∃ fR, Mk K c.R fR ∧ FnR P w K mg base (L2.CX P w) 1 fR (spStar1 (spBranch (c.of true))))
    (mNode : mg "_law_node" = some (.ref f)) (bNode : Binds K fd ["_law_shape_here"] []) : ∀ d, FnOk P w K mg base CX0 (d + 3) f fd ["_law_shape_here"] (spNode c d) := by
  have all : ∀ d, (∀ e, d = e + 1 → FnOk P w K mg base CX0 (e + 3) f fd ["_law_shape_here"] (spNode c e)) → FnOk P w K mg base CX0 (d + 3) f fd ["_law_shape_here"] (spNode c d) := fun d ih => by
    have kNode := F.kp
    obtain ⟨fL, fdL, ML, bL, GL⟩ := iL
    obtain ⟨fG, MG, GG⟩ := iG
    obtain ⟨fR, MR, GR⟩ := iR
    refine F.ok scNode (fun vs H Q E h => ?_) (fun cdv A outer s H vs Q E hr h => ?_)
    · obtain ⟨v, s, rfl, _⟩ := h
      rfl
    · obtain ⟨v, s, rfl, sv, gd, dp, sm, k⟩ := h
      have hr2 : Room 2 _ := hr.mono (by omega)
      have GNode : FnOk P w K mg base CX0 (d + 2) f fd ["_law_shape_here"] (fun vs H Q E => 1 ≤ d ∧ spNode c (d - 1) vs H Q E) := by
        cases d with
        | zero => exact ⟨fun vs H Q E h => absurd h.1 (by decide), fun A outer s H args us vs Q E hr he hb hv hs => absurd hs.1 (by decide)⟩
        | succ e => exact (ih e rfl).imp fun vs H Q E h => h.2
      have hrN : Room (d + 2) _ := hr
      refine ⟨_, (pss_cons (ps_if (pt_val (pe_callB call_isi (by rfl) T.isinstance (by decide +kernel) (pa_cons (pv 0) (pa_cons (pe_bltn (v := .ty "str") (by rfl) T.str (by decide +kernel) rfl) pa_nil)))) (pss_one (ps_ret (pe_make ML GL hr2 (by rfl) T.gL bL .nil pass0 (pa_cons (pv 0) pa_nil)))) pss_nil)
        (pss_cons (ps_setLc (i := 1) (own := [("_law_part", 2)]) (g := gName 2) (tt := tYes) rfl scNode.nd rfl rfl (sw_true rfl rfl rfl (by decide +kernel)) (pi_tup (pe_slice sl_tup (pv 0) (po_some pe_int) po_none)) (blkOk_by (N := ["_law_shape_here", "_law_parts", "_law_part"]) (sc := defScope sLawNode) (by decide +kernel)) (fun _ _ _ _ _ => (pg_name (i := 2) scNode.nd rfl (Or.inl rfl))) (fun _ _ _ _ _ => pts_nil) (fun _ _ _ _ _ => (pe_call GNode hrN (by rfl) mNode kNode bNode .nil pass0 (pa_cons (pv 2) pa_nil))))
        (pss_cons (ps_if (pt_cmpR op_eq (pe_callB call_len_seq (by rfl) T.len PySem.boot_len (pa_cons (pv 1) pa_nil)) pe_int (nomark _)) (pss_one (ps_ret (StX.pe_makeR MG GG hr2 (by rfl) T.gG passL (pa_cons (pe_ix ix_list (pv 1) pe_int (fun _ _ => rfl)) (pa_cons (pe_ix ix_list (pv 1) pe_int (fun _ _ => rfl)) pa_nil))))) pss_nil)
        (pss_cons (ps_if (PW.pt (pw_and (pt_cmpR op_eq (pe_callB call_len_seq (by rfl) T.len PySem.boot_len (pa_cons (pv 1) pa_nil)) pe_int (nomark _)) (pw_and1 (pt_cmpR op_eq (pe_ix ix_tup (pv 0) pe_int (fun _ _ => rfl)) pe_str (nomark _))))) (pss_one (ps_ret (StX.pe_makeR MR GR hr2 (by rfl) T.gR passL (pa_cons (pe_ix ix_list (pv 1) pe_int (fun _ _ => rfl)) (pa_cons (pe_ix ix_list (pv 1) pe_int (fun _ _ => rfl)) (pa_cons (pe_ix ix_list (pv 1) pe_int (fun _ _ => rfl)) pa_nil)))))) pss_nil)
        (pss_cons (ps_if (pt_cmpR op_eq (pe_callB call_len_seq (by rfl) T.len PySem.boot_len (pa_cons (pv 1) pa_nil)) pe_int (nomark _)) (pss_one (ps_ret (StX.pe_makeR MG GG hr2 (by rfl) T.gG passL (pa_cons (pe_ix ix_list (pv 1) pe_int (fun _ _ => rfl)) (pa_cons (pe_ix ix_list (pv 1) pe_int (fun _ _ => rfl)) (pa_cons (pe_ix ix_list (pv 1) pe_int (fun _ _ => rfl)) pa_nil)))))) pss_nil)
        (pss_cons (ps_if (pt_cmpR op_eq (pe_ix ix_tup (pv 0) pe_int (fun _ _ => rfl)) pe_str (nomark _)) (pss_one (ps_ret (StX.pe_makeR MR GR hr2 (by rfl) T.gR passL (pa_cons (pe_ix ix_list (pv 1) pe_int (fun _ _ => rfl)) (pa_cons (pe_ix ix_list (pv 1) pe_int (fun _ _ => rfl)) (pa_cons (pe_ix ix_list (pv 1) pe_int (fun _ _ => rfl)) (pa_cons (pe_ix ix_list (pv 1) pe_int (fun _ _ => rfl)) pa_nil))))))) pss_nil)
        (pss_one (ps_ret (StX.pe_makeR MG GG hr2 (by rfl) T.gG passL (pa_cons (pe_ix ix_list (pv 1) pe_int (fun _ _ => rfl)) (pa_cons (pe_ix ix_list (pv 1) pe_int (fun _ _ => rfl)) (pa_cons (pe_ix ix_list (pv 1) pe_int (fun _ _ => rfl)) (pa_cons (pe_ix ix_list (pv 1) pe_int (fun _ _ => rfl)) pa_nil))))))))))))), ?_⟩
      cases sv with
      | leaf n =>
        have sn : n.length ≤ 12 := sm n (by rw [Sh.leaves]; exact List.mem_singleton.mpr rfl)
        refine ⟨_, rfl, .str n, _, _, _, true, rfl, ClsV.ty "str", .base (.str n), kit_ty (by decide +kernel), true, rfl, iteT ?_⟩
        refine ⟨_, rfl, fun x dx hx hdx ndx => ⟨x, .str n, dx, rfl, upd_same, rfl, ?_⟩⟩
        refine k _ x (fun a o e => ?_) hx (.leaf x dx n upd_same)
        rw [upd_ne (ne_of_none e hx), upd_ne (ne_of_none e hx), upd_ne (ne_of_none e hdx)]
        exact e
      | br row a L h1 h2 =>
        refine ⟨_, rfl, .ref a, _, _, _, false, rfl, ClsV.ty "str", .base (.tup h1), kit_ty (by decide +kernel), false, rfl, iteF ?_⟩
        cases gd with
        | br _ _ l2 l4 l3 hp =>
        rw [List.length_map] at l2 l4 l3
        rw [Sh.depth] at dp
        rw [leaves_br] at sm
        refine ⟨_, rfl, _, rfl, a, _, rfl, SqT.of h1, ?_, fun sl hsl => ?_⟩
        · rintro ⟨e, _⟩
          have : HT.sIx (V.str (kindS row) :: L.map (·.1)).length 0 (some ((1 : Nat) : Int)) = 0 := e
          rw [HT.sIx_nat, List.length_cons] at this
          omega
        rw [cut_one, List.drop_succ_cons, List.drop_zero]
        have s1 := Same.upd_new hsl (o := .tup (L.map (·.1)))
        have hsl1 := upd_same (H := H) (a := sl) (o := .tup (L.map (·.1)))
        have h2 := fun q hq => (h2 q hq).of s1
        generalize upd H sl (.tup (L.map (·.1))) = H1 at *
        refine ⟨sl, rfl, ⟨_, SqT.of hsl1⟩, fun D hD => lc_it (walk_tup (K := K) (a := sl) (xs := L.map (·.1))) (fun i H' => ∃ M : Parts, H' D = some (.lst (M.map fun q => V.ref q.1)) ∧ Same H1 H' ∧ (M.map (·.1)).Nodup ∧ (∀ q ∈ M, NodeAt c H' q.1 q.2) ∧ M.map (·.2) = (L.map (·.2)).take i)
          ⟨[], upd_same, Same.upd_new hD, by simp, (fun q hq => absurd hq (by simp)), rfl⟩ (fun i H' _ ⟨_, _, s, _⟩ => SqT.of (s _ _ hsl1)) ?_ ?_⟩
        · rintro i v H2 H3 hi ⟨M, hD2, s2, nd, at_, ek⟩ ⟨rfl, hv⟩
          obtain ⟨q, hq, rfl⟩ : ∃ q, L[i]? = some q ∧ v = q.1 := by
            rw [List.getElem?_map] at hv
            cases e : L[i]? with
            | none => rw [e] at hv; cases hv
            | some q => rw [e] at hv; exact ⟨q, rfl, (Option.some.inj hv).symm⟩
          have hqm := List.mem_of_getElem? hq
          have dq := depth_mem (List.mem_map_of_mem (f := (·.2)) hqm)
          refine ⟨rfl, _, rfl, by omega, q.1, q.2, rfl, (h2 q hqm).of s2, hp _ (List.mem_map_of_mem hqm), by omega, fun z hz => sm z (List.mem_flatMap.mpr ⟨q.2, List.mem_map_of_mem hqm, hz⟩), fun H4 p s4 hp4 nd4 => ?_⟩
          have hD4 := s4 _ _ hD2
          have keep : ∀ a o, H4 a = some o → (∀ xs, o ≠ .lst xs) → upd H4 D (.lst (M.map (fun q => V.ref q.1) ++ [V.ref p])) a = some o := fun a o e n => by
            rw [upd_ne (by intro q; rw [q, hD4] at e; exact n _ (Option.some.inj e).symm)]
            exact e
          refine ⟨_, hD4, ?_, M ++ [(p, q.2)], ?_, fun b o e => ?_, ?_, fun r hr => ?_, ?_⟩
          · have := congrArg List.length ek
            rw [List.length_map, List.length_take, List.length_map] at this
            rw [List.length_map]
            exact small1000 (by omega)
          · rw [upd_same, List.map_append]
            rfl
          · rw [upd_ne (ne_of_none e hD)]
            exact s4 _ _ (s2 _ _ e)
          · rw [List.map_append]
            refine List.nodup_append.mpr ⟨nd, by simp, fun x hx y hy e => ?_⟩
            obtain ⟨r, hr, rfl⟩ := List.mem_map.mp hx
            obtain ⟨C, dx, f, v, e1, _⟩ := (at_ r hr).ins
            have : y = p := by simpa using hy
            rw [e, this, hp4] at e1
            cases e1
          · rcases List.mem_append.mp hr with h | h
            · exact ((at_ r h).of s4).imp keep
            · rw [List.mem_singleton.mp h]; exact nd4.imp keep
          · rw [List.map_append, ek, take_one (show (L.map (·.2))[i]? = some q.2 by rw [List.getElem?_map, hq]; rfl)]
            rfl
        · rintro H2 ⟨M, hD2, s2, nd, at_, ek⟩
          rw [List.length_map, show L.length = (L.map (·.2)).length by rw [List.length_map], List.take_length] at ek
          have hl := congrArg List.length ek
          rw [List.length_map, List.length_map] at hl
          have s12 := s1.trans s2
          have ha2 := s12 _ _ h1
          clear h2 hsl1 hD s2
          rw [← ek] at k
          have fin : ∀ {row' : Bool} {x dx p : Addr}, row' = row → H2 x = none → H2 dx = none → dx ≠ x → upd (upd H2 dx (.own x)) x (.ins (c.of row') dx []) p = none →
              Q (.ref x) (upd (upd (upd (upd H2 dx (.own x)) x (.ins (c.of row') dx [])) p (.tup (M.map fun q => V.ref q.1))) x (.ins (c.of row') dx [("parts", .ref p)])) := fun {row' x dx p} e hx hdx ne hp => by
            subst e
            obtain ⟨s3, n3⟩ := node_made hx hdx ne hp nd at_
            exact k _ x (s12.trans s3) (s12.free hx) n3
          have kind : (V.str (kindS row) = V.str "row") ↔ row = true := by cases row <;> decide
          have i0 : atI (V.str (kindS row) :: L.map (·.1)) 0 = some (.str (kindS row)) := atI_nat (xs := V.str (kindS row) :: L.map (·.1)) (j := 0) rfl
          refine ⟨_, rfl, D, _, rfl, .inl (SqL.of hD2), rfl, _, rfl, ?_⟩
          have ln : ∀ n : Nat, (V.int (((M.map fun q => V.ref q.1).length : Nat) : Int) = V.int (n : Int)) ↔ L.length = n := fun n => by
            rw [List.length_map, hl]
            constructor
            · intro e; injection e with e; omega
            · intro e; rw [e]
          by_cases n2 : L.length = 2
          · refine iteY (decide_eq_true ((ln 2).mpr n2)) ?_
            obtain ⟨p0, p1, rfl⟩ := two_of (hl.trans n2)
            have er : row = false := by
              cases row with
              | false => rfl
              | true => exact absurd (l3 rfl) (by omega)
            exact ⟨_, rfl, D, _, 0, _, rfl, rfl, SqL.of hD2, atI_nat (j := 0) rfl, _, rfl, D, _, 1, _, rfl, rfl, SqL.of hD2, atI_nat (j := 1) rfl, fun x dx hx hdx ne => ⟨[.ref x], _, rfl, rfl, by show 2 ≤ sizeLine; decide, fun p hp => ⟨x, p, dx, rfl, under hp, rfl, fin (row' := false) er.symm hx hdx ne hp⟩⟩⟩
          · refine iteZ (decide_eq_false fun e => n2 ((ln 2).mp e)) ?_
            refine ⟨_, rfl, D, _, rfl, .inl (SqL.of hD2), rfl, _, rfl, ?_⟩
            by_cases n3 : L.length = 3
            · obtain ⟨p0, p1, p2, rfl⟩ := three_of (hl.trans n3)
              refine iteY (decide_eq_true ((ln 3).mpr n3)) ?_
              refine ⟨_, rfl, a, _, 0, _, rfl, rfl, SqT.of ha2, i0, rfl, _, rfl, ?_⟩
              by_cases er : row = true
              · refine iteY (decide_eq_true (kind.mpr er)) ?_
                exact ⟨_, rfl, D, _, 0, _, rfl, rfl, SqL.of hD2, atI_nat (j := 0) rfl, _, rfl, D, _, 1, _, rfl, rfl, SqL.of hD2, atI_nat (j := 1) rfl, _, rfl, D, _, 2, _, rfl, rfl, SqL.of hD2, atI_nat (j := 2) rfl, fun x dx hx hdx ne => ⟨[.ref x], _, rfl, rfl, by show 3 ≤ sizeLine; decide, fun p hp => ⟨x, p, dx, rfl, under hp, rfl, fin (row' := true) er.symm hx hdx ne hp⟩⟩⟩
              · refine iteZ (decide_eq_false fun e => er (kind.mp e)) ?_
                have er : row = false := by cases row with | false => rfl | true => exact absurd rfl er
                refine ⟨_, rfl, D, _, rfl, .inl (SqL.of hD2), rfl, _, rfl, ?_⟩
                refine iteY (decide_eq_true ((ln 3).mpr n3)) ?_
                exact ⟨_, rfl, D, _, 0, _, rfl, rfl, SqL.of hD2, atI_nat (j := 0) rfl, _, rfl, D, _, 1, _, rfl, rfl, SqL.of hD2, atI_nat (j := 1) rfl, _, rfl, D, _, 2, _, rfl, rfl, SqL.of hD2, atI_nat (j := 2) rfl, fun x dx hx hdx ne => ⟨[.ref x], _, rfl, rfl, by show 3 ≤ sizeLine; decide, fun p hp => ⟨x, p, dx, rfl, under hp, rfl, fin (row' := false) er.symm hx hdx ne hp⟩⟩⟩
            · refine iteZ (decide_eq_false fun e => n3 ((ln 3).mp e)) ?_
              refine ⟨_, rfl, D, _, rfl, .inl (SqL.of hD2), rfl, _, rfl, ?_⟩
              refine iteZ (decide_eq_false fun e => n3 ((ln 3).mp e)) ?_
              have n4 : L.length = 4 := by omega
              obtain ⟨p0, p1, p2, p3, rfl⟩ := four_of (hl.trans n4)
              refine ⟨_, rfl, a, _, 0, _, rfl, rfl, SqT.of ha2, i0, rfl, _, rfl, ?_⟩
              by_cases er : row = true
              · refine iteY (decide_eq_true (kind.mpr er)) ?_
                exact ⟨_, rfl, D, _, 0, _, rfl, rfl, SqL.of hD2, atI_nat (j := 0) rfl, _, rfl, D, _, 1, _, rfl, rfl, SqL.of hD2, atI_nat (j := 1) rfl, _, rfl, D, _, 2, _, rfl, rfl, SqL.of hD2, atI_nat (j := 2) rfl, _, rfl, D, _, 3, _, rfl, rfl, SqL.of hD2, atI_nat (j := 3) rfl, fun x dx hx hdx ne => ⟨[.ref x], _, rfl, rfl, by show 4 ≤ sizeLine; decide, fun p hp => ⟨x, p, dx, rfl, under hp, rfl, fin (row' := true) er.symm hx hdx ne hp⟩⟩⟩
              · refine iteZ (decide_eq_false fun e => er (kind.mp e)) ?_
                have er : row = false := by cases row with | false => rfl | true => exact absurd rfl er
                exact ⟨_, rfl, D, _, 0, _, rfl, rfl, SqL.of hD2, atI_nat (j := 0) rfl, _, rfl, D, _, 1, _, rfl, rfl, SqL.of hD2, atI_nat (j := 1) rfl, _, rfl, D, _, 2, _, rfl, rfl, SqL.of hD2, atI_nat (j := 2) rfl, _, rfl, D, _, 3, _, rfl, rfl, SqL.of hD2, atI_nat (j := 3) rfl, fun x dx hx hdx ne => ⟨[.ref x], _, rfl, rfl, by show 4 ≤ sizeLine; decide, fun p hp => ⟨x, p, dx, rfl, under hp, rfl, fin (row' := false) er.symm hx hdx ne hp⟩⟩⟩
  intro d
  induction d with
  | zero => exact all 0 fun e h => absurd h (by omega)
  | succ e ih => exact all (e + 1) fun e' h => Nat.succ.inj h ▸ ih
end
end Dl

/-! the ways to put the parts -/
namespace Dl
open PySem PySem.Spec PyProof.Rows L2
abbrev WayL := List (Addr × List Nat)
def intsV (w : List Nat) : List V := w.map fun k => V.int (k : Nat)
structure WaysIn (H : Hp) (p : Addr) (M : WayL) : Prop where
  lst : H p = some (.lst (M.map fun q => V.ref q.1))
  all : ∀ q ∈ M, H q.1 = some (.lst (intsV q.2))
theorem WaysIn.of {H H' : Hp} {p : Addr} {M : WayL} (h : WaysIn H p M) (s : Same H H') : WaysIn H' p M := ⟨s _ _ h.lst, fun q hq => s _ _ (h.all q hq)⟩
def spWays : Sp := fun vs H Q _ => ∃ (row : Bool) (n : Nat), vs = [.str (kindS row), .int n] ∧ 2 ≤ n ∧ n ≤ 4 ∧ ∀ H' p M, Same H H' → WaysIn H' p M → M.map (·.2) = ways row n → Q (.ref p) H'
structure TxtW (mg : Str → Option Value) : Prop where
  range : mg "range" = none
  list : mg "list" = none
theorem flat_ints (w : List Nat) : (intsV w).all flatV = true := by
  unfold intsV
  rw [List.all_map]
  induction w with
  | nil => rfl
  | cons a r ih => rw [List.all_cons, ih]; rfl
theorem inV_nat {k : Nat} {w : List Nat} : inV (.int k) (intsV w) = decide (k ∈ w) := by
  unfold inV intsV
  rw [List.any_map]
  induction w with
  | nil => simp
  | cons a r ih =>
    rw [List.any_cons, ih]
    have e : ((fun y => eqV y (V.int (k : Nat))) ∘ fun k : Nat => V.int (k : Nat)) a = decide (a = k) := by
      show eqV (V.int (a : Nat)) (V.int (k : Nat)) = decide (a = k)
      unfold eqV
      by_cases h : a = k
      · subst h; simp
      · have : ¬ ((a : Nat) : Int) = ((k : Nat) : Int) := by omega
        simp [h, this]
    rw [e]
    by_cases h : a = k
    · subst h; simp
    · have h2 : ¬ k = a := fun q => h q.symm
      simp [h, h2]
theorem way_at {M : WayL} {i : Nat} {v : V} (h : (M.map fun q => V.ref q.1)[i]? = some v) : ∃ q, M[i]? = some q ∧ q ∈ M ∧ v = .ref q.1 := by
  rw [List.getElem?_map] at h
  cases e : M[i]? with
  | none => rw [e] at h; cases h
  | some q => rw [e] at h; exact ⟨q, rfl, List.mem_of_getElem? e, (Option.some.inj h).symm⟩
theorem waysN_len : ∀ n ≤ 4, ∀ t ≤ n, (waysN n t).length ≤ 24 := by decide +kernel
/-- lists that are kept at D, made since H0 -/
structure WaysOut (H0 H : Hp) (D : Addr) (M : WayL) : Prop where
  same : Same H0 H
  lst : H D = some (.lst (M.map fun q => V.ref q.1))
  all : ∀ q ∈ M, H q.1 = some (.lst (intsV q.2)) ∧ q.1 ≠ D ∧ H0 q.1 = none
  new : H0 D = none
theorem WaysOut.nil {H0 : Hp} {D : Addr} (h : H0 D = none) : WaysOut H0 (upd H0 D (.lst [])) D [] := ⟨Same.upd_new h, upd_same, fun q hq => absurd hq (by simp), h⟩
theorem WaysOut.of {H0 H H' : Hp} {D : Addr} {M : WayL} (h : WaysOut H0 H D M) (s : Same H H') : WaysOut H0 H' D M := ⟨h.same.trans s, s _ _ h.lst, fun q hq => ⟨s _ _ (h.all q hq).1, (h.all q hq).2⟩, h.new⟩
theorem WaysOut.waysIn {H0 H : Hp} {D : Addr} {M : WayL} (h : WaysOut H0 H D M) : WaysIn H D M := ⟨h.lst, fun q hq => (h.all q hq).1⟩
theorem WaysOut.put {H0 H : Hp} {D : Addr} {M N : WayL} (h : WaysOut H0 H D M) (n : ∀ q ∈ N, H q.1 = some (.lst (intsV q.2)) ∧ q.1 ≠ D ∧ H0 q.1 = none) : WaysOut H0 (upd H D (.lst ((M.map fun q => V.ref q.1) ++ N.map fun q => V.ref q.1))) D (M ++ N) := by
  refine ⟨fun a o e => ?_, ?_, fun q hq => ?_, h.new⟩
  · rw [upd_ne (ne_of_none e h.new)]; exact h.same _ _ e
  · rw [upd_same, List.map_append]
  · rcases List.mem_append.mp hq with m | m
    · obtain ⟨a, b, c⟩ := h.all q m
      exact ⟨by rw [upd_ne b]; exact a, b, c⟩
    · obtain ⟨a, b, c⟩ := n q m
      exact ⟨by rw [upd_ne b]; exact a, b, c⟩
/-- the ways that one way becomes -/
def grow (n : Nat) (w : List Nat) : List (List Nat) := ((List.range n).filter fun k => decide (k ∉ w)).map fun k => w ++ [k]
theorem grow_len (n : Nat) (w : List Nat) : (grow n w).length ≤ n := by
  unfold grow
  rw [List.length_map]
  have := List.length_filter_le (fun k => decide (k ∉ w)) (List.range n)
  rwa [List.length_range] at this
section
variable {P : Program} {w : World} {K : PySem.W.Frag} {mg : Str → Option Value} {base : Heap}
theorem scWays : FnScope ["_law_kind", "_law_count", "_law_forward", "_law_found", "_law_turn", "_law_longer", "_law_way", "_law_k"] ["_law_kind", "_law_count"] (defScope sLawWays) := ⟨rfl, rfl, rfl, by decide +kernel, rfl, by decide +kernel, by decide +kernel⟩
theorem ok_ways {f : Addr} {fd : FuncData} (F : Fun K "_law_ways" "_law_ways" sLawWays f fd) (T : TxtW mg) : FnOk P w K mg base CX0 1 f fd ["_law_kind", "_law_count"] spWays := by
  refine F.ok scWays (fun vs H Q E h => ?_) (fun cdv A outer s H vs Q E hr h => ?_)
  · obtain ⟨row, n, rfl, _⟩ := h
    rfl
  · obtain ⟨row, n, rfl, n2, n4, k⟩ := h
    refine ⟨_, (pss_cons (ps_if (pt_cmpR op_eq (pv 0) pe_str (nomark _)) (pss_cons (ps_setLc (i := 2) (own := [("_law_k", 7)]) (g := gName 7) (tt := tYes) rfl scWays.nd rfl rfl (sw_true rfl rfl rfl (by decide +kernel)) (pi_range1 (by rfl) T.range (pa_cons (pv 1) pa_nil)) (blkOk_by (N := ["_law_kind", "_law_count", "_law_forward", "_law_found", "_law_turn", "_law_longer", "_law_way", "_law_k"]) (sc := defScope sLawWays) (by decide +kernel)) (fun _ _ _ _ _ => (pg_name (i := 7) scWays.nd rfl (Or.inl rfl))) (fun _ _ _ _ _ => pts_nil) (fun _ _ _ _ _ => (pv 7)))
        (pss_one (ps_ret (pe_lst (pa_cons (pv 2) (pa_cons (pe_lc (own := [("_law_k", 7)]) (g := gName 7) (tt := tYes) rfl scWays.nd (pi_list (pv 2)) (blkOk_by (N := ["_law_kind", "_law_count", "_law_forward", "_law_found", "_law_turn", "_law_longer", "_law_way", "_law_k"]) (sc := defScope sLawWays) (by decide +kernel)) (fun _ _ _ _ _ => (pg_name (i := 7) scWays.nd rfl (Or.inl rfl))) (fun _ _ _ _ _ => pts_nil) (fun _ _ _ _ _ => (pe_op op_sub (pe_op op_sub (pv 1) pe_int) (pv 7)))) pa_nil)))))) pss_nil)
        (pss_cons (ps_set (i := 3) scWays.nd rfl (Or.inl rfl) (pe_lst (pa_cons (pe_lst pa_nil) pa_nil)))
        (pss_cons (ps_for PassesOwn.never rfl (pi_range1 (by rfl) T.range (pa_cons (pv 1) pa_nil)) (pg_name (i := 4) scWays.nd rfl (Or.inl rfl)) (pss_cons (ps_set (i := 5) scWays.nd rfl (Or.inl rfl) (pe_lst pa_nil))
        (pss_cons (ps_for PassesOwn.never rfl (pi_list (pv 3)) (pg_name (i := 6) scWays.nd rfl (Or.inr rfl)) (pss_one (ps_expr (pe_bm PySem.F.plainAttrs_list PySem.F.slot_list_extend PySem.F.type_list_extend mt_extend (pv 5) (pa_cons (pe_lc (own := [("_law_k", 7)]) (g := gName 7) rfl scWays.nd (pi_range1 (by rfl) T.range (pa_cons (pv 1) pa_nil)) (blkOk_by (N := ["_law_kind", "_law_count", "_law_forward", "_law_found", "_law_turn", "_law_longer", "_law_way", "_law_k"]) (sc := defScope sLawWays) (by decide +kernel)) (fun _ _ _ _ _ => (pg_name (i := 7) scWays.nd rfl (Or.inl rfl))) (fun _ _ _ _ _ => (pts_one (pt_cmpR (by exact op_notIn_seq : OpR _ _ (rIn K true)) (pv 7) (pv 6) (by rfl)))) (fun _ _ _ _ _ => (pe_op op_cat (pv 6) (pe_lst (pa_cons (pv 7) pa_nil))))) pa_nil)))))
        (pss_one (ps_set (i := 3) scWays.nd rfl (Or.inl rfl) (pe_callTy call_list_of (by rfl) T.list (by decide +kernel) (pa_cons (pv 5) pa_nil)))))))
        (pss_one (ps_ret (pv 3)))))), ?_⟩
    refine ⟨_, rfl, rfl, _, rfl, ?_⟩
    have nn : ((n : Nat) : Int).toNat = n := by omega
    cases row with
    | true =>
      refine iteY rfl ?_
      refine ⟨_, rfl, _, rfl, by omega, by omega, fun D hD => lc_range (lo := 0) (n := ((n : Nat) : Int).toNat) (fun i H' => Same H H' ∧ H' D = some (.lst (intsV (List.range i)))) ⟨Same.upd_new hD, upd_same⟩ ?_ ?_⟩
      · rintro i H1 hi ⟨s1, hD1⟩
        rw [nn] at hi
        refine ⟨rfl, _, rfl, _, hD1, ?_, fun b o e => ?_, ?_⟩
        · unfold intsV; rw [List.length_map, List.length_range]; exact small1000 (by omega)
        · rw [upd_ne (ne_of_none e hD)]; exact s1 _ _ e
        · unfold intsV
          rw [upd_same, List.range_succ, List.map_append, Int.zero_add]
          rfl
      · rintro H1 ⟨s1, hD1⟩
        rw [nn] at hD1
        refine ⟨_, rfl, _, rfl, D, rfl, ⟨_, SqL.of hD1⟩, fun G hG => lc_it (walk_list (K := K) (a := D) (xs := intsV (List.range n))) (fun i H' => Same H1 H' ∧ H' G = some (.lst (intsV ((List.range i).map fun k => n - 1 - k)))) ⟨Same.upd_new hG, upd_same⟩ (fun i H' _ ⟨s, _⟩ => SqL.of (s _ _ hD1)) ?_ ?_⟩
        · rintro i v H2 H3 hi ⟨s2, hG2⟩ ⟨rfl, hv⟩
          unfold intsV at hi hv
          rw [List.length_map, List.length_range] at hi
          obtain rfl : v = V.int (i : Nat) := by
            rw [List.getElem?_map, List.getElem?_range hi] at hv
            exact (Option.some.inj hv).symm
          refine ⟨rfl, _, rfl, _, _, rfl, rfl, _, rfl, _, _, rfl, rfl, _, hG2, ?_, fun b o e => ?_, ?_⟩
          · unfold intsV; rw [List.length_map, List.length_map, List.length_range]; exact small1000 (by omega)
          · rw [upd_ne (ne_of_none e hG)]; exact s2 _ _ e
          · have e : (n : Int) - 1 - (i : Nat) = ((n - 1 - i : Nat) : Int) := by omega
            unfold intsV
            rw [upd_same, List.range_succ, List.map_append, List.map_append]
            show some (HO.lst (_ ++ [V.int ((n : Int) - 1 - (i : Nat))])) = _
            rw [e]
            rfl
        · rintro H2 ⟨s2, hG2⟩
          have el : (intsV (List.range n)).length = n := by unfold intsV; rw [List.length_map, List.length_range]
          rw [el] at hG2
          refine ⟨by show 2 ≤ sizeLine; decide, fun p hp => ?_⟩
          have s3 := Same.upd_new hp (o := .lst [V.ref D, .ref G])
          refine k _ p [(D, List.range n), (G, (List.range n).map fun k => n - 1 - k)] (s1.trans (s2.trans s3)) ⟨upd_same, fun q hq => ?_⟩ rfl
          rcases List.mem_cons.mp hq with rfl | hq
          · exact s3 _ _ (s2 _ _ hD1)
          · rw [List.mem_singleton.mp hq]; exact s3 _ _ hG2
    | false =>
      refine iteZ rfl ?_
      refine ⟨Nat.zero_le _, fun e0 he0 => ⟨by show 1 ≤ sizeLine; decide, fun f0 hf0 => ?_⟩⟩
      have s0 := (Same.upd_new he0 (o := .lst [])).trans (Same.upd_new hf0 (o := .lst [V.ref e0]))
      have w0 : WaysIn (upd (upd H e0 (.lst [])) f0 (.lst [V.ref e0])) f0 [(e0, [])] := ⟨upd_same, fun q hq => by
        rw [List.mem_singleton.mp hq]
        exact (Same.upd_new hf0) _ _ upd_same⟩
      generalize upd (upd H e0 (.lst [])) f0 (.lst [V.ref e0]) = H0 at *
      refine ⟨_, rfl, _, rfl, by omega, by omega, for_range (lo := 0) (n := ((n : Nat) : Int).toNat) (fun t σ H' => ∃ fa M x4 x5 x6, σ = [some (.str (kindS false)), some (.int (n : Nat)), none, some (.ref fa), x4, x5, x6, none] ∧ Same H H' ∧ WaysIn H' fa M ∧ M.map (·.2) = waysN n t)
        ⟨f0, _, none, none, none, rfl, s0, w0, rfl⟩ ?_ ?_⟩
      · rintro t σ H1 ht ⟨fa, M, x4, x5, x6, rfl, s1, w1, eM⟩
        rw [nn] at ht
        refine ⟨Nat.zero_le _, fun D hD => ?_⟩
        have wl1 := waysN_len n n4 t (by omega)
        have wl2 := waysN_len n n4 (t + 1) (by omega)
        have eW : waysN n (t + 1) = M.flatMap fun q => grow n q.2 := by
          show (waysN n t).flatMap (grow n) = _
          rw [← eM, List.flatMap_map]
        rw [← eM, List.length_map] at wl1
        refine ⟨_, rfl, fa, rfl, ⟨_, SqL.of ((Same.upd_new hD) _ _ w1.lst)⟩, for_it (walk_list (K := K) (a := fa) (xs := M.map fun q => V.ref q.1)) (fun j σ H' => ∃ M' x6, σ = [some (.str (kindS false)), some (.int (n : Nat)), none, some (.ref fa), some (.int (0 + (t : Nat))), some (.ref D), x6, none] ∧ WaysOut H1 H' D M' ∧ M'.map (·.2) = (M.take j).flatMap fun q => grow n q.2)
          ⟨[], x6, rfl, WaysOut.nil hD, rfl⟩ (fun j σ H' _ ⟨_, _, _, h, _⟩ => SqL.of (h.same _ _ w1.lst)) ?_ ?_⟩
        · rintro j v σ H2 H3 hj ⟨M', x6, rfl, w2, eM'⟩ ⟨rfl, hv⟩
          obtain ⟨q, hq, hqm, rfl⟩ := way_at hv
          have hq2 := w2.same _ _ (w1.all q hqm)
          have ql : q.2.length = t := (mem_waysN.mp (by rw [← eM]; exact List.mem_map_of_mem hqm)).1
          have e1 : (M.take (j + 1)).flatMap (fun q => grow n q.2) = (M.take j).flatMap (fun q => grow n q.2) ++ grow n q.2 := by rw [take_one hq, List.flatMap_append, List.flatMap_cons, List.flatMap_nil, List.append_nil]
          have l1 : ((M.take (j + 1)).flatMap fun q => grow n q.2).length ≤ 24 := by
            have e : M.flatMap (fun q => grow n q.2) = (M.take (j + 1)).flatMap (fun q => grow n q.2) ++ (M.drop (j + 1)).flatMap (fun q => grow n q.2) := by rw [← List.flatMap_append, List.take_append_drop]
            rw [eW, e, List.length_append] at wl2
            omega
          refine ⟨_, rfl, .inl ⟨rfl, _, SqL.of w2.lst⟩, _, rfl, _, rfl, by omega, by omega, fun E hE => lc_range (lo := 0) (n := ((n : Nat) : Int).toNat) (fun i H' => ∃ N, WaysOut H3 H' E N ∧ N.map (·.2) = ((List.range i).filter fun k => decide (k ∉ q.2)).map fun k => q.2 ++ [k]) ⟨[], WaysOut.nil hE, rfl⟩ ?_ ?_⟩
          · rintro i H4 hi ⟨N, w4, eN⟩
            rw [nn] at hi
            have hq4 := w4.same _ _ hq2
            refine ⟨rfl, _, rfl, _, rfl, q.1, _, rfl, .inl (SqL.of hq4), rfl, flat_ints q.2, _, rfl, ?_⟩
            show if (!inV (.int (0 + (i : Nat))) (intsV q.2)) = true then _ else _
            rw [Int.zero_add, inV_nat]
            have nl : N.length ≤ i := by
              have := congrArg List.length eN
              rw [List.length_map, List.length_map] at this
              have l2 := List.length_filter_le (fun k => decide (k ∉ q.2)) (List.range i)
              rw [List.length_range] at l2
              omega
            by_cases m : i ∈ q.2
            · refine iteZ (by rw [decide_eq_true m]; rfl) ⟨N, w4, ?_⟩
              rw [eN, List.range_succ, List.filter_append, List.filter_cons_of_neg (by simpa using m), List.filter_nil, List.append_nil]
            · refine iteY (by rw [decide_eq_false m]; rfl) ?_
              refine ⟨_, rfl, _, rfl, by show 1 ≤ sizeLine; decide, fun r hr0 => ⟨q.1, r, _, _, rfl, rfl, (Same.upd_new hr0) _ _ hq4, upd_same, ?_, fun p hp => ?_⟩⟩
              · unfold intsV; rw [List.length_map, ql]; exact Nat.le_of_lt (small1000 (by show t + 1 ≤ 1000; omega))
              · have s5 := (Same.upd_new hr0 (o := .lst [V.int (i : Nat)])).trans (Same.upd_new hp (o := .lst (intsV q.2 ++ [V.int (i : Nat)])))
                have w5 := w4.of s5
                have hp4 : H4 p = none := (Same.upd_new hr0).free hp
                refine ⟨_, w5.lst, ?_, N ++ [(p, q.2 ++ [i])], w5.put (N := [(p, q.2 ++ [i])]) fun x hx => ?_, ?_⟩
                · rw [List.length_map]; exact small1000 (by omega)
                · rw [List.mem_singleton.mp hx]
                  refine ⟨?_, (ne_of_none w4.lst hp4).symm, w4.same.free hp4⟩
                  show _ = some (HO.lst (intsV (q.2 ++ [i])))
                  rw [upd_same]
                  unfold intsV
                  rw [List.map_append]
                  rfl
                · rw [List.map_append, eN, List.range_succ, List.filter_append, List.filter_cons_of_pos (by simpa using m), List.filter_nil, List.map_append]
                  rfl
          · rintro H4 ⟨N, w4, eN⟩
            rw [nn] at eN
            have w24 := w2.of w4.same
            have lens : M'.length + N.length ≤ 24 := by
              have a := congrArg List.length eM'
              have b : N.length = (grow n q.2).length := by rw [← List.length_map (f := (·.2)) (as := N), eN]; rfl
              rw [List.length_map] at a
              rw [e1, List.length_append] at l1
              omega
            refine ⟨D, E, _, _, rfl, rfl, w24.lst, w4.lst, ?_, M' ++ N, some (.ref q.1), rfl, w24.put fun x hx => ?_, ?_⟩
            · rw [List.length_map, List.length_map]; exact Nat.le_of_lt (small1000 (by omega))
            · obtain ⟨a, b, c⟩ := w4.all x hx
              exact ⟨a, (ne_of_none w2.lst c).symm, w2.same.free c⟩
            · rw [List.map_append, eM', e1, eN]
              rfl
        · rintro σ H2 ⟨M', x6, rfl, w2, eM'⟩
          rw [List.length_map, List.take_length, ← eW] at eM'
          refine ⟨_, rfl, D, _, rfl, .inl (SqL.of w2.lst), fun l hl => ⟨l, M', _, _, _, rfl, s1.trans (w2.same.trans (Same.upd_new hl)), ⟨upd_same, fun q hq => (Same.upd_new hl) _ _ (w2.all q hq).1⟩, eM'⟩⟩
      · rintro σ H1 ⟨fa, M, x4, x5, x6, rfl, s1, w1, eM⟩
        rw [nn] at eM
        exact ⟨_, rfl, k _ fa M s1 w1 eM⟩
end
end Dl

/-! all orders of a shape -/
namespace Dl
open PySem PySem.Spec PyProof.Rows L2
abbrev OrdL := List (Addr × List Str)
structure OrdIn (K : PySem.W.Frag) (H : Hp) (p : Addr) (M : OrdL) : Prop where
  lst : H p = some (.lst (M.map fun q => V.ref q.1))
  all : ∀ q ∈ M, SqT K H q.1 (q.2.map V.str)
theorem OrdIn.of {K : PySem.W.Frag} {H H' : Hp} {p : Addr} {M : OrdL} (h : OrdIn K H p M) (s : Same H H') : OrdIn K H' p M := ⟨s _ _ h.lst, fun q hq => Same.tup s (h.all q hq)⟩
def spExpand (K : PySem.W.Frag) (d : Nat) : Sp := fun vs H Q _ => ∃ v s, vs = [v] ∧ ShAt H v s ∧ s.Ok ∧ s.depth ≤ d ∧ s.leaves.length ≤ 6 ∧ (∀ z ∈ s.leaves, z.length ≤ 12) ∧ ∀ H' p M, Same H H' → H p = none → OrdIn K H' p M → M.map (·.2) = s.orders → Q (.ref p) H'
/-- a list at D that grows, made since H0 -/
structure OrdOut (K : PySem.W.Frag) (H0 H : Hp) (D : Addr) (M : OrdL) : Prop where
  same : Same H0 H
  at_ : OrdIn K H D M
  new : H0 D = none
theorem upd_tup {K : PySem.W.Frag} {H : Hp} {D a : Addr} {xs ys zs : List V} (hD : H D = some (.lst ys)) (h : SqT K H a xs) : SqT K (upd H D (.lst zs)) a xs := by
  have ne : ∀ {o : HO}, H a = some o → (∀ l, o ≠ .lst l) → a ≠ D := fun e n q => by rw [q, hD] at e; exact n _ (Option.some.inj e).symm
  rcases h with (h | ⟨o, h⟩) | h
  · exact .inl (.inl (by rw [upd_ne (ne h fun l e => by cases e)]; exact h))
  · exact .inl (.inr ⟨o, by rw [upd_ne (ne h fun l e => by cases e)]; exact h⟩)
  · exact .inr h
theorem OrdOut.nil {K : PySem.W.Frag} {H0 : Hp} {D : Addr} (h : H0 D = none) : OrdOut K H0 (upd H0 D (.lst [])) D [] := ⟨Same.upd_new h, ⟨upd_same, fun q hq => absurd hq (by simp)⟩, h⟩
theorem OrdOut.of {K : PySem.W.Frag} {H0 H H' : Hp} {D : Addr} {M : OrdL} (h : OrdOut K H0 H D M) (s : Same H H') : OrdOut K H0 H' D M := ⟨h.same.trans s, h.at_.of s, h.new⟩
theorem OrdOut.put {K : PySem.W.Frag} {H0 H : Hp} {D : Addr} {M N : OrdL} (h : OrdOut K H0 H D M) (n : ∀ q ∈ N, SqT K H q.1 (q.2.map V.str)) : OrdOut K H0 (upd H D (.lst ((M.map fun q => V.ref q.1) ++ N.map fun q => V.ref q.1))) D (M ++ N) := by
  refine ⟨fun a o e => ?_, ⟨?_, fun q hq => ?_⟩, h.new⟩
  · rw [upd_ne (ne_of_none e h.new)]; exact h.same _ _ e
  · rw [upd_same, List.map_append]
  · rcases List.mem_append.mp hq with m | m
    · exact upd_tup h.at_.lst (h.at_.all q m)
    · exact upd_tup h.at_.lst (n q m)
theorem ord_at {M : OrdL} {i : Nat} {v : V} (h : (M.map fun q => V.ref q.1)[i]? = some v) : ∃ q, M[i]? = some q ∧ q ∈ M ∧ v = .ref q.1 := by
  rw [List.getElem?_map] at h
  cases e : M[i]? with
  | none => rw [e] at h; cases h
  | some q => rw [e] at h; exact ⟨q, rfl, List.mem_of_getElem? e, (Option.some.inj h).symm⟩
theorem flatMap_part {α β : Type} (f : α → List β) (l : List α) (j : Nat) : ((l.take j).flatMap f).length ≤ (l.flatMap f).length := by
  have e : l.flatMap f = (l.take j).flatMap f ++ (l.drop j).flatMap f := by rw [← List.flatMap_append, List.take_append_drop]
  rw [e, List.length_append]
  omega
theorem flatMap_one {α β : Type} {f : α → List β} {l : List α} {x : α} (h : x ∈ l) : (f x).length ≤ (l.flatMap f).length := by
  obtain ⟨a, b, rfl⟩ := List.append_of_mem h
  rw [List.flatMap_append, List.flatMap_cons, List.length_append, List.length_append]
  omega
/-- what a way asks -/
structure WayFacts (ps : List Sh) (w : List Nat) : Prop where
  len : (partsBy ps w).length = w.length
  ix : ∀ i k : Nat, w[i]? = some k → k < ps.length ∧ (partsBy ps w)[i]? = some (ps.getD k (.leaf ""))
  big : (prodO ((partsBy ps w).map Sh.orders)).length ≤ 720
  pos : ∀ p ∈ partsBy ps w, 1 ≤ p.orders.length
  lvs : ((partsBy ps w).flatMap Sh.leaves).length ≤ 6
theorem way_facts {row : Bool} {ps : List Sh} (ok : (Sh.br row ps).Ok) (h6 : (Sh.br row ps).leaves.length ≤ 6) {w : List Nat} (hw : w ∈ ways row ps.length) : WayFacts ps w := by
  have pp := partsBy_perm hw
  have lt := way_lt hw
  refine ⟨List.length_map .., fun i k hk => ⟨lt k (List.mem_of_getElem? hk), by unfold partsBy; rw [List.getElem?_map, hk]; rfl⟩, ?_, fun p hp => ?_, ?_⟩
  · have t := many_720 ok h6
    rw [← orders_len ok, Sh.orders] at t
    have := flatMap_one (f := fun w => prodO (w.map fun k => (Sh.ordersL ps).getD k [])) hw
    rw [getD_orders lt] at this
    omega
  · obtain ⟨o, ho⟩ := order_some p
    exact List.length_pos_of_mem ho
  · rw [(flatMap_perm pp).length_eq, ← leaves_br row]
    exact h6
theorem WayFacts.part {ps : List Sh} {w : List Nat} (f : WayFacts ps w) (i : Nat) : (prodO (((partsBy ps w).take i).map Sh.orders)).length ≤ 720 := by
  refine Nat.le_trans ?_ f.big
  rw [prod_len, prod_len, List.map_map, List.map_map, List.map_take]
  exact prodN_take (fun x hx => by
    obtain ⟨p, hp, rfl⟩ := List.mem_map.mp hx
    exact f.pos p hp) i
theorem WayFacts.olen {ps : List Sh} {w : List Nat} (f : WayFacts ps w) {i : Nat} {o : List Str} (h : o ∈ prodO (((partsBy ps w).take i).map Sh.orders)) : o.length ≤ 6 := by
  have p := (prod_perm (fun p _ => order_perm p) h).length_eq
  have := flatMap_part Sh.leaves (partsBy ps w) i
  have := f.lvs
  omega
theorem prod_snoc (xs : List (List (List Str))) (x : List (List Str)) : prodO (xs ++ [x]) = (prodO xs).flatMap fun o => x.map fun i => o ++ i := by
  unfold prodO
  rw [List.foldl_append]
  rfl
theorem flatMap_ext {α β : Type} {f g : α → List β} : ∀ {l : List α}, (∀ x ∈ l, f x = g x) → l.flatMap f = l.flatMap g
  | [], _ => rfl
  | x :: r, h => by rw [List.flatMap_cons, List.flatMap_cons, h x (List.mem_cons_self ..), flatMap_ext fun y hy => h y (List.mem_cons_of_mem _ hy)]
theorem sameB_tup {K : PySem.W.Frag} {b a : Addr} {H H' : Hp} {xs ys : List V} (s : SameB b H H') (hb : H b = some (.lst ys)) (h : SqT K H a xs) : SqT K H' a xs := by
  have ne : ∀ {o : HO}, H a = some o → (∀ l, o ≠ .lst l) → a ≠ b := fun e n q => by rw [q, hb] at e; exact n _ (Option.some.inj e).symm
  rcases h with (h | ⟨o, h⟩) | h
  · exact .inl (.inl (s _ _ (ne h fun l e => by cases e) h))
  · exact .inl (.inr ⟨o, s _ _ (ne h fun l e => by cases e) h⟩)
  · exact .inr h
structure TxtE (mg : Str → Option Value) : Prop where
  isinstance : mg "isinstance" = none
  str : mg "str" = none
  len : mg "len" = none
  list : mg "list" = none
abbrev PartL := List (Addr × OrdL)
section
variable {P : Program} {w : World} {K : PySem.W.Frag} {mg : Str → Option Value} {base : Heap}
theorem scExpand : FnScope ["_law_shape_here", "_law_inner", "_law_found", "_law_way", "_law_made", "_law_k", "_law_longer", "_law_order", "_law_part", "_law_piece"] ["_law_shape_here"] (defScope sLawExpand) := ⟨rfl, rfl, rfl, by decide +kernel, rfl, by decide +kernel, by decide +kernel⟩
theorem ok_expand {f : Addr} {fd : FuncData} (F : Fun K "_law_expand" "_law_expand" sLawExpand f fd) (T : TxtE mg) (gW : Dfn P w K mg base CX0 1 "_law_ways" ["_law_kind", "_law_count"] spWays)
    (mExpand : mg "_law_expand" = some (.ref f)) (bExpand : Binds K fd ["_law_shape_here"] []) : ∀ d, FnOk P w K mg base CX0 (d + 2) f fd ["_law_shape_here"] (spExpand K d) := by
  have all : ∀ d, (∀ e, d = e + 1 → FnOk P w K mg base CX0 (e + 2) f fd ["_law_shape_here"] (spExpand K e)) → FnOk P w K mg base CX0 (d + 2) f fd ["_law_shape_here"] (spExpand K d) := fun d ih => by
    have kExpand := F.kp
    obtain ⟨fW, fdW, mWays, kWays, bWays, GWays⟩ := gW
    refine F.ok scExpand (fun vs H Q E h => ?_) (fun cdv A outer s H vs Q E hr h => ?_)
    · obtain ⟨v, s, rfl, _⟩ := h
      rfl
    · obtain ⟨v, s, rfl, sv, gd, dp, h6, sm, k⟩ := h
      have hr1 : Room 1 _ := hr.mono (by omega)
      have GExpand : FnOk P w K mg base CX0 (d + 1) f fd ["_law_shape_here"] (fun vs H Q E => 1 ≤ d ∧ spExpand K (d - 1) vs H Q E) := by
        cases d with
        | zero => exact ⟨fun vs H Q E h => absurd h.1 (by decide), fun A outer s H args us vs Q E hr he hb hv hs => absurd hs.1 (by decide)⟩
        | succ e => exact (ih e rfl).imp fun vs H Q E h => h.2
      have hrN : Room (d + 1) _ := hr
      refine ⟨_, (pss_cons (ps_if (pt_val (pe_callB call_isi (by rfl) T.isinstance (by decide +kernel) (pa_cons (pv 0) (pa_cons (pe_bltn (v := .ty "str") (by rfl) T.str (by decide +kernel) rfl) pa_nil)))) (pss_one (ps_ret (pe_lst (pa_cons (pe_tup (pa_cons (pv 0) pa_nil)) pa_nil)))) pss_nil)
        (pss_cons (ps_setLc (i := 1) (own := [("_law_part", 8)]) (g := gName 8) (tt := tYes) rfl scExpand.nd rfl rfl (sw_true rfl rfl rfl (by decide +kernel)) (pi_tup (pe_slice sl_tup (pv 0) (po_some pe_int) po_none)) (blkOk_by (N := ["_law_shape_here", "_law_inner", "_law_found", "_law_way", "_law_made", "_law_k", "_law_longer", "_law_order", "_law_part", "_law_piece"]) (sc := defScope sLawExpand) (by decide +kernel)) (fun _ _ _ _ _ => (pg_name (i := 8) scExpand.nd rfl (Or.inl rfl))) (fun _ _ _ _ _ => pts_nil) (fun _ _ _ _ _ => (pe_call GExpand hrN (by rfl) mExpand kExpand bExpand .nil pass0 (pa_cons (pv 8) pa_nil))))
        (pss_cons (ps_set (i := 2) scExpand.nd rfl (Or.inl rfl) (pe_lst pa_nil))
        (pss_cons (ps_for PassesOwn.never rfl (pi_list (pe_call GWays hr1 (by rfl) mWays kWays bWays .nil pass0 (pa_cons (pe_ix ix_tup (pv 0) pe_int (fun _ _ => rfl)) (pa_cons (pe_callB call_len_seq (by rfl) T.len PySem.boot_len (pa_cons (pv 1) pa_nil)) pa_nil)))) (pg_name (i := 3) scExpand.nd rfl (Or.inl rfl)) (pss_cons (ps_set (i := 4) scExpand.nd rfl (Or.inl rfl) (pe_lst (pa_cons (pe_tup pa_nil) pa_nil)))
        (pss_cons (ps_for PassesOwn.never rfl (pi_list (pv 3)) (pg_name (i := 5) scExpand.nd rfl (Or.inl rfl)) (pss_cons (ps_set (i := 6) scExpand.nd rfl (Or.inl rfl) (pe_lst pa_nil))
        (pss_cons (ps_for PassesOwn.never rfl (pi_list (pv 4)) (pg_name (i := 7) scExpand.nd rfl (Or.inr rfl)) (pss_one (ps_expr (pe_bm PySem.F.plainAttrs_list PySem.F.slot_list_extend PySem.F.type_list_extend mt_extend (pv 6) (pa_cons (pe_lc (own := [("_law_piece", 9)]) (g := gName 9) (tt := tYes) rfl scExpand.nd (pi_list (pe_ix ix_list (pv 1) (pv 5) (fun _ _ => rfl))) (blkOk_by (N := ["_law_shape_here", "_law_inner", "_law_found", "_law_way", "_law_made", "_law_k", "_law_longer", "_law_order", "_law_part", "_law_piece"]) (sc := defScope sLawExpand) (by decide +kernel)) (fun _ _ _ _ _ => (pg_name (i := 9) scExpand.nd rfl (Or.inl rfl))) (fun _ _ _ _ _ => pts_nil) (fun _ _ _ _ _ => (pe_op (by exact op_catW : OpR _ _ (rCatW K)) (pv 7) (pv 9)))) pa_nil)))))
        (pss_one (ps_set (i := 4) scExpand.nd rfl (Or.inl rfl) (pe_callTy call_list_of (by rfl) T.list (by decide +kernel) (pa_cons (pv 6) pa_nil)))))))
        (pss_one (ps_expr (pe_bm PySem.F.plainAttrs_list PySem.F.slot_list_extend PySem.F.type_list_extend mt_extend (pv 2) (pa_cons (pv 4) pa_nil)))))))
        (pss_one (ps_ret (pv 2))))))), ?_⟩
      cases sv with
      | leaf n =>
        refine ⟨_, rfl, .str n, _, _, _, true, rfl, ClsV.ty "str", .base (.str n), kit_ty (by decide +kernel), true, rfl, iteT ?_⟩
        refine ⟨_, rfl, by show 1 ≤ sizeLine; decide, fun t ht => ⟨by show 1 ≤ sizeLine; decide, fun l hl => ?_⟩⟩
        have s1 := Same.upd_new ht (o := .tup [V.str n])
        have s2 := Same.upd_new hl (o := .lst [V.ref t])
        refine k _ l [(t, [n])] (s1.trans s2) (s1.free hl) ⟨upd_same, fun q hq => ?_⟩ rfl
        rw [List.mem_singleton.mp hq]
        exact SqT.of (s2 _ _ upd_same)
      | br row a L h1 h2 =>
        refine ⟨_, rfl, .ref a, _, _, _, false, rfl, ClsV.ty "str", .base (.tup h1), kit_ty (by decide +kernel), false, rfl, iteF ?_⟩
        have wf := fun w (hw : w ∈ ways row (L.map (·.2)).length) => way_facts gd h6 hw
        have big := many_720 gd h6
        rw [← orders_len gd] at big
        cases gd with
        | br _ _ l2 l4 l3 hp =>
        rw [List.length_map] at l2 l4 l3
        rw [Sh.depth] at dp
        rw [leaves_br] at sm h6
        refine ⟨_, rfl, _, rfl, a, _, rfl, SqT.of h1, ?_, fun sl hsl => ?_⟩
        · rintro ⟨e, _⟩
          have : HT.sIx (V.str (kindS row) :: L.map (·.1)).length 0 (some ((1 : Nat) : Int)) = 0 := e
          rw [HT.sIx_nat, List.length_cons] at this
          omega
        rw [cut_one, List.drop_succ_cons, List.drop_zero]
        have s1 := Same.upd_new hsl (o := .tup (L.map (·.1)))
        have hsl1 := upd_same (H := H) (a := sl) (o := .tup (L.map (·.1)))
        have h2 := fun q hq => (h2 q hq).of s1
        generalize upd H sl (.tup (L.map (·.1))) = H1 at *
        refine ⟨sl, rfl, ⟨_, SqT.of hsl1⟩, fun D hD => lc_it (walk_tup (K := K) (a := sl) (xs := L.map (·.1))) (fun i H' => ∃ M : PartL, H' D = some (.lst (M.map fun q => V.ref q.1)) ∧ Same H1 H' ∧ (∀ q ∈ M, OrdIn K H' q.1 q.2 ∧ q.1 ≠ D) ∧ M.map (fun q => q.2.map (·.2)) = ((L.map (·.2)).take i).map Sh.orders)
          ⟨[], upd_same, Same.upd_new hD, (fun q hq => absurd hq (by simp)), rfl⟩ (fun i H' _ ⟨_, _, s, _⟩ => SqT.of (s _ _ hsl1)) ?_ ?_⟩
        · rintro i v H2 H3 hi ⟨M, hD2, s2, at_, ek⟩ ⟨rfl, hv⟩
          obtain ⟨q, hq, rfl⟩ : ∃ q, L[i]? = some q ∧ v = q.1 := by
            rw [List.getElem?_map] at hv
            cases e : L[i]? with
            | none => rw [e] at hv; cases hv
            | some q => rw [e] at hv; exact ⟨q, rfl, (Option.some.inj hv).symm⟩
          have hqm := List.mem_of_getElem? hq
          have dq := depth_mem (List.mem_map_of_mem (f := (·.2)) hqm)
          have lq : q.2.leaves.length ≤ 6 := Nat.le_trans (flatMap_one (f := Sh.leaves) (List.mem_map_of_mem (f := (·.2)) hqm)) h6
          refine ⟨rfl, _, rfl, by omega, q.1, q.2, rfl, (h2 q hqm).of s2, hp _ (List.mem_map_of_mem hqm), by omega, lq, fun z hz => sm z (List.mem_flatMap.mpr ⟨q.2, List.mem_map_of_mem hqm, hz⟩), fun H4 p N s4 np o4 e4 => ?_⟩
          have hD4 := s4 _ _ hD2
          have npD : p ≠ D := (ne_of_none hD2 np).symm
          have up : ∀ {x : Addr} {N : OrdL}, x ≠ D → OrdIn K H4 x N → OrdIn K (upd H4 D (.lst (M.map (fun q => V.ref q.1) ++ [V.ref p]))) x N := fun ne h => ⟨by rw [upd_ne ne]; exact h.lst, fun r hr => upd_tup hD4 (h.all r hr)⟩
          refine ⟨_, hD4, ?_, M ++ [(p, N)], ?_, fun b o e => ?_, fun r hr => ?_, ?_⟩
          · have := congrArg List.length ek
            rw [List.length_map, List.length_map, List.length_take, List.length_map] at this
            rw [List.length_map]
            exact small1000 (by omega)
          · rw [upd_same, List.map_append]
            rfl
          · rw [upd_ne (ne_of_none e hD)]
            exact s4 _ _ (s2 _ _ e)
          · rcases List.mem_append.mp hr with h | h
            · exact ⟨up (at_ r h).2 ((at_ r h).1.of s4), (at_ r h).2⟩
            · rw [List.mem_singleton.mp h]; exact ⟨up npD o4, npD⟩
          · rw [List.map_append, ek, take_one (show (L.map (·.2))[i]? = some q.2 by rw [List.getElem?_map, hq]; rfl), List.map_append]
            show _ ++ [N.map (·.2)] = _
            rw [e4]
            rfl
        · rintro H2 ⟨M, hD2, s2, at_, ek⟩
          rw [List.length_map, show L.length = (L.map (·.2)).length by rw [List.length_map], List.take_length] at ek
          have hl := congrArg List.length ek
          rw [List.length_map, List.length_map, List.length_map] at hl
          have s12 := s1.trans s2
          have ha2 := s12 _ _ h1
          have at_ : ∀ q ∈ M, OrdIn K H2 q.1 q.2 := fun q hq => (at_ q hq).1
          clear h2 hsl1 hD s2
          have el : (L.map (·.2)).length = L.length := List.length_map ..
          have big : ((ways row L.length).flatMap fun w => prodO ((partsBy (L.map (·.2)) w).map Sh.orders)).length ≤ 720 ∧ (Sh.br row (L.map (·.2))).orders = (ways row L.length).flatMap fun w => prodO ((partsBy (L.map (·.2)) w).map Sh.orders) := by
            have e : (Sh.br row (L.map (·.2))).orders = (ways row L.length).flatMap fun w => prodO ((partsBy (L.map (·.2)) w).map Sh.orders) := by
              rw [Sh.orders, el]
              refine flatMap_ext fun w hw => ?_
              rw [getD_orders fun k hk => by rw [el]; exact way_lt hw k hk]
            exact ⟨by rw [← e]; exact big, e⟩
          obtain ⟨big, eO⟩ := big
          rw [eO] at k
          rw [el] at wf
          refine ⟨Nat.zero_le _, fun fa hfa => ?_⟩
          have s3 := Same.upd_new hfa (o := .lst ([] : List V))
          have hfa3 := upd_same (H := H2) (a := fa) (o := .lst ([] : List V))
          have nfD : D ≠ fa := ne_of_none hD2 hfa
          have nfa : a ≠ fa := ne_of_none ha2 hfa
          have atf : ∀ q ∈ M, q.1 ≠ fa := fun q hq => ne_of_none (at_ q hq).lst hfa
          have fa0 : H fa = none := s12.free hfa
          generalize upd H2 fa (.lst ([] : List V)) = H3 at *
          have i0 : atI (V.str (kindS row) :: L.map (·.1)) 0 = some (.str (kindS row)) := atI_nat (xs := V.str (kindS row) :: L.map (·.1)) (j := 0) rfl
          have ml : (M.map fun q => V.ref q.1).length = L.length := by rw [List.length_map, hl]
          refine ⟨_, rfl, a, _, 0, _, rfl, rfl, SqT.of (s3 _ _ ha2), i0, _, rfl, D, _, rfl, .inl (SqL.of (s3 _ _ hD2)), row, _, rfl, by rw [ml]; exact l2, by rw [ml]; exact l4, fun H4 wp W s4 w4 eW => ?_⟩
          rw [ml] at eW
          have hfa4 := s4 _ _ hfa3
          have wne : W ≠ [] := fun e => by
            rw [e] at eW
            have := congrArg List.length eW
            rw [ways_len l2 l4] at this
            have p1 := fct_pos L.length
            cases row <;> simp at this <;> omega
          have nwf : wp ≠ fa := fun e => by
            have := w4.lst
            rw [e, hfa4] at this
            have := congrArg List.length (HO.lst.inj (Option.some.inj this))
            rw [List.length_map] at this
            exact wne (List.eq_nil_of_length_eq_zero this.symm)
          have nqf : ∀ q ∈ W, q.1 ≠ fa := fun q hq e => by
            have := w4.all q hq
            rw [e, hfa4] at this
            have := congrArg List.length (HO.lst.inj (Option.some.inj this))
            unfold intsV at this
            rw [List.length_map] at this
            have pq := (way_perm (show q.2 ∈ ways row L.length by rw [← eW]; exact List.mem_map_of_mem hq)).length_eq
            rw [List.length_range] at pq
            simp at this
            omega
          refine ⟨wp, rfl, ⟨_, SqL.of w4.lst⟩, for_it (walk_list (K := K) (a := wp) (xs := W.map fun q => V.ref q.1)) (fun j σ H' => ∃ Fd x3 x4 x5 x6 x7, σ = [some (.ref a), some (.ref D), some (.ref fa), x3, x4, x5, x6, x7, none, none] ∧ SameB fa H4 H' ∧ OrdIn K H' fa Fd ∧ Fd.map (·.2) = ((ways row L.length).take j).flatMap fun w => prodO ((partsBy (L.map (·.2)) w).map Sh.orders))
            ⟨[], none, none, none, none, none, rfl, SameB.refl _ _, ⟨hfa4, fun q hq => absurd hq (by simp)⟩, rfl⟩ (fun j σ H' _ ⟨_, _, _, _, _, _, _, s, _⟩ => SqL.of (s _ _ nwf w4.lst)) ?_ ?_⟩
          · rintro j v σ H5 H6 hj ⟨Fd, x3, x4, x5, x6, x7, rfl, s5, o5, e5⟩ ⟨rfl, hv⟩
            obtain ⟨wq, hq, hqm, rfl⟩ := way_at hv
            have hw : wq.2 ∈ ways row L.length := by rw [← eW]; exact List.mem_map_of_mem hqm
            have F0 := wf _ hw
            have hwj : (ways row L.length)[j]? = some wq.2 := by rw [← eW, List.getElem?_map, hq]; rfl
            have hwq := s5 _ _ (nqf _ hqm) (w4.all _ hqm)
            have hD6 := s5 _ _ nfD (s4 _ _ (s3 _ _ hD2))
            have atD : ∀ q ∈ M, OrdIn K H6 q.1 q.2 := fun q hq => ⟨s5 _ _ (atf q hq) (s4 _ _ (s3 _ _ (at_ q hq).lst)), fun r hr => sameB_tup s5 hfa4 (Same.tup (s3.trans s4) ((at_ q hq).all r hr))⟩
            generalize hps : partsBy (L.map (·.2)) wq.2 = qs at *
            have qf : ∀ i, (prodO ((qs.take i).map Sh.orders)).length ≤ 720 := fun i => by have := F0.part i; rwa [hps] at this
            have ql : ∀ {i : Nat} {o : List Str}, o ∈ prodO ((qs.take i).map Sh.orders) → o.length ≤ 6 := fun {i o} h => F0.olen (i := i) (by rw [hps]; exact h)
            have qn : qs.length = wq.2.length := by rw [← hps]; exact F0.len
            refine ⟨Nat.zero_le _, fun et het => ⟨by show 1 ≤ sizeLine; decide, fun m0 hm0 => ?_⟩⟩
            have s7 := (Same.upd_new het (o := .tup ([] : List V))).trans (Same.upd_new hm0 (o := .lst [V.ref et]))
            have o7 : OrdIn K (upd (upd H6 et (.tup ([] : List V))) m0 (.lst [V.ref et])) m0 [(et, [])] := ⟨upd_same, fun q hq => by
              rw [List.mem_singleton.mp hq]
              exact SqT.of ((Same.upd_new hm0) _ _ upd_same)⟩
            generalize upd (upd H6 et (.tup ([] : List V))) m0 (.lst [V.ref et]) = H7 at *
            refine ⟨_, rfl, wq.1, rfl, ⟨_, SqL.of (s7 _ _ hwq)⟩, for_it (walk_list (K := K) (a := wq.1) (xs := intsV wq.2)) (fun i σ H' => ∃ ma Mm x5 x6 x7, σ = [some (.ref a), some (.ref D), some (.ref fa), some (.ref wq.1), some (.ref ma), x5, x6, x7, none, none] ∧ Same H6 H' ∧ OrdIn K H' ma Mm ∧ Mm.map (·.2) = prodO ((qs.take i).map Sh.orders))
              ⟨m0, _, x5, x6, x7, rfl, s7, o7, rfl⟩ (fun i σ H' _ ⟨_, _, _, _, _, _, s, _⟩ => SqL.of (s _ _ hwq)) ?_ ?_⟩
            · rintro i v σ H8 H9 hi ⟨ma, Mm, x5, x6, x7, rfl, s8, o8, e8⟩ ⟨rfl, hv⟩
              obtain ⟨kk, hk, rfl⟩ : ∃ kk : Nat, wq.2[i]? = some kk ∧ v = .int (kk : Nat) := by
                unfold intsV at hv
                rw [List.getElem?_map] at hv
                cases e : wq.2[i]? with
                | none => rw [e] at hv; cases hv
                | some q => rw [e] at hv; exact ⟨q, rfl, (Option.some.inj hv).symm⟩
              obtain ⟨klt, hqk⟩ := F0.ix i kk hk
              rw [hps] at hqk
              rw [el] at klt
              obtain ⟨mk, hmk⟩ : ∃ mk, M[kk]? = some mk := ⟨_, List.getElem?_eq_getElem (by omega)⟩
              have mkm := List.mem_of_getElem? hmk
              have eio : mk.2.map (·.2) = ((L.map fun q : V × Sh => q.2).getD kk (Sh.leaf "")).orders := by
                have e1 := congrArg (·[kk]?) ek
                simp only [List.getElem?_map, hmk, Option.map_some] at e1
                rw [List.getElem?_eq_getElem klt] at e1
                have e2 := Option.some.inj e1
                rw [getD_at (show kk < (L.map (·.2)).length by rw [el]; exact klt), List.getElem_map]
                exact e2
              have eP : prodO ((qs.take (i + 1)).map Sh.orders) = Mm.flatMap fun o => (mk.2.map (·.2)).map fun z => o.2 ++ z := by
                rw [take_one hqk, List.map_append]
                show prodO (_ ++ [((L.map fun q : V × Sh => q.2).getD kk (Sh.leaf "")).orders]) = _
                rw [prod_snoc, ← e8, ← eio, List.flatMap_map]
              generalize hio : mk.2.map (·.2) = io at *
              have b1 := qf (i + 1)
              rw [eP] at b1
              have b0 := qf i
              rw [← e8, List.length_map] at b0
              refine ⟨Nat.zero_le _, fun la hla => ?_⟩
              refine ⟨_, rfl, ma, rfl, ⟨_, SqL.of ((Same.upd_new hla) _ _ o8.lst)⟩, for_it (walk_list (K := K) (a := ma) (xs := Mm.map fun q => V.ref q.1)) (fun m σ H' => ∃ Ml x7, σ = [some (.ref a), some (.ref D), some (.ref fa), some (.ref wq.1), some (.ref ma), some (.int (kk : Nat)), some (.ref la), x7, none, none] ∧ OrdOut K H9 H' la Ml ∧ Ml.map (·.2) = (Mm.take m).flatMap fun o => io.map fun z => o.2 ++ z)
                ⟨[], x7, rfl, OrdOut.nil hla, rfl⟩ (fun m σ H' _ ⟨_, _, _, h, _⟩ => SqL.of (h.same _ _ o8.lst)) ?_ ?_⟩
              · rintro m v σ H10 H11 hm ⟨Ml, x7, rfl, o10, e10⟩ ⟨rfl, hv⟩
                obtain ⟨oq, hoq, hom, rfl⟩ := ord_at hv
                have s10 := s8.trans o10.same
                have oD := (atD mk mkm).of s10
                have lo : oq.2.length ≤ 6 := ql (i := i) (by rw [← e8]; exact List.mem_map_of_mem hom)
                have part := flatMap_part (fun o : Addr × List Str => io.map fun z => o.2 ++ z) Mm (m + 1)
                have e1 : (Mm.take (m + 1)).flatMap (fun o => io.map fun z => o.2 ++ z) = (Mm.take m).flatMap (fun o => io.map fun z => o.2 ++ z) ++ io.map fun z => oq.2 ++ z := by rw [take_one hoq, List.flatMap_append, List.flatMap_cons, List.flatMap_nil, List.append_nil]
                have hoT := Same.tup o10.same (o8.all oq hom)
                have iol : io.length = mk.2.length := by rw [← hio, List.length_map]
                have tot : Ml.length + io.length ≤ 720 := by
                  have c := congrArg List.length e10
                  rw [List.length_map] at c
                  rw [e1, List.length_append, List.length_map] at part
                  omega
                refine ⟨_, rfl, .inl ⟨rfl, _, SqL.of o10.at_.lst⟩, _, rfl, _, rfl, D, _, _, _, rfl, rfl, SqL.of (s10 _ _ hD6), atI_nat (j := kk) (show (M.map fun q => V.ref q.1)[kk]? = some (.ref mk.1) by rw [List.getElem?_map, hmk]; rfl), mk.1, rfl, ⟨_, SqL.of oD.lst⟩, fun E hE => lc_it (walk_list (K := K) (a := mk.1) (xs := mk.2.map fun q => V.ref q.1)) (fun z H' => ∃ N, OrdOut K H11 H' E N ∧ N.map (·.2) = (io.take z).map fun z => oq.2 ++ z)
                  ⟨[], OrdOut.nil hE, rfl⟩ (fun z H' _ ⟨_, h, _⟩ => SqL.of (h.same _ _ oD.lst)) ?_ ?_⟩
                · rintro z v H12 H13 hz ⟨N, o12, e12⟩ ⟨rfl, hv⟩
                  obtain ⟨rq, hrq, hrm, rfl⟩ := ord_at hv
                  have lr : rq.2.length ≤ 6 := by
                    have : rq.2 ∈ io := by rw [← hio]; exact List.mem_map_of_mem hrm
                    rw [eio] at this
                    have := order_len this
                    have l1 : (L.map fun q : V × Sh => q.2).getD kk (Sh.leaf "") ∈ L.map (·.2) := by
                      rw [getD_at (show kk < (L.map (·.2)).length by rw [el]; exact klt)]
                      exact List.getElem_mem ..
                    have := flatMap_one (f := Sh.leaves) l1
                    omega
                  have nl : N.length ≤ io.length := by
                    have c := congrArg List.length e12
                    rw [List.length_map, List.length_map, List.length_take] at c
                    omega
                  refine ⟨rfl, _, rfl, _, rfl, oq.1, rq.1, _, _, rfl, rfl, Same.tup o12.same hoT, Same.tup o12.same (oD.all rq hrm), ?_, fun H14 p s14 hp => ?_⟩
                  · rw [List.length_map, List.length_map]; exact Nat.le_of_lt (small1000 (by omega))
                  · have o14 := o12.of s14
                    refine ⟨_, o14.at_.lst, ?_, N ++ [(p, oq.2 ++ rq.2)], o14.put (N := [(p, oq.2 ++ rq.2)]) fun x hx => ?_, ?_⟩
                    · rw [List.length_map]; exact small1000 (by omega)
                    · rw [List.mem_singleton.mp hx]
                      rw [← List.map_append] at hp
                      exact hp
                    · have hz2 : io[z]? = some rq.2 := by rw [← hio, List.getElem?_map, hrq]; rfl
                      rw [List.map_append, e12, take_one hz2, List.map_append]
                      rfl
                · rintro H12 ⟨N, o12, e12⟩
                  rw [List.length_map, ← iol, List.take_length] at e12
                  have o112 := o10.of o12.same
                  have nlen : N.length = io.length := by
                    have c := congrArg List.length e12
                    rwa [List.length_map, List.length_map] at c
                  refine ⟨la, E, _, _, rfl, rfl, o112.at_.lst, o12.at_.lst, ?_, Ml ++ N, some (.ref oq.1), rfl, o112.put fun x hx => o12.at_.all x hx, ?_⟩
                  · rw [List.length_map, List.length_map]; exact Nat.le_of_lt (small1000 (by omega))
                  · rw [List.map_append, e10, e12, e1]
              · rintro σ H10 ⟨Ml, x7, rfl, o10, e10⟩
                rw [List.length_map, List.take_length, ← eP] at e10
                exact ⟨_, rfl, la, _, rfl, .inl (SqL.of o10.at_.lst), fun l hl => ⟨l, Ml, _, _, _, rfl, s8.trans (o10.same.trans (Same.upd_new hl)), ⟨upd_same, fun q hq => Same.tup (Same.upd_new hl) (o10.at_.all q hq)⟩, e10⟩⟩
            · rintro σ H8 ⟨ma, Mm, x5, x6, x7, rfl, s8, o8, e8⟩
              have iw : (intsV wq.2).length = qs.length := by unfold intsV; rw [List.length_map, qn]
              rw [iw, List.take_length] at e8
              have o58 := o5.of s8
              have part := flatMap_part (fun w => prodO ((partsBy (L.map (·.2)) w).map Sh.orders)) (ways row L.length) (j + 1)
              have e1 : ((ways row L.length).take (j + 1)).flatMap (fun w => prodO ((partsBy (L.map (·.2)) w).map Sh.orders)) = ((ways row L.length).take j).flatMap (fun w => prodO ((partsBy (L.map (·.2)) w).map Sh.orders)) ++ prodO (qs.map Sh.orders) := by
                rw [take_one hwj, List.flatMap_append, List.flatMap_cons, List.flatMap_nil, List.append_nil, hps]
              have tot : Fd.length + Mm.length ≤ 720 := by
                have c1 := congrArg List.length e5
                have c2 := congrArg List.length e8
                rw [List.length_map] at c1 c2
                rw [e1, List.length_append] at part
                omega
              refine ⟨_, rfl, .inl ⟨rfl, _, SqL.of o58.lst⟩, _, rfl, fa, ma, _, _, rfl, rfl, o58.lst, o8.lst, ?_, Fd ++ Mm, _, _, _, _, _, rfl, fun b o nb e => ?_, ⟨by rw [upd_same, List.map_append], fun q hq => ?_⟩, ?_⟩
              · rw [List.length_map, List.length_map]; exact Nat.le_of_lt (small1000 (by omega))
              · rw [upd_ne nb]
                exact s8 _ _ (s5 _ _ nb e)
              · refine upd_tup o58.lst ?_
                rcases List.mem_append.mp hq with h | h
                · exact o58.all q h
                · exact o8.all q h
              · rw [List.map_append, e5, e8, e1]
          · rintro σ H5 ⟨Fd, x3, x4, x5, x6, x7, rfl, s5, o5, e5⟩
            rw [List.length_map, show W.length = (ways row L.length).length by rw [← eW, List.length_map], List.take_length] at e5
            refine ⟨_, rfl, k _ fa Fd (fun b o e => s5 _ _ (ne_of_none e fa0) (s4 _ _ (s3 _ _ (s12 _ _ e)))) fa0 o5 e5⟩
  intro d
  induction d with
  | zero => exact all 0 fun e h => absurd h (by omega)
  | succ e ih => exact all (e + 1) fun e' h => Nat.succ.inj h ▸ ih
end
end Dl

/-! leaves and begins of every node, by its depth -/
namespace Dl
open PySem PySem.Spec PyProof.Rows L2
structure NodeM (P : Program) (w : World) (K : PySem.W.Frag) (mg : Str → Option Value) (base : Heap) (c : NCls) (d : Nat) : Prop where
  leaves : ∀ C, c.D C → HasM P w K mg base CX0 (2 * d + 1) "leaves" ["self"] (spLeaves c d) C
  begins : ∀ C, c.D C → HasM P w K mg base CX0 (2 * d + 1) "begins" ["self", "prefix"] (spBegins K c d) C
section
variable {P : Program} {w : World} {K : PySem.W.Frag} {mg : Str → Option Value} {base : Heap} {c : NCls}
theorem deep {c : NCls} {H : Hp} {p dx : Addr} {fs : List (Str × V)} {s : Sh} {row : Bool} (N : NFacts K c) (hp : H p = some (.ins (c.of row) dx fs)) (nd : NodeAt c H p s) : 1 ≤ s.depth := by
  cases nd with
  | leaf _ dx' n h1 =>
    rw [h1] at hp
    injection (Option.some.inj hp) with e
    exact absurd e.symm (N.lof row)
  | br row' _ dx' t L h1 _ _ _ => rw [Sh.depth]; omega
theorem no_leaves (N : NFacts K c) (row : Bool) (k : Nat) (f : Addr) (fd : FuncData) : FnOk P w K mg base CX0 k f fd ["self"] (spLeaves c 0 (c.of row)) := by
  have no : ∀ vs H Q E, ¬ spLeaves c 0 (c.of row) vs H Q E := fun vs H Q E h => by
    obtain ⟨p, s, dx, fs, rfl, hp, nd, hd, _⟩ := h
    have := deep N hp nd
    omega
  exact ⟨fun vs H Q E h => (no _ _ _ _ h).elim, fun A outer s H args us vs Q E _ _ _ _ h => (no _ _ _ _ h).elim⟩
theorem no_begins (N : NFacts K c) (row : Bool) (k : Nat) (f : Addr) (fd : FuncData) : FnOk P w K mg base CX0 k f fd ["self", "prefix"] (spBegins K c 0 (c.of row)) := by
  have no : ∀ vs H Q E, ¬ spBegins K c 0 (c.of row) vs H Q E := fun vs H Q E h => by
    obtain ⟨p, s, dx, fs, u, pre, rfl, hp, nd, hd, _⟩ := h
    have := deep N hp nd
    omega
  exact ⟨fun vs H Q E h => (no _ _ _ _ h).elim, fun A outer s H args us vs Q E _ _ _ _ h => (no _ _ _ _ h).elim⟩
/-- where the six methods and the three defs stand -/
structure NodeT (K : PySem.W.Frag) (mg : Str → Option Value) (c : NCls) : Prop where
  facts : NFacts K c
  txt : TxtNd mg
  lL : ∃ f fd, Meth K c.L "leaves" f ∧ Binds K fd ["self"] [] ∧ Fun K "leaves" "Leaf.leaves" sLeafLeaves f fd
  lG : ∃ f fd, Meth K c.G "leaves" f ∧ Binds K fd ["self"] [] ∧ Fun K "leaves" "Group.leaves" sGroupLeaves f fd
  lR : ∃ f fd, Meth K c.R "leaves" f ∧ Binds K fd ["self"] [] ∧ Fun K "leaves" "Row.leaves" sRowLeaves f fd
  bL : ∃ f fd, Meth K c.L "begins" f ∧ Binds K fd ["self", "prefix"] [] ∧ Fun K "begins" "Leaf.begins" sLeafBegins f fd
  bG : ∃ f fd, Meth K c.G "begins" f ∧ Binds K fd ["self", "prefix"] [] ∧ Fun K "begins" "Group.begins" sGroupBegins f fd
  bR : ∃ f fd, Meth K c.R "begins" f ∧ Binds K fd ["self", "prefix"] [] ∧ Fun K "begins" "Row.begins" sRowBegins f fd
  of_ : ∃ f fd, mg "_leaves_of" = some (.ref f) ∧ PySem.W.keepIn K (.ref f) = true ∧ Binds K fd ["parts"] [] ∧ Fun K "_leaves_of" "_leaves_of" sLeavesOf f fd
  named : ∃ f fd, mg "_parts_as_named" = some (.ref f) ∧ PySem.W.keepIn K (.ref f) = true ∧ Binds K fd ["parts", "prefix"] [] ∧ Fun K "_parts_as_named" "_parts_as_named" sPartsAsNamed f fd
  turn : ∃ f fd, mg "_begin_in_turn" = some (.ref f) ∧ PySem.W.keepIn K (.ref f) = true ∧ Binds K fd ["parts", "prefix"] [] ∧ Fun K "_begin_in_turn" "_begin_in_turn" sBeginInTurn f fd
theorem nodes_all (T : NodeT K mg c) : ∀ d, NodeM P w K mg base c d := by
  have N := T.facts
  obtain ⟨fl, dl, ml, bl, Fl⟩ := T.lL
  obtain ⟨fg, dg', mg', bg, Fg⟩ := T.lG
  obtain ⟨fr, dr, mr, br, Fr⟩ := T.lR
  obtain ⟨fl2, dl2, ml2, bl2, Fl2⟩ := T.bL
  obtain ⟨fg2, dg2, mg2, bg2, Fg2⟩ := T.bG
  obtain ⟨fr2, dr2, mr2, br2, Fr2⟩ := T.bR
  obtain ⟨fo, dO, mo, ko, bo, Fo⟩ := T.of_
  obtain ⟨fn, dn, mn, kn, bn, Fn⟩ := T.named
  obtain ⟨ft, dt, mt, kt, bt, Ft⟩ := T.turn
  intro d
  induction d with
  | zero =>
    refine ⟨fun C dC => ?_, fun C dC => ?_⟩
    · rcases dC with rfl | rfl | rfl
      · exact ⟨N.cl _ (.inl rfl), fl, dl, ml, bl, ok_leafleaves Fl N 0⟩
      · exact ⟨N.cl _ (.inr (.inl rfl)), fg, dg', mg', bg, no_leaves N false 1 fg dg'⟩
      · exact ⟨N.cl _ (.inr (.inr rfl)), fr, dr, mr, br, no_leaves N true 1 fr dr⟩
    · rcases dC with rfl | rfl | rfl
      · exact ⟨N.cl _ (.inl rfl), fl2, dl2, ml2, bl2, ok_leafbegins Fl2 T.txt N 0⟩
      · exact ⟨N.cl _ (.inr (.inl rfl)), fg2, dg2, mg2, bg2, no_begins N false 1 fg2 dg2⟩
      · exact ⟨N.cl _ (.inr (.inr rfl)), fr2, dr2, mr2, br2, no_begins N true 1 fr2 dr2⟩
  | succ d ih =>
    have gO : Dfn P w K mg base CX0 (2 * d + 2) "_leaves_of" ["parts"] (spLeavesOf K c d) := ⟨fo, dO, mo, ko, bo, ok_leavesof Fo T.txt ih.leaves⟩
    have gN : Dfn P w K mg base CX0 (2 * d + 2) "_parts_as_named" ["parts", "prefix"] (spNamed K c d) := ⟨fn, dn, mn, kn, bn, ok_named Fn N ih.leaves⟩
    have gT : Dfn P w K mg base CX0 (2 * d + 2) "_begin_in_turn" ["parts", "prefix"] (spTurn K c d) := ⟨ft, dt, mt, kt, bt, ok_turn Ft T.txt ih.leaves ih.begins⟩
    refine ⟨fun C dC => ?_, fun C dC => ?_⟩
    · rcases dC with rfl | rfl | rfl
      · exact ⟨N.cl _ (.inl rfl), fl, dl, ml, bl, (ok_leafleaves Fl N (d + 1)).mono (by omega)⟩
      · exact ⟨N.cl _ (.inr (.inl rfl)), fg, dg', mg', bg, ok_groupleaves Fg N gO⟩
      · exact ⟨N.cl _ (.inr (.inr rfl)), fr, dr, mr, br, ok_rowleaves Fr N gO⟩
    · rcases dC with rfl | rfl | rfl
      · exact ⟨N.cl _ (.inl rfl), fl2, dl2, ml2, bl2, (ok_leafbegins Fl2 T.txt N (d + 1)).mono (by omega)⟩
      · exact ⟨N.cl _ (.inr (.inl rfl)), fg2, dg2, mg2, bg2, ok_groupbegins Fg2 N gT gN⟩
      · exact ⟨N.cl _ (.inr (.inr rfl)), fr2, dr2, mr2, br2, ok_rowbegins Fr2 N gT⟩
end
end Dl

/-! the law -/
namespace Dl
open PySem PySem.Spec PyProof.Rows L2
def spLaw11 (K : PySem.W.Frag) : Sp := fun vs H Q _ => ∃ (a : Addr) (ns : List Int), vs = [.ref a] ∧ SqL K H a (ns.map V.int) ∧ ns.length ≤ 63 ∧ ∀ H', Q (.bl true) H'
def rLenS (K : PySem.W.Frag) : List V → Hp → VK → Prop := fun xs H Q => ∃ p ys, xs = [.ref p] ∧ (SqL K H p ys ∨ SqT K H p ys) ∧ Q (.int ys.length) H
structure TxtL11 (mg : Str → Option Value) : Prop where
  len : mg "len" = none
  list : mg "list" = none
  tuple : mg "tuple" = none
theorem absent_can : canS "absent9999" := by
  apply can_of
  decide +kernel
theorem atI_mem2 {xs : List Str} {j : Int} (h0 : 0 ≤ j) (h1 : j < (xs.length : Nat)) : ∃ z, atI (xs.map V.str) j = some (.str z) ∧ z ∈ xs := by
  obtain ⟨k, rfl⟩ := Int.eq_ofNat_of_zero_le h0
  have hk : k < xs.length := by omega
  refine ⟨xs[k], ?_, List.getElem_mem hk⟩
  unfold atI
  rw [List.length_map, ix_at hk]
  show (xs.map V.str)[k]? = _
  rw [List.getElem?_map, List.getElem?_eq_getElem hk]
  rfl
theorem eqv_nil11 {ds : List PyData} : PyData.eqv (.list ds) (.list []) = decide (ds = []) := by
  cases ds with
  | nil => simp [PyData.eqv, PyData.eqvAll]
  | cons _ _ => simp [PyData.eqv, PyData.eqvAll]
theorem cut_take {xs : List V} (k : Nat) : cutV xs none (some (k : Int)) = xs.take k := by
  unfold cutV
  rw [HT.sIx_nat, HT.sIx_none]
  by_cases h : k ≤ xs.length
  · rw [Nat.min_eq_left h]; rfl
  · rw [Nat.min_eq_right (by omega), List.take_of_length_le (by rw [List.length_drop]; omega), List.take_of_length_le (by omega)]
    rfl
theorem eqv_tup11 (a b : List Str) : PyData.eqv (.tuple (a.map PyData.str)) (.tuple (b.map PyData.str)) = decide (a = b) := by
  have all : ∀ a b : List Str, PyData.eqvAll (a.map PyData.str) (b.map PyData.str) = decide (a = b) := by
    intro a
    induction a with
    | nil => intro b; cases b <;> simp [PyData.eqvAll]
    | cons x r ih =>
      intro b
      cases b with
      | nil => simp [PyData.eqvAll]
      | cons y q =>
        rw [List.map_cons, List.map_cons, PyData.eqvAll, ih, PyData.eqv]
        by_cases h1 : x = y <;> by_cases h2 : r = q <;> simp [h1, h2]
  rw [PyData.eqv, all]
theorem ords_dp {K : PySem.W.Frag} {H : Hp} : ∀ {N : OrdL}, (∀ q ∈ N, SqT K H q.1 (q.2.map V.str)) → DpAll K H (N.map fun q => V.ref q.1) (N.map fun q => PyData.tuple (q.2.map PyData.str))
  | [], _ => .nil
  | q :: r, h => .cons (.tup (h q (List.mem_cons_self ..)) (dpAll_strs _)) (ords_dp fun z hz => h z (List.mem_cons_of_mem _ hz))
theorem ords_shaped {N : OrdL} (h : ∀ q ∈ N, ∀ z ∈ q.2, canS z) : SeqAt.shaped (.list (N.map fun q => PyData.tuple (q.2.map PyData.str))) = true := by
  have a : ∀ N : OrdL, (∀ q ∈ N, ∀ z ∈ q.2, canS z) → PyData.canLayAll0 (N.map fun q => PyData.tuple (q.2.map PyData.str)) = true ∧ PyData.depthAll (N.map fun q => PyData.tuple (q.2.map PyData.str)) ≤ 1 := by
    intro N
    induction N with
    | nil => intro _; exact ⟨by simp [PyData.canLayAll0], by simp [PyData.depthAll]⟩
    | cons q r ih =>
      intro h
      obtain ⟨i1, i2⟩ := ih fun x hx => h x (List.mem_cons_of_mem _ hx)
      rw [List.map_cons, PyData.canLayAll0, PyData.depthAll, i1, PyData.canLay0, canAll_strs (h q (List.mem_cons_self ..)), PyData.depth, depthAll_strs]
      exact ⟨rfl, by omega⟩
  obtain ⟨a1, a2⟩ := a N h
  unfold SeqAt.shaped
  rw [PyData.canLay0, a1, Bool.true_and, PyData.depth]
  exact decide_eq_true (by omega)
/-- what stands while the prefix is made -/
structure W11 (K : PySem.W.Frag) (c : NCls) (b p q u po : Addr) (s : Sh) (M : OrdL) (zs pool : List Str) (H : Hp) : Prop where
  nd : NodeAt c H p s
  ord : OrdIn K H q M
  nq : q ≠ b
  hu : H u = some (.lst (zs.map V.str))
  nu : u ≠ b
  hpo : H po = some (.lst (pool.map V.str))
  npo : po ≠ b
theorem W11.of {K : PySem.W.Frag} {c : NCls} {b p q u po : Addr} {s : Sh} {M : OrdL} {zs pool : List Str} {H H' : Hp} (w : W11 K c b p q u po s M zs pool H) (k : Same H H') : W11 K c b p q u po s M zs pool H' :=
  ⟨w.nd.of k, w.ord.of k, w.nq, k _ _ w.hu, w.nu, k _ _ w.hpo, w.npo⟩
theorem W11.put {K : PySem.W.Frag} {c : NCls} {b p q u po x : Addr} {s : Sh} {M : OrdL} {zs pool : List Str} {H : Hp} {xs ys : List V} (w : W11 K c b p q u po s M zs pool H) (hx : H x = some (.lst xs)) (n1 : q ≠ x) (n2 : u ≠ x) (n3 : po ≠ x) : W11 K c b p q u po s M zs pool (upd H x (.lst ys)) :=
  ⟨w.nd.imp fun a o e n => by rw [upd_ne (fun q => by rw [q, hx] at e; exact n _ (Option.some.inj e).symm)]; exact e, ⟨by rw [upd_ne n1]; exact w.ord.lst, fun r hr => upd_tup hx (w.ord.all r hr)⟩, w.nq, by rw [upd_ne n2]; exact w.hu, w.nu, by rw [upd_ne n3]; exact w.hpo, w.npo⟩
theorem W11.bag {K : PySem.W.Frag} {c : NCls} {b p q u po : Addr} {s : Sh} {M : OrdL} {zs pool : List Str} {H : Hp} {xs ys : List V} (w : W11 K c b p q u po s M zs pool H) (hb : H b = some (.lst xs)) : W11 K c b p q u po s M zs pool (upd H b (.lst ys)) := w.put hb w.nq w.nu w.npo
section
variable {P : Program} {w : World} {K : PySem.W.Frag} {mg : Str → Option Value} {base : Heap} {c : NCls}
theorem scLaw11 : FnScope ["_law_script", "_law_bag_here", "_law_names_here", "_law_shape_here", "_law_node_here", "_law_orders", "_law_order", "_law_prefix", "_law_way", "_law_pool", "_law_due", "_law_one"] ["_law_script"] (defScope sLaw) := ⟨rfl, rfl, rfl, by decide +kernel, rfl, by decide +kernel, by decide +kernel⟩
theorem ok_law11 {f : Addr} {fd : FuncData} (F : Fun K "law" "law" sLaw f fd) (T : TxtL11 mg) (N : NFacts K c)
    (gB : Dfn P w K mg base CX0 1 "_law_bag" ["_law_script"] (spBag K)) (gT : Dfn P w K mg base CX0 1 "_law_take" ["_law_bag_here", "_law_size"] spTake)
    (gN : Dfn P w K mg base CX0 3 "_law_names" ["_law_bag_here", "_law_count"] spNames) (gS : Dfn P w K mg base CX0 6 "_law_shape" ["_law_bag_here", "_law_names_here"] (spShape 5))
    (gNo : Dfn P w K mg base CX0 8 "_law_node" ["_law_shape_here"] (spNode c 5)) (gE : Dfn P w K mg base CX0 7 "_law_expand" ["_law_shape_here"] (spExpand K 5))
    (gI : Dfn P w K mg base CX0 1 "_law_is" ["_law_value", "_law_due"] spIs) (hM : NodeM P w K mg base c 5) :
    FnOk P w K mg base CX0 12 f fd ["_law_script"] (spLaw11 K) := by
  obtain ⟨fB, dB, mBag, kBag, bBag, GBag⟩ := gB
  obtain ⟨fT, dT, mTake, kTake, bTake, GTake⟩ := gT
  obtain ⟨fN, dN, mNames, kNames, bNames, GNames⟩ := gN
  obtain ⟨fS, dS, mShape, kShape, bShape, GShape⟩ := gS
  obtain ⟨fNo, dNo, mNode, kNode, bNode, GNode⟩ := gNo
  obtain ⟨fE, dE, mExpand, kExpand, bExpand, GExpand⟩ := gE
  obtain ⟨fI, dI, mIs, kIs, bIs, GIs⟩ := gI
  have hB := hM.begins
  refine F.ok scLaw11 (fun vs H Q E h => ?_) (fun cdv A outer s H vs Q E hr h => ?_)
  · obtain ⟨a, ns, rfl, _⟩ := h
    rfl
  · obtain ⟨a0, ns, rfl, hS, hlen, k⟩ := h
    have hr11 : Room 11 _ := hr
    have hr8 : Room 8 _ := hr.mono (by decide)
    have hr7 : Room 7 _ := hr.mono (by decide)
    have hr6 : Room 6 _ := hr.mono (by decide)
    have hr3 : Room 3 _ := hr.mono (by decide)
    have hr1 : Room 1 _ := hr.mono (by decide)
    refine ⟨_, (pss_cons (ps_set (i := 1) scLaw11.nd rfl (Or.inl rfl) (pe_call GBag hr1 (by rfl) mBag kBag bBag .nil pass0 (pa_cons (pv 0) pa_nil)))
        (pss_cons (ps_set (i := 2) scLaw11.nd rfl (Or.inl rfl) (pe_call GNames hr3 (by rfl) mNames kNames bNames .nil pass0 (pa_cons (pv 1) (pa_cons (pe_op op_add pe_int (pe_call GTake hr1 (by rfl) mTake kTake bTake .nil pass0 (pa_cons (pv 1) (pa_cons pe_int pa_nil)))) pa_nil))))
        (pss_cons (ps_set (i := 3) scLaw11.nd rfl (Or.inl rfl) (pe_call GShape hr6 (by rfl) mShape kShape bShape .nil pass0 (pa_cons (pv 1) (pa_cons (pv 2) pa_nil))))
        (pss_cons (ps_set (i := 4) scLaw11.nd rfl (Or.inl rfl) (pe_call GNode hr8 (by rfl) mNode kNode bNode .nil pass0 (pa_cons (pv 3) pa_nil)))
        (pss_cons (ps_set (i := 5) scLaw11.nd rfl (Or.inl rfl) (pe_call GExpand hr7 (by rfl) mExpand kExpand bExpand .nil pass0 (pa_cons (pv 3) pa_nil)))
        (pss_cons (ps_set (i := 6) scLaw11.nd rfl (Or.inl rfl) (pe_ix ix_list (pv 5) (pe_call GTake hr1 (by rfl) mTake kTake bTake .nil pass0 (pa_cons (pv 1) (pa_cons (pe_callB call_len_seq (by rfl) T.len PySem.boot_len (pa_cons (pv 5) pa_nil)) pa_nil))) (fun _ _ => rfl)))
        (pss_cons (ps_set (i := 7) scLaw11.nd rfl (Or.inr rfl) (pe_callTy call_list_of (by rfl) T.list (by decide +kernel) (pa_cons (pe_slice sl_tupW (pv 6) po_none (po_some (pe_call GTake hr1 (by rfl) mTake kTake bTake .nil pass0 (pa_cons (pv 1) (pa_cons (pe_op op_add (pe_callB call_len_seq (by rfl) T.len PySem.boot_len (pa_cons (pv 6) pa_nil)) pe_int) pa_nil))))) pa_nil)))
        (pss_cons (ps_set (i := 8) scLaw11.nd rfl (Or.inl rfl) (pe_call GTake hr1 (by rfl) mTake kTake bTake .nil pass0 (pa_cons (pv 1) (pa_cons pe_int pa_nil))))
        (pss_cons (ps_set (i := 9) scLaw11.nd rfl (Or.inl rfl) (pe_op op_cat (pv 2) (pe_lst (pa_cons pe_str pa_nil))))
        (C8.pss_cut (ps_if (PW.pt (pw_and (pt_cmpR op_eq (pv 8) pe_int (nomark _)) (pw_and1 (pt_cmpR (op_neD hr.units) (pv 7) (pe_lst pa_nil) (nomark _))))) (pss_one (ps_asg (pe_ix ix_list (pv 9) (pe_call GTake hr1 (by rfl) mTake kTake bTake .nil pass0 (pa_cons (pv 1) (pa_cons (pe_callB call_len_seq (by rfl) T.len PySem.boot_len (pa_cons (pv 9) pa_nil)) pa_nil))) (fun _ _ => rfl)) (pg_sub (pv 7) (pe_call GTake hr1 (by rfl) mTake kTake bTake .nil pass0 (pa_cons (pv 1) (pa_cons (pe_callB call_len_seq (by rfl) T.len PySem.boot_len (pa_cons (pv 7) pa_nil)) pa_nil))) set_list))) pss_nil)
        (C8.pss_cut (ps_if (pt_cmpR op_eq (pv 8) pe_int (nomark _)) (pss_one (ps_set (i := 7) scLaw11.nd rfl (Or.inr rfl) (pe_lst (pa_cons (pe_ix ix_list (pv 9) (pe_call GTake hr1 (by rfl) mTake kTake bTake .nil pass0 (pa_cons (pv 1) (pa_cons (pe_callB call_len_seq (by rfl) T.len PySem.boot_len (pa_cons (pv 2) pa_nil)) pa_nil))) (fun _ _ => rfl)) (pa_cons (pe_ix ix_list (pv 9) (pe_call GTake hr1 (by rfl) mTake kTake bTake .nil pass0 (pa_cons (pv 1) (pa_cons (pe_callB call_len_seq (by rfl) T.len PySem.boot_len (pa_cons (pv 9) pa_nil)) pa_nil))) (fun _ _ => rfl)) pa_nil))))) pss_nil)
        (C8.pss_cut (ps_if (pt_cmpR op_eq (pv 8) pe_int (nomark _)) (pss_one (ps_set (i := 7) scLaw11.nd rfl (Or.inr rfl) (pe_op op_cat (pv 7) (pe_lst (pa_cons (pe_ix ix_list (pv 9) (pe_call GTake hr1 (by rfl) mTake kTake bTake .nil pass0 (pa_cons (pv 1) (pa_cons (pe_callB call_len_seq (by rfl) T.len PySem.boot_len (pa_cons (pv 9) pa_nil)) pa_nil))) (fun _ _ => rfl)) pa_nil))))) pss_nil)
        (pss_cons (ps_set (i := 7) scLaw11.nd rfl (Or.inr rfl) (pe_callTy call_tuple_of (by rfl) T.tuple (by decide +kernel) (pa_cons (pv 7) pa_nil)))
        (pss_cons (ps_set (i := 10) scLaw11.nd rfl (Or.inl rfl) (pe_cmpR (op_neD hr.units) (pe_lc (own := [("_law_one", 11)]) (g := gName 11) rfl scLaw11.nd (pi_list (pv 5)) (blkOk_by (N := ["_law_script", "_law_bag_here", "_law_names_here", "_law_shape_here", "_law_node_here", "_law_orders", "_law_order", "_law_prefix", "_law_way", "_law_pool", "_law_due", "_law_one"]) (sc := defScope sLaw) (by decide +kernel)) (fun _ _ _ _ _ => (pg_name (i := 11) scLaw11.nd rfl (Or.inl rfl))) (fun _ _ _ _ _ => (pts_one (pt_cmpR (by exact op_eqD hr.units : OpR _ _ (rEqD K)) (pe_slice (by exact sl_tupW : SlR _ (rSlW K)) (pv 11) po_none (po_some (pe_callB (by exact call_len_seq : CallR _ _ (rLenS K)) (by rfl) T.len PySem.boot_len (pa_cons (pv 7) pa_nil)))) (pv 7) (nomark _)))) (fun _ _ _ _ _ => (pv 11))) (pe_lst pa_nil) (nomark _)))
        (pss_one (ps_ret (pe_and (pe_call GIs hr1 (by rfl) mIs kIs bIs .nil pass0 (pa_cons (pe_methD (pv 4) hB hr11 pass0 (pa_cons (pv 7) pa_nil)) (pa_cons (pv 10) pa_nil))) (pe_and (pe_call GIs hr1 (by rfl) mIs kIs bIs .nil pass0 (pa_cons (pe_methD (pv 4) hB hr11 pass0 (pa_cons (pv 7) pa_nil)) (pa_cons (pv 10) pa_nil))) (pe_one (pe_call GIs hr1 (by rfl) mIs kIs bIs .nil pass0 (pa_cons (pe_methD (pv 4) hB hr11 pass0 (pa_cons (pe_tup pa_nil) pa_nil)) (pa_cons pe_bl pa_nil)))))))))))))))))))))), ?_⟩
    refine ⟨_, rfl, a0, ns, rfl, hS, hlen, fun H1 b L s1 hb0 hL hok => ?_⟩
    refine ⟨_, rfl, _, rfl, b, L, 5, rfl, hL, hok, by decide, by decide, fun L1 n ok1 n0 n1 => ⟨_, _, rfl, rfl, b, L1, 1 + n, rfl, upd_same, ok1, by omega, by omega, fun H2 u L2 zs s2 hun hu hb2 ok2 okz hz => ?_⟩⟩
    have nub : u ≠ b := fun e => by rw [e, upd_same] at hun; cases hun
    have zl : 1 ≤ zs.length ∧ zs.length ≤ 5 := by omega
    clear hL hok s1 s2 ok1 hun hz n0 n1
    refine ⟨_, rfl, _, rfl, b, u, L2, zs, rfl, hb2, ok2, nub, hu, zl.1, zl.2, fun H3 v s L3 s3 hb3 ok3 sv lf gd dp => ?_⟩
    have hu3 := s3 _ _ nub hu
    have sm : ∀ z ∈ s.leaves, z.length ≤ 12 := fun z hz => (valid_small (okz.valid (by rw [← lf]; exact hz))).1
    have cz : ∀ z ∈ s.leaves, canS z := fun z hz => valid_can (okz.valid (by rw [← lf]; exact hz))
    have gs : GoodS s := ⟨gd, by rw [lf]; exact okz.nd, cz, by rw [lf]; omega⟩
    have d5 : s.depth ≤ 5 := by omega
    refine ⟨_, rfl, v, s, rfl, sv, gd, d5, sm, fun H4 p s4 _ nd => ?_⟩
    refine ⟨_, rfl, v, s, rfl, sv.of s4, gd, d5, by rw [lf]; omega, sm, fun H5 q M s5 hq0 oM eM => ?_⟩
    have nqb : q ≠ b := fun e => by rw [e, s4 _ _ hb3] at hq0; cases hq0
    have nd := nd.of s5
    have s45 := s4.trans s5
    have hb5 := s45 _ _ hb3
    have hu5 := s45 _ _ hu3
    have ml : M.length = s.many := by rw [← orders_len gd, ← eM, List.length_map]
    have mp := many_pos gd
    have m720 := many_720 gd (by rw [lf]; omega)
    clear s3 s4 s5 s45 sv hb3 hu3 hu hb2 ok2
    refine ⟨_, rfl, _, rfl, _, rfl, q, _, rfl, .inl (SqL.of oM.lst), b, L3, _, rfl, hb5, ok3, by rw [List.length_map]; omega, by rw [List.length_map]; omega, fun L4 r ok4 r0 r1 => ?_⟩
    obtain ⟨r, rfl⟩ := Int.eq_ofNat_of_zero_le r0
    rw [List.length_map] at r1
    obtain ⟨oq, hoq⟩ : ∃ oq, M[r]? = some oq := ⟨_, List.getElem?_eq_getElem (by omega)⟩
    have hom := List.mem_of_getElem? hoq
    have oo : oq.2 ∈ s.orders := by rw [← eM]; exact List.mem_map_of_mem hom
    have ol : oq.2.length ≤ 5 := by have := order_len oo; rw [lf] at this; omega
    have oc : ∀ z ∈ oq.2, canS z := fun z hz => cz z ((order_perm s _ oo).mem_iff.mp hz)
    have ar : atI (M.map fun q => V.ref q.1) ((r : Nat) : Int) = some (.ref oq.1) := atI_nat (j := r) (by rw [List.getElem?_map, hoq]; rfl)
    have h5b := upd_same (H := H5) (a := b) (o := .lst (L4.map V.int))
    have ox : ∀ ys, OrdIn K (upd H5 b (.lst ys)) q M := fun ys => ⟨by rw [upd_ne nqb]; exact oM.lst, fun r hr => upd_tup hb5 (oM.all r hr)⟩
    refine ⟨q, _, _, _, rfl, rfl, SqL.of (ox _).lst, ar, ?_⟩
    refine ⟨_, rfl, _, rfl, _, rfl, oq.1, _, rfl, .inr ((ox _).all oq hom), _, _, rfl, rfl, b, L4, _, rfl, upd_same, ok4, by omega, by rw [List.length_map]; omega, fun L5 t ok5 t0 t1 => ⟨_, rfl, ?_⟩⟩
    obtain ⟨t, rfl⟩ := Int.eq_ofNat_of_zero_le t0
    rw [upd_upd]
    refine ⟨oq.1, _, rfl, (ox _).all oq hom, fun H6 sp s6 hsp => ⟨sp, _, rfl, .inr hsp, fun pl hpl => ?_⟩⟩
    rw [cut_take, ← List.map_take]
    have nd6 : NodeAt c H6 p s := (nd.imp fun a o e n => by rw [upd_ne (fun q => by rw [q, hb5] at e; exact n _ (Option.some.inj e).symm)]; exact e).of s6
    have o6 := (ox (L5.map V.int)).of s6
    have hb6 := s6 _ _ (upd_same (H := H5) (a := b) (o := .lst (L5.map V.int)))
    have hu6 : H6 u = some (.lst (zs.map V.str)) := s6 _ _ (by rw [upd_ne nub]; exact hu5)
    have npb : pl ≠ b := (ne_of_none hb6 hpl).symm
    have npu : u ≠ pl := ne_of_none hu6 hpl
    have npq : q ≠ pl := ne_of_none o6.lst hpl
    have s7 := Same.upd_new hpl (o := .lst ((oq.2.take t).map V.str))
    have hp7 := upd_same (H := H6) (a := pl) (o := .lst ((oq.2.take t).map V.str))
    have nd7 := nd6.of s7
    have o7 := o6.of s7
    have hb7 := s7 _ _ hb6
    have hu7 := s7 _ _ hu6
    generalize upd H6 pl (.lst ((oq.2.take t).map V.str)) = H7 at *
    clear nd nd6 o6 hb6 hu6 s6 s7 hsp hpl ox oM hb5 hu5 h5b
    refine ⟨_, rfl, b, L5, 4, rfl, hb7, ok5, by decide, by decide, fun L6 wy ok6 w0 w1 => ?_⟩
    have hu8 : upd H7 b (.lst (L6.map V.int)) u = some (.lst (zs.map V.str)) := by rw [upd_ne nub]; exact hu7
    refine ⟨_, rfl, by show 1 ≤ sizeLine; decide, fun e he => ⟨u, e, _, _, rfl, rfl, (Same.upd_new he) _ _ hu8, upd_same, by rw [List.length_map]; exact Nat.le_of_lt (small1000 (by show zs.length + 1 ≤ 1000; omega)), fun po hpo => ?_⟩⟩
    have s9 := (Same.upd_new he (o := .lst [V.str "absent9999"])).trans (Same.upd_new hpo (o := .lst (zs.map V.str ++ [V.str "absent9999"])))
    have hb8 := upd_same (H := H7) (a := b) (o := .lst (L6.map V.int))
    have hp8 : upd H7 b (.lst (L6.map V.int)) pl = some (.lst ((oq.2.take t).map V.str)) := by rw [upd_ne npb]; exact hp7
    have epo : zs.map V.str ++ [V.str "absent9999"] = (zs ++ [("absent9999" : Str)]).map V.str := by rw [List.map_append]; rfl
    rw [epo] at s9
    rw [epo]
    have npo : po ≠ b := (ne_of_none ((Same.upd_new he) _ _ hb8) hpo).symm
    have npp : po ≠ pl := (ne_of_none ((Same.upd_new he) _ _ hp8) hpo).symm
    have W : W11 K c b p q u po s M zs (zs ++ [("absent9999" : Str)]) (upd (upd (upd H7 b (.lst (L6.map V.int))) e (.lst [V.str "absent9999"])) po (.lst ((zs ++ [("absent9999" : Str)]).map V.str))) :=
      ⟨(nd7.imp fun a o e n => by rw [upd_ne (fun q => by rw [q, hb7] at e; exact n _ (Option.some.inj e).symm)]; exact e).of s9, (show OrdIn K (upd H7 b (.lst (L6.map V.int))) q M from ⟨by rw [upd_ne nqb]; exact o7.lst, fun r hr => upd_tup hb7 (o7.all r hr)⟩).of s9, nqb, s9 _ _ hu8, nub, upd_same, npo⟩
    have hb9 := s9 _ _ hb8
    have hp9 := s9 _ _ hp8
    generalize upd (upd (upd H7 b (.lst (L6.map V.int))) e (.lst [V.str "absent9999"])) po (.lst ((zs ++ [("absent9999" : Str)]).map V.str)) = H9 at *
    have pz : ∀ z ∈ zs ++ [("absent9999" : Str)], canS z := fun z hz => by
      rcases List.mem_append.mp hz with h | h
      · exact valid_can (okz.valid h)
      · rw [List.mem_singleton.mp h]; exact absent_can
    have plen : (zs ++ [("absent9999" : Str)]).length = zs.length + 1 := by rw [List.length_append]; rfl
    generalize zs ++ [("absent9999" : Str)] = pool at *
    clear s9 he hpo hb8 hp8 hu8 nd7 o7 hb7 hu7 hp7 epo
    let Mid : Nat → _root_.L2.St → Hp → Prop := fun n σ H' => ∃ (pl : Addr) (pre : List Str) (L : List Int), σ = [some (.ref a0), some (.ref b), some (.ref u), some v, some (.ref p), some (.ref q), some (.ref oq.1), some (.ref pl), some (.int wy), some (.ref po), none, none] ∧ W11 K c b p q u po s M zs pool H' ∧ H' b = some (.lst (L.map V.int)) ∧ BagOk L ∧ H' pl = some (.lst (pre.map V.str)) ∧ pl ≠ b ∧ (∀ z ∈ pre, canS z) ∧ pre.length ≤ n
    have draw : ∀ {H' : Hp} {L : List Int}, W11 K c b p q u po s M zs pool H' → H' b = some (.lst (L.map V.int)) → ∀ L' : List Int, W11 K c b p q u po s M zs pool (upd H' b (.lst (L'.map V.int))) := fun w h L' => w.bag h
    refine ⟨Mid 6, ?_, ?_⟩
    · refine ⟨_, rfl, rfl, _, rfl, ?_⟩
      have pc : ∀ z ∈ oq.2.take t, canS z := fun z hz => oc z (List.mem_of_mem_take hz)
      have plt : (oq.2.take t).length ≤ 5 := by rw [List.length_take]; omega
      generalize oq.2.take t = pre at *
      have stay : ∀ H', Same H9 H' → Mid 6 [some (.ref a0), some (.ref b), some (.ref u), some v, some (.ref p), some (.ref q), some (.ref oq.1), some (.ref pl), some (.int wy), some (.ref po), none, none] H' := fun H' s => ⟨pl, pre, L6, rfl, W.of s, s _ _ hb9, ok6, s _ _ hp9, npb, pc, by omega⟩
      by_cases c1 : wy = 1
      · refine iteY (by rw [c1]; rfl) ?_
        refine ⟨_, rfl, Nat.zero_le _, fun e he => ?_⟩
        have s10 := Same.upd_new he (o := .lst ([] : List V))
        refine ⟨.list (pre.map PyData.str), .list [], .lst (SqL.of (s10 _ _ hp9)) (dpAll_strs _), .lst (SqL.of upd_same) .nil, ?_, ?_, _, rfl, ?_⟩
        · exact shaped_of (by rw [PyData.canLay0]; exact canAll_strs pc) (by rw [PyData.depth, depthAll_strs]; decide)
        · exact shaped_of (by rw [PyData.canLay0]; rfl) (by decide +kernel)
        rw [eqv_nil11]
        by_cases c2 : pre = []
        · exact iteZ (by rw [c2]; rfl) (stay _ s10)
        · have p1 : 1 ≤ pre.length := List.length_pos_iff.mpr c2
          refine iteY (by rw [decide_eq_false (by simpa using c2)]; rfl) ?_
          have W := W.of s10
          have hb9 := s10 _ _ hb9
          have hp9 := s10 _ _ hp9
          have npq : q ≠ pl := npq
          generalize upd H9 e (.lst ([] : List V)) = H10 at *
          refine ⟨_, rfl, _, rfl, _, rfl, po, _, rfl, .inl (SqL.of W.hpo), b, L6, _, rfl, hb9, ok6, by rw [List.length_map]; omega, by rw [List.length_map]; omega, fun L7 r ok7 r0 r1 => ?_⟩
          rw [List.length_map] at r1
          obtain ⟨z, az, zm⟩ := atI_mem2 r0 r1
          have hp10 : upd H10 b (.lst (L7.map V.int)) pl = some (.lst (pre.map V.str)) := by rw [upd_ne npb]; exact hp9
          refine ⟨po, _, _, _, rfl, rfl, SqL.of (draw W hb9 L7).hpo, az, _, rfl, _, rfl, _, rfl, pl, _, rfl, .inl (SqL.of hp10), b, L7, _, rfl, upd_same, ok7, by rw [List.length_map]; omega, by rw [List.length_map]; omega, fun L8 j ok8 j0 j1 => ?_⟩
          rw [upd_upd]
          rw [List.length_map] at j1
          obtain ⟨j, rfl⟩ := Int.eq_ofNat_of_zero_le j0
          have hp11 : upd H10 b (.lst (L8.map V.int)) pl = some (.lst (pre.map V.str)) := by rw [upd_ne npb]; exact hp9
          refine ⟨pl, _, _, j, rfl, rfl, hp11, ix_at (by rw [List.length_map]; omega), pl, pre.set j z, L8, rfl, (draw W hb9 L8).put hp11 npq npu npp, by rw [upd_ne npb.symm, upd_same], ok8, by rw [upd_same, List.map_set], npb, fun y hy => ?_, by rw [List.length_set]; omega⟩
          rcases List.mem_or_eq_of_mem_set hy with h | h
          · exact pc y h
          · rw [h]; exact pz z zm
      · exact iteZ (decide_eq_false (by intro e; injection e with e; exact c1 e)) (stay H9 (Same.refl _))
    · rintro σ H10 ⟨pl, pre, L7, rfl, W, hb10, ok7, hp10, npb, pc, plt⟩
      refine ⟨Mid 6, ?_, ?_⟩
      · refine ⟨_, rfl, rfl, _, rfl, ?_⟩
        by_cases c2 : wy = 2
        · refine iteY (by rw [c2]; rfl) ?_
          refine ⟨_, rfl, _, rfl, _, rfl, u, _, rfl, .inl (SqL.of W.hu), b, L7, _, rfl, hb10, ok7, by rw [List.length_map]; omega, by rw [List.length_map]; omega, fun L8 r ok8 r0 r1 => ?_⟩
          rw [List.length_map] at r1
          obtain ⟨z, az, zm⟩ := atI_mem2 (xs := pool) r0 (by omega)
          refine ⟨po, _, _, _, rfl, rfl, SqL.of (draw W hb10 L8).hpo, az, _, rfl, _, rfl, _, rfl, po, _, rfl, .inl (SqL.of (draw W hb10 L8).hpo), b, L8, _, rfl, upd_same, ok8, by rw [List.length_map]; omega, by rw [List.length_map]; omega, fun L9 r ok9 r0 r1 => ?_⟩
          rw [upd_upd]
          rw [List.length_map] at r1
          obtain ⟨z2, az2, zm2⟩ := atI_mem2 (xs := pool) r0 (by omega)
          refine ⟨po, _, _, _, rfl, rfl, SqL.of (draw W hb10 L9).hpo, az2, by show 2 ≤ sizeLine; decide, fun pl2 hpl2 => ⟨pl2, [z, z2], L9, rfl, (draw W hb10 L9).of (Same.upd_new hpl2), (Same.upd_new hpl2) _ _ upd_same, ok9, upd_same, (fun e => by rw [e, upd_same] at hpl2; cases hpl2), fun y hy => ?_, by show 2 ≤ 6; decide⟩⟩
          rcases List.mem_cons.mp hy with rfl | hy
          · exact pz _ zm
          · rw [List.mem_singleton.mp hy]; exact pz _ zm2
        · exact iteZ (decide_eq_false (by intro e; injection e with e; exact c2 e)) ⟨pl, pre, L7, rfl, W, hb10, ok7, hp10, npb, pc, plt⟩
      · clear W hb10 ok7 hp10 npb pc plt
        rintro σ H11 ⟨pl, pre, L7, rfl, W, hb10, ok7, hp10, npb, pc, plt⟩
        refine ⟨Mid 7, ?_, ?_⟩
        · refine ⟨_, rfl, rfl, _, rfl, ?_⟩
          by_cases c3 : wy = 3
          · refine iteY (by rw [c3]; rfl) ?_
            refine ⟨_, rfl, _, rfl, _, rfl, _, rfl, po, _, rfl, .inl (SqL.of W.hpo), b, L7, _, rfl, hb10, ok7, by rw [List.length_map]; omega, by rw [List.length_map]; omega, fun L8 r ok8 r0 r1 => ?_⟩
            rw [List.length_map] at r1
            obtain ⟨z, az, zm⟩ := atI_mem2 r0 r1
            have hp11 : upd H11 b (.lst (L8.map V.int)) pl = some (.lst (pre.map V.str)) := by rw [upd_ne npb]; exact hp10
            refine ⟨po, _, _, _, rfl, rfl, SqL.of (draw W hb10 L8).hpo, az, by show 1 ≤ sizeLine; decide, fun e he => ⟨pl, e, _, _, rfl, rfl, (Same.upd_new he) _ _ hp11, upd_same, by rw [List.length_map]; exact Nat.le_of_lt (small1000 (by show pre.length + 1 ≤ 1000; omega)), fun pl2 hpl2 => ?_⟩⟩
            have s12 := (Same.upd_new he (o := .lst [V.str z])).trans (Same.upd_new hpl2 (o := .lst (pre.map V.str ++ [V.str z])))
            refine ⟨pl2, pre ++ [z], L8, rfl, (draw W hb10 L8).of s12, s12 _ _ upd_same, ok8, by rw [upd_same, List.map_append]; rfl, (ne_of_none ((Same.upd_new he) _ _ upd_same) hpl2).symm, fun y hy => ?_, by rw [List.length_append]; show pre.length + 1 ≤ 7; omega⟩
            rcases List.mem_append.mp hy with h | h
            · exact pc y h
            · rw [List.mem_singleton.mp h]; exact pz z zm
          · exact iteZ (decide_eq_false (by intro e; injection e with e; exact c3 e)) ⟨pl, pre, L7, rfl, W, hb10, ok7, hp10, npb, pc, by omega⟩
        · clear W hb10 ok7 hp10 npb pc plt
          rintro σ H12 ⟨pl, pre, L7, rfl, W, hb10, ok7, hp10, npb, pc, plt⟩
          refine ⟨_, rfl, pl, _, rfl, .inl ⟨SqL.of hp10, fun tp htp => ?_⟩⟩
          have s12 := Same.upd_new htp (o := .tup (pre.map V.str))
          have ht := upd_same (H := H12) (a := tp) (o := .tup (pre.map V.str))
          have nd := W.nd.of s12
          have oM := W.ord.of s12
          generalize upd H12 tp (.tup (pre.map V.str)) = H13 at *
          clear W hb10 hp10 s12 htp
          have pd : SeqAt.shaped (.tuple (pre.map PyData.str)) = true := shaped_of (by rw [PyData.canLay0]; exact canAll_strs pc) (by rw [PyData.depth, depthAll_strs]; decide)
          refine ⟨_, rfl, q, rfl, ⟨_, SqL.of oM.lst⟩, fun D hD => lc_it (walk_list (K := K) (a := q) (xs := M.map fun q => V.ref q.1)) (fun i H' => Same H13 H' ∧ H' D = some (.lst (((M.take i).filter fun o => decide (o.2.take pre.length = pre)).map fun q => V.ref q.1))) ⟨Same.upd_new hD, upd_same⟩ (fun i H' _ ⟨s, _⟩ => SqL.of (s _ _ oM.lst)) ?_ ?_⟩
          · rintro i v' H14 H15 hi ⟨s14, hD14⟩ ⟨rfl, hv⟩
            obtain ⟨mq, hmq, hmm, rfl⟩ := ord_at hv
            have mo : mq.2 ∈ s.orders := by rw [← eM]; exact List.mem_map_of_mem hmm
            have mc : ∀ z ∈ mq.2.take pre.length, canS z := fun z hz => cz z ((order_perm s _ mo).mem_iff.mp (List.mem_of_mem_take hz))
            refine ⟨rfl, _, rfl, _, rfl, tp, _, rfl, .inr (SqT.of (s14 _ _ ht)), _, rfl, mq.1, _, rfl, Same.tup s14 (oM.all mq hmm), fun H16 sp s16 hsp => ?_⟩
            rw [List.length_map, cut_take, ← List.map_take] at hsp
            have s146 := s14.trans s16
            refine ⟨_, rfl, .tuple ((mq.2.take pre.length).map PyData.str), .tuple (pre.map PyData.str), .tup hsp (dpAll_strs _), .tup (SqT.of (s146 _ _ ht)) (dpAll_strs _), shaped_of (by rw [PyData.canLay0]; exact canAll_strs mc) (by rw [PyData.depth, depthAll_strs]; decide), pd, _, rfl, ?_⟩
            rw [eqv_tup11, take_one hmq, List.filter_append]
            have hD16 := s16 _ _ hD14
            by_cases e : mq.2.take pre.length = pre
            · refine iteY (decide_eq_true e) ⟨_, rfl, _, hD16, ?_, fun b o e => ?_, ?_⟩
              · rw [List.length_map]
                have := List.length_filter_le (fun o : Addr × List Str => decide (o.2.take pre.length = pre)) (M.take i)
                rw [List.length_take] at this
                exact small1000 (by omega)
              · rw [upd_ne (ne_of_none e hD)]
                exact s146 _ _ e
              · rw [upd_same, List.filter_cons_of_pos (by simpa using e), List.filter_nil, List.map_append]
                rfl
            · refine iteZ (decide_eq_false e) ⟨s146, ?_⟩
              rw [List.filter_cons_of_neg (by simpa using e), List.filter_nil, List.append_nil]
              exact hD16
          · rintro H14 ⟨s14, hD14⟩
            rw [List.length_map, List.take_length] at hD14
            refine ⟨Nat.zero_le _, fun e he => ?_⟩
            have s15 := s14.trans (Same.upd_new he (o := .lst ([] : List V)))
            have hD15 := (Same.upd_new he (o := .lst ([] : List V))) _ _ hD14
            have fsub : ∀ o ∈ M.filter (fun o => decide (o.2.take pre.length = pre)), o ∈ M := fun o ho => (List.mem_filter.mp ho).1
            have fc : ∀ o ∈ M.filter (fun o => decide (o.2.take pre.length = pre)), ∀ z ∈ o.2, canS z := fun o ho z hz => cz z ((order_perm s _ (by rw [← eM]; exact List.mem_map_of_mem (fsub o ho))).mem_iff.mp hz)
            have eb : (!PyData.eqv (.list ((M.filter fun o => decide (o.2.take pre.length = pre)).map fun q => PyData.tuple (q.2.map PyData.str))) (.list [])) = s.begins pre := by
              rw [eqv_nil11, Bool.eq_iff_iff, Bool.not_eq_true', decide_eq_false_iff_not]
              unfold Sh.begins
              rw [begO_iff, ← eM]
              constructor
              · intro h
                obtain ⟨o, ho⟩ := List.exists_mem_of_ne_nil (M.filter fun o : Addr × List Str => decide (o.2.take pre.length = pre)) (fun e => h (by rw [e]; rfl))
                obtain ⟨a, b⟩ := List.mem_filter.mp ho
                exact ⟨o.2, List.mem_map_of_mem a, of_decide_eq_true b⟩
              · rintro ⟨o, ho, e⟩ h
                obtain ⟨x, hx, rfl⟩ := List.mem_map.mp ho
                have : x ∈ M.filter (fun o => decide (o.2.take pre.length = pre)) := List.mem_filter.mpr ⟨hx, decide_eq_true e⟩
                have := List.mem_map_of_mem (f := fun q : Addr × List Str => PyData.tuple (q.2.map PyData.str)) this
                rw [h] at this
                exact absurd this (by simp)
            refine ⟨.list ((M.filter fun o : Addr × List Str => decide (o.2.take pre.length = pre)).map fun q : Addr × List Str => PyData.tuple (q.2.map PyData.str)), .list [], .lst (SqL.of hD15) (ords_dp fun o ho => Same.tup s15 (oM.all o (fsub o ho))), .lst (SqL.of upd_same) .nil, ords_shaped fc, shaped_of (by rw [PyData.canLay0]; rfl) (by decide +kernel), ?_⟩
            rw [eb]
            have nd := nd.of s15
            have ht := s15 _ _ ht
            generalize upd H14 e (.lst ([] : List V)) = H16 at *
            have dk : ∀ f : Str, (f = "name" ∨ f = "parts") → (("begins" : Str) == f) = false := fun f h => by rcases h with rfl | rfl <;> decide +kernel
            obtain ⟨C, dx, fn, fv, hi1, dC, fe⟩ := nd.ins
            refine ⟨_, rfl, p, C, dx, _, rfl, hi1, dC, lookN (dk _ fe), _, rfl, p, s, dx, _, tp, pre, rfl, hi1, nd, d5, gs, SqT.of ht, pc, by omega, fun H17 s17 => ?_⟩
            refine ⟨_, rfl, _, _, rfl, rfl, ?_⟩
            refine ⟨true, rfl, iteT ?_⟩
            refine ⟨_, rfl, p, C, dx, _, rfl, s17 _ _ hi1, dC, lookN (dk _ fe), _, rfl, p, s, dx, _, tp, pre, rfl, s17 _ _ hi1, nd.of s17, d5, gs, SqT.of (s17 _ _ ht), pc, by omega, fun H18 s18 => ?_⟩
            refine ⟨_, rfl, _, _, rfl, rfl, ?_⟩
            refine ⟨true, rfl, iteT ?_⟩
            have s178 := s17.trans s18
            refine ⟨_, rfl, p, C, dx, _, rfl, s178 _ _ hi1, dC, lookN (dk _ fe), Nat.zero_le _, fun et het => ?_⟩
            have s19 := s178.trans (Same.upd_new het (o := .tup ([] : List V)))
            refine ⟨p, s, dx, _, et, [], rfl, s19 _ _ hi1, nd.of s19, d5, gs, SqT.of upd_same, (fun z hz => absurd hz (by simp)), by decide, fun H20 s20 => ?_⟩
            have e0 : s.begins [] = true := begO_iff.mpr (by obtain ⟨o, ho⟩ := order_some s; exact ⟨o, ho, rfl⟩)
            exact ⟨_, _, rfl, e0, k H20⟩
end
end Dl

namespace Dl
open PySem PySem.Spec PyProof.Rows L2
theorem nf_mk {K : PySem.W.Frag} {L G R : Addr} (cL : Cls K L) (cG : Cls K G) (cR : Cls K R) (nL : NoAttr K L "name") (nG : NoAttr K G "parts") (nR : NoAttr K R "parts")
    (eL : PySem.W.findIn K (.ref L) "__eq__" = some (some (.builtin "object.__eq__"))) (eG : PySem.W.findIn K (.ref G) "__eq__" = some (some (.builtin "object.__eq__"))) (eR : PySem.W.findIn K (.ref R) "__eq__" = some (some (.builtin "object.__eq__")))
    (mL : PySem.W.mroIn K L (.type "object") = some true) (mG : PySem.W.mroIn K G (.type "object") = some true) (mR : PySem.W.mroIn K R (.type "object") = some true)
    (lg : PySem.W.subIn K (.ref L) (.ref G) = some false) (gl : PySem.W.subIn K (.ref G) (.ref L) = some false) (lr : PySem.W.subIn K (.ref L) (.ref R) = some false) (rl : PySem.W.subIn K (.ref R) (.ref L) = some false)
    (gr : PySem.W.subIn K (.ref G) (.ref R) = some false) (rg : PySem.W.subIn K (.ref R) (.ref G) = some false) (n1 : L ≠ G) (n2 : L ≠ R) (n3 : G ≠ R) : NFacts K ⟨L, G, R⟩ := by
  have self : ∀ C, PySem.W.notFirst K C (.ref C) = true := fun C => by unfold PySem.W.notFirst; simp
  have sub : ∀ {C C' : Addr}, PySem.W.subIn K (.ref C') (.ref C) = some false → PySem.W.notFirst K C (.ref C') = true := fun h => by unfold PySem.W.notFirst; rw [h]; simp
  refine ⟨fun C h => ?_, nL, fun row => ?_, ⟨fun C h => ?_, fun C h => ?_, fun C C' h h' => ?_⟩, n1, n2, n3⟩
  · rcases (h : C = L ∨ C = G ∨ C = R) with rfl | rfl | rfl
    · exact cL
    · exact cG
    · exact cR
  · cases row
    · exact nG
    · exact nR
  · rcases (h : C = L ∨ C = G ∨ C = R) with rfl | rfl | rfl
    · exact eL
    · exact eG
    · exact eR
  · rcases (h : C = L ∨ C = G ∨ C = R) with rfl | rfl | rfl
    · exact mL
    · exact mG
    · exact mR
  · rcases (h : C = L ∨ C = G ∨ C = R) with rfl | rfl | rfl <;> rcases (h' : C' = _ ∨ C' = _ ∨ C' = _) with rfl | rfl | rfl
    · exact self _
    · exact sub gl
    · exact sub rl
    · exact sub lg
    · exact self _
    · exact sub rg
    · exact sub lr
    · exact sub gr
    · exact self _
end Dl

namespace Dl
open PySem PySem.Spec PyProof.Rows L2
theorem all_mk {l : PySem.W.OpenLaw} {w : World} {K : PySem.W.Frag} {h : Heap} {mg : Str → Option Value} {fa f_leaves_of f_parts_as_named f_begin_in_turn f_law_bag f_law_take f_law_is f_law_name f_law_names f_law_shape f_law_node f_law_ways f_law_expand f_law C_Branch f_Branch_init C_Leaf f_Leaf_init f_Leaf_leaves f_Leaf_begins C_Group f_Group_leaves f_Group_begins C_Row f_Row_leaves f_Row_begins : Addr} (X : K.In h) (G : h.Ns mainGlobals mg) (hfa : mg "law" = some (.ref fa))
    {od_leaves_of an_leaves_of od_parts_as_named an_parts_as_named od_begin_in_turn an_begin_in_turn od_law_bag an_law_bag od_law_take an_law_take od_law_is an_law_is od_law_name an_law_name od_law_names an_law_names od_law_shape an_law_shape od_law_node an_law_node od_law_ways an_law_ways od_law_expand an_law_expand od_law an_law od_Branch_init an_Branch_init od_Leaf_init an_Leaf_init od_Leaf_leaves an_Leaf_leaves od_Leaf_begins an_Leaf_begins od_Group_leaves an_Group_leaves od_Group_begins an_Group_begins od_Row_leaves an_Row_leaves od_Row_begins an_Row_begins : Option Addr} {sl_leaves_of sl_parts_as_named sl_begin_in_turn sl_law_bag sl_law_take sl_law_is sl_law_name sl_law_names sl_law_shape sl_law_node sl_law_ways sl_law_expand sl_law sl_Branch_init sl_Leaf_init sl_Leaf_leaves sl_Leaf_begins sl_Group_leaves sl_Group_begins sl_Row_leaves sl_Row_begins : Array (Option Value)} {oc_leaves_of kV_leaves_of dc_leaves_of pm_leaves_of cd_leaves_of ct_leaves_of oc_parts_as_named kV_parts_as_named dc_parts_as_named pm_parts_as_named cd_parts_as_named ct_parts_as_named oc_begin_in_turn kV_begin_in_turn dc_begin_in_turn pm_begin_in_turn cd_begin_in_turn ct_begin_in_turn oc_law_bag kV_law_bag dc_law_bag pm_law_bag cd_law_bag ct_law_bag oc_law_take kV_law_take dc_law_take pm_law_take cd_law_take ct_law_take oc_law_is kV_law_is dc_law_is pm_law_is cd_law_is ct_law_is oc_law_name kV_law_name dc_law_name pm_law_name cd_law_name ct_law_name oc_law_names kV_law_names dc_law_names pm_law_names cd_law_names ct_law_names oc_law_shape kV_law_shape dc_law_shape pm_law_shape cd_law_shape ct_law_shape oc_law_node kV_law_node dc_law_node pm_law_node cd_law_node ct_law_node oc_law_ways kV_law_ways dc_law_ways pm_law_ways cd_law_ways ct_law_ways oc_law_expand kV_law_expand dc_law_expand pm_law_expand cd_law_expand ct_law_expand oc_law kV_law dc_law pm_law cd_law ct_law oc_Branch_init kV_Branch_init dc_Branch_init pm_Branch_init cd_Branch_init ct_Branch_init oc_Leaf_init kV_Leaf_init dc_Leaf_init pm_Leaf_init cd_Leaf_init ct_Leaf_init oc_Leaf_leaves kV_Leaf_leaves dc_Leaf_leaves pm_Leaf_leaves cd_Leaf_leaves ct_Leaf_leaves oc_Leaf_begins kV_Leaf_begins dc_Leaf_begins pm_Leaf_begins cd_Leaf_begins ct_Leaf_begins oc_Group_leaves kV_Group_leaves dc_Group_leaves pm_Group_leaves cd_Group_leaves ct_Group_leaves oc_Group_begins kV_Group_begins dc_Group_begins pm_Group_begins cd_Group_begins ct_Group_begins oc_Row_leaves kV_Row_leaves dc_Row_leaves pm_Row_leaves cd_Row_leaves ct_Row_leaves oc_Row_begins kV_Row_begins dc_Row_begins pm_Row_begins cd_Row_begins ct_Row_begins : Value}
    (a_leaves_of : PySem.W.nsIn K mainGlobals "_leaves_of" = some (some (.ref f_leaves_of)))
    (l_leaves_of : K.lookup f_leaves_of = some ⟨oc_leaves_of, od_leaves_of, .func (PySem.W.fnOf "_leaves_of" "_leaves_of" (defArgs sLeavesOf) (defBody sLeavesOf) (defScope sLeavesOf) .none kV_leaves_of dc_leaves_of pm_leaves_of an_leaves_of cd_leaves_of ct_leaves_of), sl_leaves_of⟩)
    (c_leaves_of : PySem.W.codeIn K cd_leaves_of "_leaves_of" = true)
    (k_leaves_of : PySem.W.keepIn K (.ref f_leaves_of) = true)
    (a_parts_as_named : PySem.W.nsIn K mainGlobals "_parts_as_named" = some (some (.ref f_parts_as_named)))
    (l_parts_as_named : K.lookup f_parts_as_named = some ⟨oc_parts_as_named, od_parts_as_named, .func (PySem.W.fnOf "_parts_as_named" "_parts_as_named" (defArgs sPartsAsNamed) (defBody sPartsAsNamed) (defScope sPartsAsNamed) .none kV_parts_as_named dc_parts_as_named pm_parts_as_named an_parts_as_named cd_parts_as_named ct_parts_as_named), sl_parts_as_named⟩)
    (c_parts_as_named : PySem.W.codeIn K cd_parts_as_named "_parts_as_named" = true)
    (k_parts_as_named : PySem.W.keepIn K (.ref f_parts_as_named) = true)
    (a_begin_in_turn : PySem.W.nsIn K mainGlobals "_begin_in_turn" = some (some (.ref f_begin_in_turn)))
    (l_begin_in_turn : K.lookup f_begin_in_turn = some ⟨oc_begin_in_turn, od_begin_in_turn, .func (PySem.W.fnOf "_begin_in_turn" "_begin_in_turn" (defArgs sBeginInTurn) (defBody sBeginInTurn) (defScope sBeginInTurn) .none kV_begin_in_turn dc_begin_in_turn pm_begin_in_turn an_begin_in_turn cd_begin_in_turn ct_begin_in_turn), sl_begin_in_turn⟩)
    (c_begin_in_turn : PySem.W.codeIn K cd_begin_in_turn "_begin_in_turn" = true)
    (k_begin_in_turn : PySem.W.keepIn K (.ref f_begin_in_turn) = true)
    (a_law_bag : PySem.W.nsIn K mainGlobals "_law_bag" = some (some (.ref f_law_bag)))
    (l_law_bag : K.lookup f_law_bag = some ⟨oc_law_bag, od_law_bag, .func (PySem.W.fnOf "_law_bag" "_law_bag" (defArgs sBag) (defBody sBag) (defScope sBag) .none kV_law_bag dc_law_bag pm_law_bag an_law_bag cd_law_bag ct_law_bag), sl_law_bag⟩)
    (c_law_bag : PySem.W.codeIn K cd_law_bag "_law_bag" = true)
    (k_law_bag : PySem.W.keepIn K (.ref f_law_bag) = true)
    (a_law_take : PySem.W.nsIn K mainGlobals "_law_take" = some (some (.ref f_law_take)))
    (l_law_take : K.lookup f_law_take = some ⟨oc_law_take, od_law_take, .func (PySem.W.fnOf "_law_take" "_law_take" (defArgs sTake) (defBody sTake) (defScope sTake) .none kV_law_take dc_law_take pm_law_take an_law_take cd_law_take ct_law_take), sl_law_take⟩)
    (c_law_take : PySem.W.codeIn K cd_law_take "_law_take" = true)
    (k_law_take : PySem.W.keepIn K (.ref f_law_take) = true)
    (a_law_is : PySem.W.nsIn K mainGlobals "_law_is" = some (some (.ref f_law_is)))
    (l_law_is : K.lookup f_law_is = some ⟨oc_law_is, od_law_is, .func (PySem.W.fnOf "_law_is" "_law_is" (defArgs sLawIs) (defBody sLawIs) (defScope sLawIs) .none kV_law_is dc_law_is pm_law_is an_law_is cd_law_is ct_law_is), sl_law_is⟩)
    (c_law_is : PySem.W.codeIn K cd_law_is "_law_is" = true)
    (k_law_is : PySem.W.keepIn K (.ref f_law_is) = true)
    (a_law_name : PySem.W.nsIn K mainGlobals "_law_name" = some (some (.ref f_law_name)))
    (l_law_name : K.lookup f_law_name = some ⟨oc_law_name, od_law_name, .func (PySem.W.fnOf "_law_name" "_law_name" (defArgs sLawName) (defBody sLawName) (defScope sLawName) .none kV_law_name dc_law_name pm_law_name an_law_name cd_law_name ct_law_name), sl_law_name⟩)
    (c_law_name : PySem.W.codeIn K cd_law_name "_law_name" = true)
    (k_law_name : PySem.W.keepIn K (.ref f_law_name) = true)
    (a_law_names : PySem.W.nsIn K mainGlobals "_law_names" = some (some (.ref f_law_names)))
    (l_law_names : K.lookup f_law_names = some ⟨oc_law_names, od_law_names, .func (PySem.W.fnOf "_law_names" "_law_names" (defArgs sLawNames) (defBody sLawNames) (defScope sLawNames) .none kV_law_names dc_law_names pm_law_names an_law_names cd_law_names ct_law_names), sl_law_names⟩)
    (c_law_names : PySem.W.codeIn K cd_law_names "_law_names" = true)
    (k_law_names : PySem.W.keepIn K (.ref f_law_names) = true)
    (a_law_shape : PySem.W.nsIn K mainGlobals "_law_shape" = some (some (.ref f_law_shape)))
    (l_law_shape : K.lookup f_law_shape = some ⟨oc_law_shape, od_law_shape, .func (PySem.W.fnOf "_law_shape" "_law_shape" (defArgs sLawShape) (defBody sLawShape) (defScope sLawShape) .none kV_law_shape dc_law_shape pm_law_shape an_law_shape cd_law_shape ct_law_shape), sl_law_shape⟩)
    (c_law_shape : PySem.W.codeIn K cd_law_shape "_law_shape" = true)
    (k_law_shape : PySem.W.keepIn K (.ref f_law_shape) = true)
    (a_law_node : PySem.W.nsIn K mainGlobals "_law_node" = some (some (.ref f_law_node)))
    (l_law_node : K.lookup f_law_node = some ⟨oc_law_node, od_law_node, .func (PySem.W.fnOf "_law_node" "_law_node" (defArgs sLawNode) (defBody sLawNode) (defScope sLawNode) .none kV_law_node dc_law_node pm_law_node an_law_node cd_law_node ct_law_node), sl_law_node⟩)
    (c_law_node : PySem.W.codeIn K cd_law_node "_law_node" = true)
    (k_law_node : PySem.W.keepIn K (.ref f_law_node) = true)
    (a_law_ways : PySem.W.nsIn K mainGlobals "_law_ways" = some (some (.ref f_law_ways)))
    (l_law_ways : K.lookup f_law_ways = some ⟨oc_law_ways, od_law_ways, .func (PySem.W.fnOf "_law_ways" "_law_ways" (defArgs sLawWays) (defBody sLawWays) (defScope sLawWays) .none kV_law_ways dc_law_ways pm_law_ways an_law_ways cd_law_ways ct_law_ways), sl_law_ways⟩)
    (c_law_ways : PySem.W.codeIn K cd_law_ways "_law_ways" = true)
    (k_law_ways : PySem.W.keepIn K (.ref f_law_ways) = true)
    (a_law_expand : PySem.W.nsIn K mainGlobals "_law_expand" = some (some (.ref f_law_expand)))
    (l_law_expand : K.lookup f_law_expand = some ⟨oc_law_expand, od_law_expand, .func (PySem.W.fnOf "_law_expand" "_law_expand" (defArgs sLawExpand) (defBody sLawExpand) (defScope sLawExpand) .none kV_law_expand dc_law_expand pm_law_expand an_law_expand cd_law_expand ct_law_expand), sl_law_expand⟩)
    (c_law_expand : PySem.W.codeIn K cd_law_expand "_law_expand" = true)
    (k_law_expand : PySem.W.keepIn K (.ref f_law_expand) = true)
    (a_law : PySem.W.nsIn K mainGlobals "law" = some (some (.ref f_law)))
    (l_law : K.lookup f_law = some ⟨oc_law, od_law, .func (PySem.W.fnOf "law" "law" (defArgs sLaw) (defBody sLaw) (defScope sLaw) .none kV_law dc_law pm_law an_law cd_law ct_law), sl_law⟩)
    (c_law : PySem.W.codeIn K cd_law "law" = true)
    (k_law : PySem.W.keepIn K (.ref f_law) = true)
    (a_Branch : PySem.W.nsIn K mainGlobals "Branch" = some (some (.ref C_Branch)))
    (pg_Branch : PySem.W.plainGet K C_Branch Str.empty = true)
    (hd_Branch : PySem.W.hasDictIn K C_Branch = true)
    (po_Branch : PySem.W.plainOver K C_Branch = true)
    (sa_Branch : PySem.W.findIn K (.ref C_Branch) "__setattr__" = some (some (.builtin "object.__setattr__")))
    (mk_Branch : PySem.W.makesIn K C_Branch = true)
    (kc_Branch : PySem.W.keepIn K (.ref C_Branch) = true)
    (i_Branch_init : PySem.W.findIn K (.ref C_Branch) "__init__" = some (some (.ref f_Branch_init)))
    (fn_Branch_init : PySem.W.isFn K (.ref f_Branch_init) = true)
    (l_Branch_init : K.lookup f_Branch_init = some ⟨oc_Branch_init, od_Branch_init, .func (PySem.W.fnOf "__init__" "Branch.__init__" (defArgs sBranchInit) (defBody sBranchInit) (defScope sBranchInit) .none kV_Branch_init dc_Branch_init pm_Branch_init an_Branch_init cd_Branch_init ct_Branch_init), sl_Branch_init⟩)
    (c_Branch_init : PySem.W.codeIn K cd_Branch_init "Branch.__init__" = true)
    (k_Branch_init : PySem.W.keepIn K (.ref f_Branch_init) = true)
    (a_Leaf : PySem.W.nsIn K mainGlobals "Leaf" = some (some (.ref C_Leaf)))
    (pg_Leaf : PySem.W.plainGet K C_Leaf Str.empty = true)
    (hd_Leaf : PySem.W.hasDictIn K C_Leaf = true)
    (po_Leaf : PySem.W.plainOver K C_Leaf = true)
    (sa_Leaf : PySem.W.findIn K (.ref C_Leaf) "__setattr__" = some (some (.builtin "object.__setattr__")))
    (mk_Leaf : PySem.W.makesIn K C_Leaf = true)
    (kc_Leaf : PySem.W.keepIn K (.ref C_Leaf) = true)
    (n_Leaf_name : PySem.W.findIn K (.ref C_Leaf) "name" = some none)
    (i_Leaf_init : PySem.W.findIn K (.ref C_Leaf) "__init__" = some (some (.ref f_Leaf_init)))
    (fn_Leaf_init : PySem.W.isFn K (.ref f_Leaf_init) = true)
    (l_Leaf_init : K.lookup f_Leaf_init = some ⟨oc_Leaf_init, od_Leaf_init, .func (PySem.W.fnOf "__init__" "Leaf.__init__" (defArgs sLeafInit) (defBody sLeafInit) (defScope sLeafInit) .none kV_Leaf_init dc_Leaf_init pm_Leaf_init an_Leaf_init cd_Leaf_init ct_Leaf_init), sl_Leaf_init⟩)
    (c_Leaf_init : PySem.W.codeIn K cd_Leaf_init "Leaf.__init__" = true)
    (k_Leaf_init : PySem.W.keepIn K (.ref f_Leaf_init) = true)
    (i_Leaf_leaves : PySem.W.findIn K (.ref C_Leaf) "leaves" = some (some (.ref f_Leaf_leaves)))
    (fn_Leaf_leaves : PySem.W.isFn K (.ref f_Leaf_leaves) = true)
    (l_Leaf_leaves : K.lookup f_Leaf_leaves = some ⟨oc_Leaf_leaves, od_Leaf_leaves, .func (PySem.W.fnOf "leaves" "Leaf.leaves" (defArgs sLeafLeaves) (defBody sLeafLeaves) (defScope sLeafLeaves) .none kV_Leaf_leaves dc_Leaf_leaves pm_Leaf_leaves an_Leaf_leaves cd_Leaf_leaves ct_Leaf_leaves), sl_Leaf_leaves⟩)
    (c_Leaf_leaves : PySem.W.codeIn K cd_Leaf_leaves "Leaf.leaves" = true)
    (k_Leaf_leaves : PySem.W.keepIn K (.ref f_Leaf_leaves) = true)
    (i_Leaf_begins : PySem.W.findIn K (.ref C_Leaf) "begins" = some (some (.ref f_Leaf_begins)))
    (fn_Leaf_begins : PySem.W.isFn K (.ref f_Leaf_begins) = true)
    (l_Leaf_begins : K.lookup f_Leaf_begins = some ⟨oc_Leaf_begins, od_Leaf_begins, .func (PySem.W.fnOf "begins" "Leaf.begins" (defArgs sLeafBegins) (defBody sLeafBegins) (defScope sLeafBegins) .none kV_Leaf_begins dc_Leaf_begins pm_Leaf_begins an_Leaf_begins cd_Leaf_begins ct_Leaf_begins), sl_Leaf_begins⟩)
    (c_Leaf_begins : PySem.W.codeIn K cd_Leaf_begins "Leaf.begins" = true)
    (k_Leaf_begins : PySem.W.keepIn K (.ref f_Leaf_begins) = true)
    (a_Group : PySem.W.nsIn K mainGlobals "Group" = some (some (.ref C_Group)))
    (pg_Group : PySem.W.plainGet K C_Group Str.empty = true)
    (hd_Group : PySem.W.hasDictIn K C_Group = true)
    (po_Group : PySem.W.plainOver K C_Group = true)
    (sa_Group : PySem.W.findIn K (.ref C_Group) "__setattr__" = some (some (.builtin "object.__setattr__")))
    (kc_Group : PySem.W.keepIn K (.ref C_Group) = true)
    (n_Group_parts : PySem.W.findIn K (.ref C_Group) "parts" = some none)
    (i_Group_leaves : PySem.W.findIn K (.ref C_Group) "leaves" = some (some (.ref f_Group_leaves)))
    (fn_Group_leaves : PySem.W.isFn K (.ref f_Group_leaves) = true)
    (l_Group_leaves : K.lookup f_Group_leaves = some ⟨oc_Group_leaves, od_Group_leaves, .func (PySem.W.fnOf "leaves" "Group.leaves" (defArgs sGroupLeaves) (defBody sGroupLeaves) (defScope sGroupLeaves) .none kV_Group_leaves dc_Group_leaves pm_Group_leaves an_Group_leaves cd_Group_leaves ct_Group_leaves), sl_Group_leaves⟩)
    (c_Group_leaves : PySem.W.codeIn K cd_Group_leaves "Group.leaves" = true)
    (k_Group_leaves : PySem.W.keepIn K (.ref f_Group_leaves) = true)
    (i_Group_begins : PySem.W.findIn K (.ref C_Group) "begins" = some (some (.ref f_Group_begins)))
    (fn_Group_begins : PySem.W.isFn K (.ref f_Group_begins) = true)
    (l_Group_begins : K.lookup f_Group_begins = some ⟨oc_Group_begins, od_Group_begins, .func (PySem.W.fnOf "begins" "Group.begins" (defArgs sGroupBegins) (defBody sGroupBegins) (defScope sGroupBegins) .none kV_Group_begins dc_Group_begins pm_Group_begins an_Group_begins cd_Group_begins ct_Group_begins), sl_Group_begins⟩)
    (c_Group_begins : PySem.W.codeIn K cd_Group_begins "Group.begins" = true)
    (k_Group_begins : PySem.W.keepIn K (.ref f_Group_begins) = true)
    (a_Row : PySem.W.nsIn K mainGlobals "Row" = some (some (.ref C_Row)))
    (pg_Row : PySem.W.plainGet K C_Row Str.empty = true)
    (hd_Row : PySem.W.hasDictIn K C_Row = true)
    (po_Row : PySem.W.plainOver K C_Row = true)
    (sa_Row : PySem.W.findIn K (.ref C_Row) "__setattr__" = some (some (.builtin "object.__setattr__")))
    (kc_Row : PySem.W.keepIn K (.ref C_Row) = true)
    (n_Row_parts : PySem.W.findIn K (.ref C_Row) "parts" = some none)
    (i_Row_leaves : PySem.W.findIn K (.ref C_Row) "leaves" = some (some (.ref f_Row_leaves)))
    (fn_Row_leaves : PySem.W.isFn K (.ref f_Row_leaves) = true)
    (l_Row_leaves : K.lookup f_Row_leaves = some ⟨oc_Row_leaves, od_Row_leaves, .func (PySem.W.fnOf "leaves" "Row.leaves" (defArgs sRowLeaves) (defBody sRowLeaves) (defScope sRowLeaves) .none kV_Row_leaves dc_Row_leaves pm_Row_leaves an_Row_leaves cd_Row_leaves ct_Row_leaves), sl_Row_leaves⟩)
    (c_Row_leaves : PySem.W.codeIn K cd_Row_leaves "Row.leaves" = true)
    (k_Row_leaves : PySem.W.keepIn K (.ref f_Row_leaves) = true)
    (i_Row_begins : PySem.W.findIn K (.ref C_Row) "begins" = some (some (.ref f_Row_begins)))
    (fn_Row_begins : PySem.W.isFn K (.ref f_Row_begins) = true)
    (l_Row_begins : K.lookup f_Row_begins = some ⟨oc_Row_begins, od_Row_begins, .func (PySem.W.fnOf "begins" "Row.begins" (defArgs sRowBegins) (defBody sRowBegins) (defScope sRowBegins) .none kV_Row_begins dc_Row_begins pm_Row_begins an_Row_begins cd_Row_begins ct_Row_begins), sl_Row_begins⟩)
    (c_Row_begins : PySem.W.codeIn K cd_Row_begins "Row.begins" = true)
    (k_Row_begins : PySem.W.keepIn K (.ref f_Row_begins) = true)
    (q_eq_Leaf : PySem.W.findIn K (.ref C_Leaf) "__eq__" = some (some (.builtin "object.__eq__")))
    (q_eq_Group : PySem.W.findIn K (.ref C_Group) "__eq__" = some (some (.builtin "object.__eq__")))
    (q_eq_Row : PySem.W.findIn K (.ref C_Row) "__eq__" = some (some (.builtin "object.__eq__")))
    (q_mro_Leaf : PySem.W.mroIn K C_Leaf (.type "object") = some true)
    (q_mro_Group : PySem.W.mroIn K C_Group (.type "object") = some true)
    (q_mro_Row : PySem.W.mroIn K C_Row (.type "object") = some true)
    (q_s_Leaf_Group : PySem.W.subIn K (.ref C_Leaf) (.ref C_Group) = some false)
    (q_s_Leaf_Row : PySem.W.subIn K (.ref C_Leaf) (.ref C_Row) = some false)
    (q_s_Group_Leaf : PySem.W.subIn K (.ref C_Group) (.ref C_Leaf) = some false)
    (q_s_Group_Row : PySem.W.subIn K (.ref C_Group) (.ref C_Row) = some false)
    (q_s_Row_Leaf : PySem.W.subIn K (.ref C_Row) (.ref C_Leaf) = some false)
    (q_s_Row_Group : PySem.W.subIn K (.ref C_Row) (.ref C_Group) = some false)
    (q_mk_Group : PySem.W.makesIn K C_Group = true)
    (q_mk_Row : PySem.W.makesIn K C_Row = true)
    (q_i_Group : PySem.W.findIn K (.ref C_Group) "__init__" = some (some (.ref f_Branch_init)))
    (q_i_Row : PySem.W.findIn K (.ref C_Row) "__init__" = some (some (.ref f_Branch_init)))
    (q_lg : C_Leaf ≠ C_Group)
    (q_lr : C_Leaf ≠ C_Row)
    (q_gr : C_Group ≠ C_Row)
    (z_len : PySem.W.nsIn K mainGlobals "len" = some none)
    (z_int : PySem.W.nsIn K mainGlobals "int" = some none)
    (z_abs : PySem.W.nsIn K mainGlobals "abs" = some none)
    (z_isinstance : PySem.W.nsIn K mainGlobals "isinstance" = some none)
    (z_str : PySem.W.nsIn K mainGlobals "str" = some none)
    (z_list : PySem.W.nsIn K mainGlobals "list" = some none)
    (z_range : PySem.W.nsIn K mainGlobals "range" = some none)
    (z_tuple : PySem.W.nsIn K mainGlobals "tuple" = some none)
    (z_bool : PySem.W.nsIn K mainGlobals "bool" = some none)
    (z_min : PySem.W.nsIn K mainGlobals "min" = some none)
    (z_max : PySem.W.nsIn K mainGlobals "max" = some none) :
    ∃ fd : FuncData, (∀ (s : Shared) (v : Value), BindsTo s fd ⟨[v], []⟩ [("_law_script", v)]) ∧ ∀ base : Heap, K.In base → base.Ns mainGlobals mg → FnOk l.prog w K mg base CX0 12 fa fd ["_law_script"] (spLaw11 K) := by
  have e := hfa.symm.trans (PySem.W.mg_of X G a_law)
  cases e
  have n_len := PySem.W.mg_none_of X G z_len
  have n_int := PySem.W.mg_none_of X G z_int
  have n_abs := PySem.W.mg_none_of X G z_abs
  have n_isinstance := PySem.W.mg_none_of X G z_isinstance
  have n_str := PySem.W.mg_none_of X G z_str
  have n_list := PySem.W.mg_none_of X G z_list
  have n_range := PySem.W.mg_none_of X G z_range
  have n_tuple := PySem.W.mg_none_of X G z_tuple
  have n_bool := PySem.W.mg_none_of X G z_bool
  have n_min := PySem.W.mg_none_of X G z_min
  have n_max := PySem.W.mg_none_of X G z_max
  have TB : TxtB mg := ⟨n_len, n_int, n_abs⟩
  have TM : TxtM mg := ⟨n_range, n_len, n_str⟩
  have TS : TxtS mg := ⟨n_isinstance, n_bool, n_int, n_tuple, n_list, n_len⟩
  have TL : TxtL11 mg := ⟨n_len, n_list, n_tuple⟩
  have TSh : TxtSh mg := ⟨n_len, n_min, n_max, n_range, n_tuple⟩
  have TW : TxtW mg := ⟨n_range, n_list⟩
  have TE : TxtE mg := ⟨n_isinstance, n_str, n_len, n_list⟩
  have TNd : TxtNd mg := ⟨n_tuple, n_list, n_len⟩
  have cL : Cls K C_Leaf := ⟨pg_Leaf, hd_Leaf, po_Leaf, sa_Leaf⟩
  have cG : Cls K C_Group := ⟨pg_Group, hd_Group, po_Group, sa_Group⟩
  have cR : Cls K C_Row := ⟨pg_Row, hd_Row, po_Row, sa_Row⟩
  have NF : NFacts K ⟨C_Leaf, C_Group, C_Row⟩ := nf_mk cL cG cR n_Leaf_name n_Group_parts n_Row_parts q_eq_Leaf q_eq_Group q_eq_Row q_mro_Leaf q_mro_Group q_mro_Row q_s_Leaf_Group q_s_Group_Leaf q_s_Leaf_Row q_s_Row_Leaf q_s_Group_Row q_s_Row_Group q_lg q_lr q_gr
  have TNo : TxtNo K mg ⟨C_Leaf, C_Group, C_Row⟩ := ⟨n_isinstance, n_str, n_len, PySem.W.mg_of X G a_Leaf, PySem.W.mg_of X G a_Group, PySem.W.mg_of X G a_Row⟩
  have F_leaves_of := fun_mk (st := sLeavesOf) l_leaves_of c_leaves_of k_leaves_of
  have b_leaves_of := F_leaves_of.binds (ps := ["parts"]) fun _ _ _ _ _ _ us hl => match us, hl with | [_], _ => rfl
  have F_parts_as_named := fun_mk (st := sPartsAsNamed) l_parts_as_named c_parts_as_named k_parts_as_named
  have b_parts_as_named := F_parts_as_named.binds (ps := ["parts", "prefix"]) fun _ _ _ _ _ _ us hl => match us, hl with | [_, _], _ => rfl
  have F_begin_in_turn := fun_mk (st := sBeginInTurn) l_begin_in_turn c_begin_in_turn k_begin_in_turn
  have b_begin_in_turn := F_begin_in_turn.binds (ps := ["parts", "prefix"]) fun _ _ _ _ _ _ us hl => match us, hl with | [_, _], _ => rfl
  have F_law_bag := fun_mk (st := sBag) l_law_bag c_law_bag k_law_bag
  have b_law_bag := F_law_bag.binds (ps := ["_law_script"]) fun _ _ _ _ _ _ us hl => match us, hl with | [_], _ => rfl
  have F_law_take := fun_mk (st := sTake) l_law_take c_law_take k_law_take
  have b_law_take := F_law_take.binds (ps := ["_law_bag_here", "_law_size"]) fun _ _ _ _ _ _ us hl => match us, hl with | [_, _], _ => rfl
  have F_law_is := fun_mk (st := sLawIs) l_law_is c_law_is k_law_is
  have b_law_is := F_law_is.binds (ps := ["_law_value", "_law_due"]) fun _ _ _ _ _ _ us hl => match us, hl with | [_, _], _ => rfl
  have F_law_name := fun_mk (st := sLawName) l_law_name c_law_name k_law_name
  have b_law_name := F_law_name.binds (ps := ["_law_bag_here", "_law_used"]) fun _ _ _ _ _ _ us hl => match us, hl with | [_, _], _ => rfl
  have F_law_names := fun_mk (st := sLawNames) l_law_names c_law_names k_law_names
  have b_law_names := F_law_names.binds (ps := ["_law_bag_here", "_law_count"]) fun _ _ _ _ _ _ us hl => match us, hl with | [_, _], _ => rfl
  have F_law_shape := fun_mk (st := sLawShape) l_law_shape c_law_shape k_law_shape
  have b_law_shape := F_law_shape.binds (ps := ["_law_bag_here", "_law_names_here"]) fun _ _ _ _ _ _ us hl => match us, hl with | [_, _], _ => rfl
  have F_law_node := fun_mk (st := sLawNode) l_law_node c_law_node k_law_node
  have b_law_node := F_law_node.binds (ps := ["_law_shape_here"]) fun _ _ _ _ _ _ us hl => match us, hl with | [_], _ => rfl
  have F_law_ways := fun_mk (st := sLawWays) l_law_ways c_law_ways k_law_ways
  have b_law_ways := F_law_ways.binds (ps := ["_law_kind", "_law_count"]) fun _ _ _ _ _ _ us hl => match us, hl with | [_, _], _ => rfl
  have F_law_expand := fun_mk (st := sLawExpand) l_law_expand c_law_expand k_law_expand
  have b_law_expand := F_law_expand.binds (ps := ["_law_shape_here"]) fun _ _ _ _ _ _ us hl => match us, hl with | [_], _ => rfl
  have F_Leaf_init := fun_mk (st := sLeafInit) l_Leaf_init c_Leaf_init k_Leaf_init
  have b_Leaf_init := F_Leaf_init.binds (ps := ["self", "name"]) fun _ _ _ _ _ _ us hl => match us, hl with | [_, _], _ => rfl
  have F_Branch_init := fun_mk (st := sBranchInit) l_Branch_init c_Branch_init k_Branch_init
  have F_Leaf_leaves := fun_mk (st := sLeafLeaves) l_Leaf_leaves c_Leaf_leaves k_Leaf_leaves
  have b_Leaf_leaves := F_Leaf_leaves.binds (ps := ["self"]) fun _ _ _ _ _ _ us hl => match us, hl with | [_], _ => rfl
  have F_Leaf_begins := fun_mk (st := sLeafBegins) l_Leaf_begins c_Leaf_begins k_Leaf_begins
  have b_Leaf_begins := F_Leaf_begins.binds (ps := ["self", "prefix"]) fun _ _ _ _ _ _ us hl => match us, hl with | [_, _], _ => rfl
  have F_Group_leaves := fun_mk (st := sGroupLeaves) l_Group_leaves c_Group_leaves k_Group_leaves
  have b_Group_leaves := F_Group_leaves.binds (ps := ["self"]) fun _ _ _ _ _ _ us hl => match us, hl with | [_], _ => rfl
  have F_Group_begins := fun_mk (st := sGroupBegins) l_Group_begins c_Group_begins k_Group_begins
  have b_Group_begins := F_Group_begins.binds (ps := ["self", "prefix"]) fun _ _ _ _ _ _ us hl => match us, hl with | [_, _], _ => rfl
  have F_Row_leaves := fun_mk (st := sRowLeaves) l_Row_leaves c_Row_leaves k_Row_leaves
  have b_Row_leaves := F_Row_leaves.binds (ps := ["self"]) fun _ _ _ _ _ _ us hl => match us, hl with | [_], _ => rfl
  have F_Row_begins := fun_mk (st := sRowBegins) l_Row_begins c_Row_begins k_Row_begins
  have b_Row_begins := F_Row_begins.binds (ps := ["self", "prefix"]) fun _ _ _ _ _ _ us hl => match us, hl with | [_, _], _ => rfl
  have NT : NodeT K mg ⟨C_Leaf, C_Group, C_Row⟩ := ⟨NF, TNd, ⟨_, _, ⟨i_Leaf_leaves, fn_Leaf_leaves, F_Leaf_leaves.kp⟩, b_Leaf_leaves, F_Leaf_leaves⟩, ⟨_, _, ⟨i_Group_leaves, fn_Group_leaves, F_Group_leaves.kp⟩, b_Group_leaves, F_Group_leaves⟩, ⟨_, _, ⟨i_Row_leaves, fn_Row_leaves, F_Row_leaves.kp⟩, b_Row_leaves, F_Row_leaves⟩, ⟨_, _, ⟨i_Leaf_begins, fn_Leaf_begins, F_Leaf_begins.kp⟩, b_Leaf_begins, F_Leaf_begins⟩, ⟨_, _, ⟨i_Group_begins, fn_Group_begins, F_Group_begins.kp⟩, b_Group_begins, F_Group_begins⟩, ⟨_, _, ⟨i_Row_begins, fn_Row_begins, F_Row_begins.kp⟩, b_Row_begins, F_Row_begins⟩, ⟨_, _, PySem.W.mg_of X G a_leaves_of, F_leaves_of.kp, b_leaves_of, F_leaves_of⟩, ⟨_, _, PySem.W.mg_of X G a_parts_as_named, F_parts_as_named.kp, b_parts_as_named, F_parts_as_named⟩, ⟨_, _, PySem.W.mg_of X G a_begin_in_turn, F_begin_in_turn.kp, b_begin_in_turn, F_begin_in_turn⟩⟩
  refine ⟨_, fun s v => .of_eq rfl, fun base _ _ => ok_law11 (fun_mk (st := sLaw) l_law c_law k_law) TL NF ?_ ?_ ?_ ?_ ?_ ?_ ?_ (nodes_all NT 5)⟩
  · exact ⟨_, _, PySem.W.mg_of X G a_law_bag, F_law_bag.kp, b_law_bag, ok_bag F_law_bag TB⟩
  · exact ⟨_, _, PySem.W.mg_of X G a_law_take, F_law_take.kp, b_law_take, ok_take F_law_take TB⟩
  · have gT : Dfn l.prog w K mg base CX0 1 "_law_take" ["_law_bag_here", "_law_size"] spTake := ⟨_, _, PySem.W.mg_of X G a_law_take, F_law_take.kp, b_law_take, ok_take F_law_take TB⟩
    have g1 : Dfn l.prog w K mg base CX0 2 "_law_name" ["_law_bag_here", "_law_used"] spName := ⟨_, _, PySem.W.mg_of X G a_law_name, F_law_name.kp, b_law_name, ok_name F_law_name TM gT⟩
    exact ⟨_, _, PySem.W.mg_of X G a_law_names, F_law_names.kp, b_law_names, ok_names F_law_names TM g1⟩
  · have gT : Dfn l.prog w K mg base CX0 1 "_law_take" ["_law_bag_here", "_law_size"] spTake := ⟨_, _, PySem.W.mg_of X G a_law_take, F_law_take.kp, b_law_take, ok_take F_law_take TB⟩
    exact ⟨_, _, PySem.W.mg_of X G a_law_shape, F_law_shape.kp, b_law_shape, ok_shape F_law_shape TSh gT (PySem.W.mg_of X G a_law_shape) b_law_shape 5 (by decide)⟩
  · exact ⟨_, _, PySem.W.mg_of X G a_law_node, F_law_node.kp, b_law_node, ok_node F_law_node TNo NF ⟨_, _, ⟨mk_Leaf, i_Leaf_init, fn_Leaf_init, kc_Leaf⟩, b_Leaf_init, ok_leafinit F_Leaf_init NF⟩ ⟨_, ⟨q_mk_Group, q_i_Group, fn_Branch_init, kc_Group⟩, ok_branch F_Branch_init NF false⟩ ⟨_, ⟨q_mk_Row, q_i_Row, fn_Branch_init, kc_Row⟩, ok_branch F_Branch_init NF true⟩ (PySem.W.mg_of X G a_law_node) b_law_node 5⟩
  · have gW : Dfn l.prog w K mg base CX0 1 "_law_ways" ["_law_kind", "_law_count"] spWays := ⟨_, _, PySem.W.mg_of X G a_law_ways, F_law_ways.kp, b_law_ways, ok_ways F_law_ways TW⟩
    exact ⟨_, _, PySem.W.mg_of X G a_law_expand, F_law_expand.kp, b_law_expand, ok_expand F_law_expand TE gW (PySem.W.mg_of X G a_law_expand) b_law_expand 5⟩
  · exact ⟨_, _, PySem.W.mg_of X G a_law_is, F_law_is.kp, b_law_is, ok_is F_law_is TS⟩
theorem walk {l : PySem.W.OpenLaw} {q : Program} {loose : List Str} {XP : (Str → Option Value) → Heap → Prop} {YP : World → Heap → Prop} {d : DefRec} {K : Params → PySem.W.Frag} (hn : l.most = some 63) (hdf : d.params.defaults = [])
    (hY : ∀ (w : World) (h : Heap), YP w h → (K w.params).In h)
    (F : ∀ (w : World) (mg : Str → Option Value) (fa : Addr) (h : Heap), (K w.params).In h → h.Ns mainGlobals mg → mg d.name = some (.ref fa) →
      ∃ fd : FuncData, (∀ (s : Shared) (u : Value), BindsTo s fd ⟨[u], []⟩ [("_law_script", u)]) ∧ ∀ base : Heap, (K w.params).In base → base.Ns mainGlobals mg → FnOk l.prog w (K w.params) mg base CX0 12 fa fd ["_law_script"] (spLaw11 (K w.params))) :
    PySem.W.WalkO q loose XP YP l.row.toRowW d [] (fun f vs => PySem.call f vs) :=
  walk_of (n := 63) (k := 12) (x := "_law_script") (CX := fun _ => CX0) (sp := fun w => spLaw11 (K w.params)) hn (by decide) hdf ⟨rfl, by decide, by decide⟩ hY F
    (fun _ _ a ns hl _ hS => ⟨a, ns, rfl, hS, hl, fun _ => rfl⟩) fun _ _ _ _ _ z => z
end Dl

open PySem PySem.W PyProof.Rows in
set_option maxRecDepth 100000 in
set_option maxHeartbeats 0 in
theorem PySem.Challenge.cw_dimmerlog_k11_prefixes_of_nodes_holds : PySem.Challenge.rw_dimmerlog_k11_prefixes_of_nodes.Holds := by
  w_on; o_law; k_head; (case hw => w_witness2)
  k_fill
  refine Dl.walk (l := PySem.Challenge.rw_dimmerlog_k11_prefixes_of_nodes) rfl rfl (fun w h Y => PySem.W.kIn_of Y) ?F
  case F =>
    intro w mg fa h KX G hmg
    refine' Dl.all_mk KX G hmg ?a_leaves_of ?l_leaves_of ?c_leaves_of ?k_leaves_of ?a_parts_as_named ?l_parts_as_named ?c_parts_as_named ?k_parts_as_named ?a_begin_in_turn ?l_begin_in_turn ?c_begin_in_turn ?k_begin_in_turn ?a_law_bag ?l_law_bag ?c_law_bag ?k_law_bag ?a_law_take ?l_law_take ?c_law_take ?k_law_take ?a_law_is ?l_law_is ?c_law_is ?k_law_is ?a_law_name ?l_law_name ?c_law_name ?k_law_name ?a_law_names ?l_law_names ?c_law_names ?k_law_names ?a_law_shape ?l_law_shape ?c_law_shape ?k_law_shape ?a_law_node ?l_law_node ?c_law_node ?k_law_node ?a_law_ways ?l_law_ways ?c_law_ways ?k_law_ways ?a_law_expand ?l_law_expand ?c_law_expand ?k_law_expand ?a_law ?l_law ?c_law ?k_law ?a_Branch ?pg_Branch ?hd_Branch ?po_Branch ?sa_Branch ?mk_Branch ?kc_Branch ?i_Branch_init ?fn_Branch_init ?l_Branch_init ?c_Branch_init ?k_Branch_init ?a_Leaf ?pg_Leaf ?hd_Leaf ?po_Leaf ?sa_Leaf ?mk_Leaf ?kc_Leaf ?n_Leaf_name ?i_Leaf_init ?fn_Leaf_init ?l_Leaf_init ?c_Leaf_init ?k_Leaf_init ?i_Leaf_leaves ?fn_Leaf_leaves ?l_Leaf_leaves ?c_Leaf_leaves ?k_Leaf_leaves ?i_Leaf_begins ?fn_Leaf_begins ?l_Leaf_begins ?c_Leaf_begins ?k_Leaf_begins ?a_Group ?pg_Group ?hd_Group ?po_Group ?sa_Group ?kc_Group ?n_Group_parts ?i_Group_leaves ?fn_Group_leaves ?l_Group_leaves ?c_Group_leaves ?k_Group_leaves ?i_Group_begins ?fn_Group_begins ?l_Group_begins ?c_Group_begins ?k_Group_begins ?a_Row ?pg_Row ?hd_Row ?po_Row ?sa_Row ?kc_Row ?n_Row_parts ?i_Row_leaves ?fn_Row_leaves ?l_Row_leaves ?c_Row_leaves ?k_Row_leaves ?i_Row_begins ?fn_Row_begins ?l_Row_begins ?c_Row_begins ?k_Row_begins ?q_eq_Leaf ?q_eq_Group ?q_eq_Row ?q_mro_Leaf ?q_mro_Group ?q_mro_Row ?q_s_Leaf_Group ?q_s_Leaf_Row ?q_s_Group_Leaf ?q_s_Group_Row ?q_s_Row_Leaf ?q_s_Row_Group ?q_mk_Group ?q_mk_Row ?q_i_Group ?q_i_Row ?q_lg ?q_lr ?q_gr ?z_len ?z_int ?z_abs ?z_isinstance ?z_str ?z_list ?z_range ?z_tuple ?z_bool ?z_min ?z_max
    (case a_leaves_of => k_is)
    (case l_leaves_of => k_is)
    (case c_leaves_of => k_is)
    (case k_leaves_of => k_is)
    (case a_parts_as_named => k_is)
    (case l_parts_as_named => k_is)
    (case c_parts_as_named => k_is)
    (case k_parts_as_named => k_is)
    (case a_begin_in_turn => k_is)
    (case l_begin_in_turn => k_is)
    (case c_begin_in_turn => k_is)
    (case k_begin_in_turn => k_is)
    (case a_law_bag => k_is)
    (case l_law_bag => k_is)
    (case c_law_bag => k_is)
    (case k_law_bag => k_is)
    (case a_law_take => k_is)
    (case l_law_take => k_is)
    (case c_law_take => k_is)
    (case k_law_take => k_is)
    (case a_law_is => k_is)
    (case l_law_is => k_is)
    (case c_law_is => k_is)
    (case k_law_is => k_is)
    (case a_law_name => k_is)
    (case l_law_name => k_is)
    (case c_law_name => k_is)
    (case k_law_name => k_is)
    (case a_law_names => k_is)
    (case l_law_names => k_is)
    (case c_law_names => k_is)
    (case k_law_names => k_is)
    (case a_law_shape => k_is)
    (case l_law_shape => k_is)
    (case c_law_shape => k_is)
    (case k_law_shape => k_is)
    (case a_law_node => k_is)
    (case l_law_node => k_is)
    (case c_law_node => k_is)
    (case k_law_node => k_is)
    (case a_law_ways => k_is)
    (case l_law_ways => k_is)
    (case c_law_ways => k_is)
    (case k_law_ways => k_is)
    (case a_law_expand => k_is)
    (case l_law_expand => k_is)
    (case c_law_expand => k_is)
    (case k_law_expand => k_is)
    (case a_law => k_is)
    (case l_law => k_is)
    (case c_law => k_is)
    (case k_law => k_is)
    (case a_Branch => k_is)
    (case pg_Branch => k_is)
    (case hd_Branch => k_is)
    (case po_Branch => k_is)
    (case sa_Branch => k_is)
    (case mk_Branch => k_is)
    (case kc_Branch => k_is)
    (case i_Branch_init => k_is)
    (case fn_Branch_init => k_is)
    (case l_Branch_init => k_is)
    (case c_Branch_init => k_is)
    (case k_Branch_init => k_is)
    (case a_Leaf => k_is)
    (case pg_Leaf => k_is)
    (case hd_Leaf => k_is)
    (case po_Leaf => k_is)
    (case sa_Leaf => k_is)
    (case mk_Leaf => k_is)
    (case kc_Leaf => k_is)
    (case n_Leaf_name => k_is)
    (case i_Leaf_init => k_is)
    (case fn_Leaf_init => k_is)
    (case l_Leaf_init => k_is)
    (case c_Leaf_init => k_is)
    (case k_Leaf_init => k_is)
    (case i_Leaf_leaves => k_is)
    (case fn_Leaf_leaves => k_is)
    (case l_Leaf_leaves => k_is)
    (case c_Leaf_leaves => k_is)
    (case k_Leaf_leaves => k_is)
    (case i_Leaf_begins => k_is)
    (case fn_Leaf_begins => k_is)
    (case l_Leaf_begins => k_is)
    (case c_Leaf_begins => k_is)
    (case k_Leaf_begins => k_is)
    (case a_Group => k_is)
    (case pg_Group => k_is)
    (case hd_Group => k_is)
    (case po_Group => k_is)
    (case sa_Group => k_is)
    (case kc_Group => k_is)
    (case n_Group_parts => k_is)
    (case i_Group_leaves => k_is)
    (case fn_Group_leaves => k_is)
    (case l_Group_leaves => k_is)
    (case c_Group_leaves => k_is)
    (case k_Group_leaves => k_is)
    (case i_Group_begins => k_is)
    (case fn_Group_begins => k_is)
    (case l_Group_begins => k_is)
    (case c_Group_begins => k_is)
    (case k_Group_begins => k_is)
    (case a_Row => k_is)
    (case pg_Row => k_is)
    (case hd_Row => k_is)
    (case po_Row => k_is)
    (case sa_Row => k_is)
    (case kc_Row => k_is)
    (case n_Row_parts => k_is)
    (case i_Row_leaves => k_is)
    (case fn_Row_leaves => k_is)
    (case l_Row_leaves => k_is)
    (case c_Row_leaves => k_is)
    (case k_Row_leaves => k_is)
    (case i_Row_begins => k_is)
    (case fn_Row_begins => k_is)
    (case l_Row_begins => k_is)
    (case c_Row_begins => k_is)
    (case k_Row_begins => k_is)
    (case q_eq_Leaf => (first | k_is | rfl))
    (case q_eq_Group => (first | k_is | rfl))
    (case q_eq_Row => (first | k_is | rfl))
    (case q_mro_Leaf => (first | k_is | rfl))
    (case q_mro_Group => (first | k_is | rfl))
    (case q_mro_Row => (first | k_is | rfl))
    (case q_s_Leaf_Group => (first | k_is | rfl))
    (case q_s_Leaf_Row => (first | k_is | rfl))
    (case q_s_Group_Leaf => (first | k_is | rfl))
    (case q_s_Group_Row => (first | k_is | rfl))
    (case q_s_Row_Leaf => (first | k_is | rfl))
    (case q_s_Row_Group => (first | k_is | rfl))
    (case q_mk_Group => (first | k_is | rfl))
    (case q_mk_Row => (first | k_is | rfl))
    (case q_i_Group => (first | k_is | rfl))
    (case q_i_Row => (first | k_is | rfl))
    (case q_lg => (first | decide | k_is))
    (case q_lr => (first | decide | k_is))
    (case q_gr => (first | decide | k_is))
    (case z_len => k_is)
    (case z_int => k_is)
    (case z_abs => k_is)
    (case z_isinstance => k_is)
    (case z_str => k_is)
    (case z_list => k_is)
    (case z_range => k_is)
    (case z_tuple => k_is)
    (case z_bool => k_is)
    (case z_min => k_is)
    (case z_max => k_is)
