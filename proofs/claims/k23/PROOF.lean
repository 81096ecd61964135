import PyProof.Rows.All
import Wide.All
import OpenK.AllK
import Wide.FinOn
import HandS.ForMost
import HandS.Exc
import HandS.TryOnly
import HandS.ExcOwn
import HandS.WordsExc
import HandS.ExcInit
import HandS.ExcField
import HandS.IsInst
import HandS.Walk
import HandS.Conv
import HandS.Wide
import HandS.TryMany
import HandS.CallSlots
import HandS.Flow
import HandS.Deep
import HandS.Star
import HandS.MethStar
import HandS.ExcIs
import HandS.Rev
import HandS.More
import KE.GoesEnum
import KE.GoesMore
import HandS.ListEq
import HandS.DictEq
import HandS.DeepEq
import HandS.OwnEq
import HandS.Codes
import KE.KExcIs
import HandS.DictComp
import HandS.Dict
import HandS.NoneIn
import HandS.TupSets
import HandS.Text
import HandS.Property
import KE.SortData
import HandS.TupAny
import PyProof.P3In
import HandS.FStr
import HandS.DictTup
import KE.KDictDisplayH
import KE.KDictCopyH
import KE.KDictSum
import PyProof.DictMoreH
import HandS.Style
import KE.KRevSl
import PyProof.InstEq
import HandS.CallLocal
import HandS.Gcd
import KE.SortKeyHeap
import HandS.Head0
import HandS.Head1
import HandS.Head2
import HandS.Head3
import HandS.HeadEnd
import HandS.HeadHook1
import HandS.HeadHook2
import HandS.HeadHook3
import HandS.SortKw
import KE.DataMinMax
import HandS.RaiseMore
import HandS.ClsMeth
import KE.GoesComp
import KE.GoesRaise
import HandS.Strs
import KE.KOpsOwn
import HandS.RevTup
import HandS.Finally
import KE.KDictList
import HandS.TupLe
import PySem.Challenge.RW_dimmerlog_k23_whole_tied_is_forced
set_option Elab.async false
set_option linter.all false
set_option maxRecDepth 100000
set_option maxHeartbeats 4000000
namespace Dl
open PySem L2
def top (i : Nat) : Stmt := PySem.Challenge.pw_dimmerlog_k23_whole_tied_is_forced.main.body.getD i (.Pass ⟨0, 0, 0, 0⟩)
abbrev sWall : Stmt := top 0
abbrev sInv : Stmt := inClass (top 3) 0
abbrev sDup : Stmt := inClass (top 4) 0
abbrev sUnk : Stmt := inClass (top 5) 0
abbrev sInvalidNoteInit : Stmt := inClass (top 6) 0
abbrev sLine : Stmt := inClass (top 7) 0
abbrev sMany : Stmt := inClass (top 8) 0
abbrev sIsName : Stmt := top 12
abbrev sCheckName : Stmt := top 13
abbrev sCheckNew : Stmt := top 14
abbrev sCheckKnown : Stmt := top 15
abbrev sCheckAll : Stmt := top 16
abbrev sDistinct : Stmt := top 17
abbrev sTied : Stmt := top 19
abbrev sCheckPair : Stmt := top 20
abbrev sReached : Stmt := top 21
abbrev sLeads : Stmt := top 22
abbrev sTabInit : Stmt := inClass (top 25) 0
abbrev sTableRead : Stmt := inClass (top 25) 1
abbrev sTableStr : Stmt := inClass (top 25) 2
abbrev sTableGetitem : Stmt := inClass (top 25) 3
abbrev sTableIter : Stmt := inClass (top 25) 4
abbrev sTableLen : Stmt := inClass (top 25) 5
abbrev sTableEq : Stmt := inClass (top 25) 6
abbrev sTableShown : Stmt := inClass (top 25) 7
abbrev sTableSeen : Stmt := inClass (top 25) 8
abbrev sTableRows : Stmt := inClass (top 25) 9
abbrev sTableWithout : Stmt := inClass (top 25) 10
abbrev sTableOnly : Stmt := inClass (top 25) 11
abbrev sTableWithLook : Stmt := inClass (top 25) 12
abbrev sTableExchanged : Stmt := inClass (top 25) 13
abbrev sTableAlike : Stmt := inClass (top 25) 14
abbrev sTableGroups : Stmt := inClass (top 25) 15
abbrev sCheckShown : Stmt := top 26
abbrev sChosen : Stmt := top 27
abbrev sReadLamps : Stmt := top 28
abbrev sReadLook : Stmt := top 29
abbrev sBag : Stmt := top 31
abbrev sTake : Stmt := top 32
abbrev sLawName : Stmt := top 33
abbrev sLawNames : Stmt := top 34
abbrev sLawPlantedRows : Stmt := top 35
abbrev sLawFlipped : Stmt := top 36
abbrev sLawSeen : Stmt := top 37
abbrev sLawGiven : Stmt := top 38
abbrev sLawPerms : Stmt := top 39
abbrev sLawFitsOrder : Stmt := top 40
abbrev sLawKeeps : Stmt := top 41
abbrev sLawGood : Stmt := top 42
abbrev sLawPair : Stmt := top 43
abbrev sLaw : Stmt := top 44
end Dl

/-! The bag of draws: _law_bag, _law_take. -/
namespace Dl
open PySem L2

/-! ### the mathematics of the bag -/
structure BagOk (L : List Int) : Prop where
  ex : ∃ (s d : Int) (r : List Int), L = s :: d :: r ∧ 0 ≤ s ∧ s < 2147483647 ∧ 0 ≤ d ∧ ∀ x ∈ r, 0 ≤ x
theorem BagOk.put0 {d : Int} {r : List Int} (x : Int) (hd : 0 ≤ d) (hr : ∀ x ∈ r, 0 ≤ x) : BagOk (x % 2147483647 :: d :: r) :=
  ⟨_, _, _, rfl, Int.emod_nonneg _ (by decide), Int.emod_lt_of_pos _ (by decide), hd, hr⟩

/-- the names that the two defs read -/
structure TxtB (mg : Str → Option Value) : Prop where
  len : mg "len" = none
  int : mg "int" = none
  abs : mg "abs" = none

def spTake : Sp := fun vs H Q _ => ∃ (b : Addr) (L : List Int) (n : Int), vs = [.ref b, .int n] ∧ H b = some (.lst (L.map V.int)) ∧ BagOk L ∧ 1 ≤ n ∧ n < 1000000 ∧
  ∀ (L' : List Int) (r : Int), BagOk L' → 0 ≤ r → r < n → Q (.int r) (upd H b (.lst (L'.map V.int)))
section
variable {P : Program} {w : World} {K : PySem.W.Frag} {mg : Str → Option Value} {base : Heap}
theorem scTake : FnScope ["_law_bag_here", "_law_size", "_law_cell", "_law_digit"] ["_law_bag_here", "_law_size"] (defScope sTake) := ⟨rfl, rfl, rfl, by decide +kernel, rfl, by decide +kernel, by decide +kernel⟩
theorem upd_upd {H : Hp} {a : Addr} {o u : HO} : upd (upd H a o) a u = upd H a u := by
  funext b
  by_cases h : b = a
  · subst h; rw [upd_same, upd_same]
  · rw [upd_ne h, upd_ne h, upd_ne h]
theorem upd_id {H : Hp} {a : Addr} {o : HO} (h : H a = some o) : upd H a o = H := by
  funext b
  by_cases e : b = a
  · subst e; rw [upd_same, h]
  · rw [upd_ne e]
theorem ix_at {n j : Nat} (h : j < n) : ixN n (j : Int) = some j := by
  unfold ixN
  rw [if_pos (by omega), if_pos (by omega)]; simp
theorem ok_take {f : Addr} {fd : FuncData} (F : Fun K "_law_take" "_law_take" sTake f fd) (T : TxtB mg) : FnOk P w K mg base CX0 1 f fd ["_law_bag_here", "_law_size"] spTake := by
  refine F.ok scTake (fun vs H Q E h => ?_) (fun cdv A outer s H vs Q E hr h => ?_)
  · obtain ⟨b, L, n, rfl, _⟩ := h
    rfl
  · obtain ⟨b, L, n, rfl, hb, ⟨z, d, r, rfl, hz0, hz1, hd0, hr0⟩, hn1, hn2, k⟩ := h
    refine ⟨_, pss_cons (ps_if (PW.pt (pw_and (pt_cmpR op_eq (pe_ix ix_list (pv 0) pe_int (fun _ _ => rfl)) pe_int (nomark _)) (pw_and1 (pt_cmpR op_gt (pe_callB call_len_seq (by rfl) T.len PySem.boot_len (pa_cons (pv 0) pa_nil)) pe_int (nomark _)))))
        (pss_cons (ps_set (i := 2) scTake.nd rfl (Or.inl rfl) (pe_bm PySem.F.plainAttrs_list PySem.F.slot_list_pop PySem.F.type_list_pop mt_popAt (pv 0) (pa_cons pe_int pa_nil)))
        (pss_one (ps_if (pt_cmpR op_ge (pv 2) (pe_op op_pow pe_int pe_int) (nomark _))
          (pss_one (ps_asg (pv 2) (pg_sub (pv 0) pe_int set_list)))
          (pss_cons (ps_asg (pe_op op_mod (pe_callTy call_int1 (by rfl) T.int (by decide +kernel) (pa_cons (pe_op op_add (pe_op op_add (pe_op op_mul (pe_ix ix_list (pv 0) pe_int (fun _ _ => rfl)) pe_int) (pe_op op_mul (pv 2) pe_int)) pe_int) pa_nil)) pe_int) (pg_sub (pv 0) pe_int set_list))
          (pss_one (ps_ret (pe_op op_mod (pe_callTy call_int1 (by rfl) T.int (by decide +kernel) (pa_cons (pe_op op_fdiv (pe_op op_add (pe_op op_mul (pe_ix ix_list (pv 0) pe_int (fun _ _ => rfl)) pe_int) pe_int) pe_int) pa_nil)) (pv 1))))))))
        pss_nil)
      (pss_cons (ps_if (pt_cmpR op_gt (pe_ix ix_list (pv 0) pe_int (fun _ _ => rfl)) pe_int (nomark _))
        (pss_cons (ps_set (i := 3) scTake.nd rfl (Or.inl rfl) (pe_op op_mod (pe_callTy call_int1 (by rfl) T.int (by decide +kernel) (pa_cons (pe_ix ix_list (pv 0) pe_int (fun _ _ => rfl)) pa_nil)) (pv 1)))
        (pss_cons (ps_asg (pe_op op_fdivW (pe_ix ix_list (pv 0) pe_int (fun _ _ => rfl)) (pv 1)) (pg_sub (pv 0) pe_int set_list))
        (pss_one (ps_ret (pv 3)))))
        pss_nil)
      (pss_cons (ps_asg (pe_op op_mod (pe_callTy call_int1 (by rfl) T.int (by decide +kernel) (pa_cons (pe_op op_mul (pe_ix ix_list (pv 0) pe_int (fun _ _ => rfl)) pe_int) pa_nil)) pe_int) (pg_sub (pv 0) pe_int set_list))
      (pss_one (ps_ret (pe_op op_mod (pe_callTy call_int1 (by rfl) T.int (by decide +kernel) (pa_cons (pe_op op_fdiv (pe_ix ix_list (pv 0) pe_int (fun _ _ => rfl)) pe_int) pa_nil)) (pv 1)))))), ?_⟩
    -- bag[1] == 0 and len(bag) > 2
    refine ⟨_, rfl, b, _, _, _, rfl, rfl, SqL.of hb, (atI_nat (j := 1) rfl), rfl, _, rfl, ?_⟩
    refine ite2 (fun e => ?_) (fun e => ?_)
    · refine ⟨_, rfl, b, _, rfl, .inl (SqL.of hb), _, _, rfl, rfl, _, rfl, ?_⟩
      refine ite2 (fun e2 => ?_) (fun e2 => ?_)
      · -- cell = bag.pop(2)
        have hl : 2 < (z :: d :: r).length := by
          have q := of_decide_eq_true e2
          have q2 : ((2 : Int) < (((z :: d :: r).map V.int).length : Nat)) := q
          rw [List.length_map] at q2
          omega
        match r, hr0, hb, k, hl with
        | [], _, _, _, hl => exact absurd hl (by simp)
        | c :: r, hr0, hb, k, _ =>
        have hc0 : 0 ≤ c := hr0 c (List.mem_cons_self ..)
        have hr1 : ∀ x ∈ r, 0 ≤ x := fun x hx => hr0 x (List.mem_cons_of_mem _ hx)
        have hsq : seqIndex? (2 : Int) ((z :: d :: c :: r).map V.int).length = some 2 := by
          have q : ((z :: d :: c :: r).map V.int).length = r.length + 3 := by simp
          rw [q]
          unfold seqIndex?
          simp
          omega
        refine ⟨_, rfl, .inl ⟨rfl, _, SqL.of hb⟩, b, _, 2, 2, _, rfl, rfl, hb, by decide, by decide, hsq, rfl, ?_⟩
        refine ⟨_, rfl, _, _, rfl, rfl, ⟨by decide, by decide, by decide⟩, _, _, rfl, rfl, _, rfl, ?_⟩
        refine ite2 (fun e4 => ?_) (fun e4 => ?_)
        · refine ⟨_, rfl, _, rfl, b, _, _, 1, rfl, rfl, upd_same, ix_at (j := 1) (by simp), ?_⟩
          have hd1 : 0 ≤ c := hc0
          have hz1' := hz0
          have hz1'' := hz1
          have k1 : ∀ (L' : List Int) (x : Int), BagOk L' → 0 ≤ x → x < n → Q (.int x) (upd (upd (upd H b (HO.lst ((z :: d :: r).map V.int))) b (HO.lst ((z :: c :: r).map V.int))) b (.lst (L'.map V.int))) := fun L' x h1 h2 h3 => by
            rw [upd_upd, upd_upd]
            exact k L' x h1 h2 h3
          have hb1 : (upd (upd H b (HO.lst ((z :: d :: r).map V.int))) b (HO.lst ((z :: c :: r).map V.int))) b = some (.lst ((z :: c :: r).map V.int)) := upd_same
          refine ⟨_, rfl, b, _, _, _, rfl, rfl, SqL.of hb1, (atI_nat (j := 1) rfl), _, _, rfl, rfl, _, rfl, ?_⟩
          refine ite2 (fun e3 => ?_) (fun e3 => ?_)
          · refine ⟨_, rfl, b, _, _, _, rfl, rfl, SqL.of hb1, (atI_nat (j := 1) rfl), .inl ⟨_, rfl, ?_⟩⟩
            refine ⟨_, rfl, _, _, rfl, rfl, (by show (0 : Int) < n; omega), ?_⟩
            refine ⟨_, rfl, b, _, _, _, rfl, rfl, SqL.of hb1, (atI_nat (j := 1) rfl), _, rfl, _, _, rfl, rfl, wide_div (b := 20) (by show (0 : Int) < n; omega) (by show n.natAbs < 2 ^ 20; omega) (by decide) (by decide), ?_⟩
            refine ⟨_, rfl, b, _, _, 1, rfl, rfl, hb1, ix_at (j := 1) (by simp), ?_⟩
            refine ⟨_, rfl, ?_⟩
            exact k1 (z :: (c / n) :: r) _ ⟨_, _, _, rfl, hz1', hz1'', Int.ediv_nonneg hd1 (by omega), hr1⟩ (Int.emod_nonneg _ (by omega)) (Int.emod_lt_of_pos _ (by omega))
          · refine ⟨_, rfl, b, _, _, _, rfl, rfl, SqL.of hb1, (atI_nat (j := 0) rfl), _, _, rfl, rfl, .inl ⟨by show -(2 ^ 64) < z; omega, by show z < 2 ^ 64; omega⟩, .inl ⟨_, rfl, ?_⟩⟩
            refine ⟨_, _, rfl, rfl, (by show (0 : Int) < 2147483647; decide), ?_⟩
            refine ⟨_, rfl, b, _, _, 0, rfl, rfl, hb1, ix_at (j := 0) (by simp), ?_⟩
            refine ⟨_, rfl, b, _, _, _, rfl, rfl, SqL.of upd_same, (atI_nat (j := 0) rfl), _, _, rfl, rfl, ⟨by decide, by decide⟩, .inl ⟨_, rfl, ?_⟩⟩
            refine ⟨_, rfl, _, _, rfl, rfl, (by show (0 : Int) < n; omega), ?_⟩
            exact k1 (z * 48271 % 2147483647 :: c :: r) _ (BagOk.put0 _ hd1 hr1) (Int.emod_nonneg _ (by omega)) (Int.emod_lt_of_pos _ (by omega))
        · have hc1 : c < 10 ^ 18 := by
            have q := of_decide_eq_false (p := ((10 : Int) ^ (18 : Int).toNat ≤ c)) (by simpa using e4)
            have q2 : (10 : Int) ^ (18 : Int).toNat = 1000000000000000000 := by decide
            omega
          refine ⟨_, rfl, b, _, _, _, rfl, rfl, SqL.of upd_same, (atI_nat (j := 0) rfl), _, _, rfl, rfl, .inl ⟨by show -(2 ^ 64) < z; omega, by show z < 2 ^ 64; omega⟩, ?_⟩
          refine ⟨_, rfl, _, _, rfl, rfl, .inl ⟨by show -(2 ^ 64) < c; omega, by show c < 2 ^ 64; omega⟩, _, _, rfl, rfl, _, _, rfl, rfl, .inl ⟨_, rfl, ?_⟩⟩
          refine ⟨_, _, rfl, rfl, (by show (0 : Int) < 2147483647; decide), ?_⟩
          refine ⟨_, rfl, b, _, _, 0, rfl, rfl, upd_same, ix_at (j := 0) (by simp), ?_⟩
          refine ⟨_, rfl, b, _, _, _, rfl, rfl, SqL.of upd_same, (atI_nat (j := 0) rfl), _, _, rfl, rfl, .inl ⟨?_, ?_⟩, _, _, rfl, rfl, _, _, rfl, rfl, ⟨by decide, by decide⟩, .inl ⟨_, rfl, ?_⟩⟩
          · have q := Int.emod_nonneg (z * 48271 + c * 69621 + 11) (show (2147483647 : Int) ≠ 0 by decide)
            show -(2 ^ 64) < (z * 48271 + c * 69621 + 11) % 2147483647
            omega
          · have q := Int.emod_lt_of_pos (z * 48271 + c * 69621 + 11) (show (0 : Int) < 2147483647 by decide)
            show (z * 48271 + c * 69621 + 11) % 2147483647 < 2 ^ 64
            omega
          refine ⟨_, rfl, _, _, rfl, rfl, (by show (0 : Int) < n; omega), ?_⟩
          have q := k ((z * 48271 + c * 69621 + 11) % 2147483647 :: d :: r) _ (BagOk.put0 _ hd0 hr1) (Int.emod_nonneg (((z * 48271 + c * 69621 + 11) % 2147483647 * 16807 + 7919) / 16) (show n ≠ 0 by omega)) (Int.emod_lt_of_pos _ (by omega))
          rw [← upd_upd] at q
          exact q
      · have hb1 := hb
        have k1 := k
        have hz1' := hz0
        have hz1'' := hz1
        have hd1 := hd0
        have hr1 := hr0
        refine ⟨_, rfl, b, _, _, _, rfl, rfl, SqL.of hb1, (atI_nat (j := 1) rfl), _, _, rfl, rfl, _, rfl, ?_⟩
        refine ite2 (fun e3 => ?_) (fun e3 => ?_)
        · refine ⟨_, rfl, b, _, _, _, rfl, rfl, SqL.of hb1, (atI_nat (j := 1) rfl), .inl ⟨_, rfl, ?_⟩⟩
          refine ⟨_, rfl, _, _, rfl, rfl, (by show (0 : Int) < n; omega), ?_⟩
          refine ⟨_, rfl, b, _, _, _, rfl, rfl, SqL.of hb1, (atI_nat (j := 1) rfl), _, rfl, _, _, rfl, rfl, wide_div (b := 20) (by show (0 : Int) < n; omega) (by show n.natAbs < 2 ^ 20; omega) (by decide) (by decide), ?_⟩
          refine ⟨_, rfl, b, _, _, 1, rfl, rfl, hb1, ix_at (j := 1) (by simp), ?_⟩
          refine ⟨_, rfl, ?_⟩
          exact k1 (z :: (d / n) :: r) _ ⟨_, _, _, rfl, hz1', hz1'', Int.ediv_nonneg hd1 (by omega), hr1⟩ (Int.emod_nonneg _ (by omega)) (Int.emod_lt_of_pos _ (by omega))
        · refine ⟨_, rfl, b, _, _, _, rfl, rfl, SqL.of hb1, (atI_nat (j := 0) rfl), _, _, rfl, rfl, .inl ⟨by show -(2 ^ 64) < z; omega, by show z < 2 ^ 64; omega⟩, .inl ⟨_, rfl, ?_⟩⟩
          refine ⟨_, _, rfl, rfl, (by show (0 : Int) < 2147483647; decide), ?_⟩
          refine ⟨_, rfl, b, _, _, 0, rfl, rfl, hb1, ix_at (j := 0) (by simp), ?_⟩
          refine ⟨_, rfl, b, _, _, _, rfl, rfl, SqL.of upd_same, (atI_nat (j := 0) rfl), _, _, rfl, rfl, ⟨by decide, by decide⟩, .inl ⟨_, rfl, ?_⟩⟩
          refine ⟨_, rfl, _, _, rfl, rfl, (by show (0 : Int) < n; omega), ?_⟩
          exact k1 (z * 48271 % 2147483647 :: d :: r) _ (BagOk.put0 _ hd1 hr1) (Int.emod_nonneg _ (by omega)) (Int.emod_lt_of_pos _ (by omega))
    · have hb1 := hb
      have k1 := k
      have hz1' := hz0
      have hz1'' := hz1
      have hd1 := hd0
      have hr1 := hr0
      refine ⟨_, rfl, b, _, _, _, rfl, rfl, SqL.of hb1, (atI_nat (j := 1) rfl), _, _, rfl, rfl, _, rfl, ?_⟩
      refine ite2 (fun e3 => ?_) (fun e3 => ?_)
      · refine ⟨_, rfl, b, _, _, _, rfl, rfl, SqL.of hb1, (atI_nat (j := 1) rfl), .inl ⟨_, rfl, ?_⟩⟩
        refine ⟨_, rfl, _, _, rfl, rfl, (by show (0 : Int) < n; omega), ?_⟩
        refine ⟨_, rfl, b, _, _, _, rfl, rfl, SqL.of hb1, (atI_nat (j := 1) rfl), _, rfl, _, _, rfl, rfl, wide_div (b := 20) (by show (0 : Int) < n; omega) (by show n.natAbs < 2 ^ 20; omega) (by decide) (by decide), ?_⟩
        refine ⟨_, rfl, b, _, _, 1, rfl, rfl, hb1, ix_at (j := 1) (by simp), ?_⟩
        refine ⟨_, rfl, ?_⟩
        exact k1 (z :: (d / n) :: r) _ ⟨_, _, _, rfl, hz1', hz1'', Int.ediv_nonneg hd1 (by omega), hr1⟩ (Int.emod_nonneg _ (by omega)) (Int.emod_lt_of_pos _ (by omega))
      · refine ⟨_, rfl, b, _, _, _, rfl, rfl, SqL.of hb1, (atI_nat (j := 0) rfl), _, _, rfl, rfl, .inl ⟨by show -(2 ^ 64) < z; omega, by show z < 2 ^ 64; omega⟩, .inl ⟨_, rfl, ?_⟩⟩
        refine ⟨_, _, rfl, rfl, (by show (0 : Int) < 2147483647; decide), ?_⟩
        refine ⟨_, rfl, b, _, _, 0, rfl, rfl, hb1, ix_at (j := 0) (by simp), ?_⟩
        refine ⟨_, rfl, b, _, _, _, rfl, rfl, SqL.of upd_same, (atI_nat (j := 0) rfl), _, _, rfl, rfl, ⟨by decide, by decide⟩, .inl ⟨_, rfl, ?_⟩⟩
        refine ⟨_, rfl, _, _, rfl, rfl, (by show (0 : Int) < n; omega), ?_⟩
        exact k1 (z * 48271 % 2147483647 :: d :: r) _ (BagOk.put0 _ hd1 hr1) (Int.emod_nonneg _ (by omega)) (Int.emod_lt_of_pos _ (by omega))
end
end Dl

namespace Dl
open PySem L2
theorem Same.upd_new {H : Hp} {a : Addr} {o : HO} (h : H a = none) : Same H (upd H a o) := fun b u e => by
  rw [upd_ne (ne_of_none e h)]; exact e
def spBag (K : PySem.W.Frag) : Sp := fun vs H Q _ => ∃ (a : Addr) (ns : List Int), vs = [.ref a] ∧ SqL K H a (ns.map V.int) ∧ ns.length ≤ 63 ∧
  ∀ (H' : Hp) (p : Addr) (L : List Int), Same H H' → H p = none → H' p = some (.lst (L.map V.int)) → BagOk L → Q (.ref p) H'
section
variable {P : Program} {w : World} {K : PySem.W.Frag} {mg : Str → Option Value} {base : Heap}
theorem scBag : FnScope ["_law_script", "_law_cell"] ["_law_script"] (defScope sBag) := ⟨rfl, rfl, rfl, by decide +kernel, rfl, by decide +kernel, by decide +kernel⟩
theorem ok_bag {f : Addr} {fd : FuncData} (F : Fun K "_law_bag" "_law_bag" sBag f fd) (T : TxtB mg) : FnOk P w K mg base CX0 1 f fd ["_law_script"] (spBag K) := by
  refine F.ok scBag (fun vs H Q E h => ?_) (fun cdv A outer s H vs Q E hr h => ?_)
  · obtain ⟨b, L, rfl, _⟩ := h
    rfl
  · obtain ⟨a, ns, rfl, hS, hlen, k⟩ := h
    refine ⟨_, pss_one (ps_ret (pe_op op_cat (pe_lst (pa_cons pe_int (pa_cons pe_int pa_nil)))
      (pe_lc (own := [("_law_cell", 1)]) (g := gName 1) (tt := tYes) rfl scBag.nd (pi_list (pe_slice sl_list (pv 0) po_none (po_some pe_int))) (blkOk_by (N := ["_law_script", "_law_cell"]) (sc := defScope sBag) (by decide +kernel))
        (fun _ _ _ _ _ => pg_name (i := 1) scBag.nd rfl (Or.inl rfl)) (fun _ _ _ _ _ => pts_nil) (fun _ _ _ _ _ => pe_callB call_abs (by rfl) T.abs (by decide +kernel) (pa_cons (pv 1) pa_nil))))), ?_⟩
    refine ⟨by show 2 ≤ sizeLine; decide, fun l hl => ?_⟩
    refine ⟨_, rfl, 63, rfl, a, _, rfl, Same.seq (Same.upd_new hl) hS, fun q hq => ?_⟩
    have hcut : ∃ ms : List Int, cutV (ns.map V.int) none (some 63) = ms.map V.int ∧ ms.length ≤ 63 := by
      refine ⟨(ns.drop (HT.sIx (ns.map V.int).length 0 none)).take (HT.sIx (ns.map V.int).length (ns.map V.int).length (some 63) - HT.sIx (ns.map V.int).length 0 none), ?_, ?_⟩
      · unfold cutV
        rw [← List.map_drop, ← List.map_take]
      · rw [List.length_take, List.length_drop]
        omega
    obtain ⟨ms, em, hm⟩ := hcut
    rw [em]
    refine ⟨q, rfl, ⟨_, SqL.of upd_same⟩, fun D hD => lc_list (xs := ms.map V.int) (fun i H' => ∃ M : List Int, H' = upd (upd (upd H l (.lst [.int 0, .int 0])) q (.lst (ms.map V.int))) D (.lst (M.map V.int)) ∧ M.length = i ∧ ∀ x ∈ M, 0 ≤ x)
      ⟨[], rfl, rfl, fun x hx => absurd hx (by simp)⟩ ?_ ?_ ?_⟩
    · rintro i H' _ ⟨M, rfl, _, _⟩
      have nqD : q ≠ D := ne_of_none (H := upd (upd H l (.lst [.int 0, .int 0])) q (.lst (ms.map V.int))) upd_same hD
      exact SqL.of (by rw [upd_ne nqD]; exact upd_same)
    · rintro i x H' hi ⟨M, rfl, hM, hx⟩
      rw [List.getElem?_map] at hi
      cases e : ms[i]? with
      | none => rw [e] at hi; cases hi
      | some u =>
      rw [e] at hi
      obtain rfl : V.int u = x := Option.some.inj hi
      refine ⟨rfl, _, rfl, u, rfl, _, upd_same, ?_, M ++ [if u < 0 then -u else u], ?_, ?_, ?_⟩
      · rw [List.length_map, hM]
        have := (List.getElem?_eq_some_iff.mp e).1
        exact small1000 (by omega)
      · rw [upd_upd, List.map_append]
        rfl
      · rw [List.length_append, hM]
        rfl
      · intro y hy
        rcases List.mem_append.mp hy with h | h
        · exact hx y h
        · obtain rfl := List.mem_singleton.mp h
          split <;> omega
    · rintro H' ⟨M, rfl, hM, hx⟩
      have nlq : l ≠ q := fun e => by rw [e, upd_same] at hq; cases hq
      have nlD : l ≠ D := fun e => by rw [← e, upd_ne nlq, upd_same] at hD; cases hD
      rw [List.length_map] at hM
      refine ⟨l, D, _, _, rfl, rfl, by rw [upd_ne nlD, upd_ne nlq, upd_same], upd_same, ?_, fun p hp => ?_⟩
      · rw [List.length_map]
        exact Nat.le_of_lt (small1000 (by simp; omega))
      · have hp0 : H p = none := by
          have npD : p ≠ D := fun e => by rw [e, upd_same] at hp; cases hp
          have npq : p ≠ q := fun e => by rw [upd_ne npD, e, upd_same] at hp; cases hp
          have npl : p ≠ l := fun e => by rw [upd_ne npD, upd_ne npq, e, upd_same] at hp; cases hp
          rw [upd_ne npD, upd_ne npq, upd_ne npl] at hp
          exact hp
        have s1 : Same H (upd H l (.lst [.int 0, .int 0])) := Same.upd_new hl
        refine k _ p (0 :: 0 :: M) ((s1.trans (Same.upd_new hq)).trans ((Same.upd_new hD).trans (Same.upd_new hp))) hp0 (by rw [upd_same]; rfl) ⟨0, 0, M, rfl, by decide, by decide, by decide, hx⟩
end
end Dl

namespace Dl
open PySem L2
/-! ### the own errors: class C, its __init__ at fI, its one field f -/
structure ErrC (K : PySem.W.Frag) (mg : Str → Option Value) (x f : Str) (C fI : Addr) : Prop where
  oex : OexC K C
  gC : mg x = some (.ref C)
  iC : PySem.W.findIn K (.ref C) "__init__" = some (some (.ref fI))
  tI : PySem.W.typeIn K (.ref fI) = some (.type "function")
  no : PySem.W.findIn K (.ref C) f = some none
/-- self.f = v -/
def spEI (K : PySem.W.Frag) (C : Addr) (f : Str) : Sp := fun vs H Q _ => ∃ (a : Addr) (v : V), vs = [.ref a, v] ∧ H a = some (exo a C none) ∧ ∀ dx, H dx = none → dx ≠ a → Q .non (upd (upd H dx (exd dx [(f, v)])) a (exo a C (some dx)))
section
variable {P : Program} {w : World} {K : PySem.W.Frag} {mg : Str → Option Value} {base : Heap}
theorem scInv : FnScope ["self", "name"] ["self", "name"] (defScope sInv) := ⟨rfl, rfl, rfl, by decide +kernel, rfl, by decide +kernel, by decide +kernel⟩
theorem ok_einv {C fI : Addr} {fd : FuncData} {x : Str} (F : Fun K "__init__" "InvalidName.__init__" sInv fI fd) (T : ErrC K mg x "name" C fI) : FnOk P w K mg base CX0 1 fI fd ["self", "name"] (spEI K C "name") := by
  refine F.ok scInv (fun vs H Q E h => ?_) (fun cdv A outer s H vs Q E hr h => ?_)
  · obtain ⟨b, n, rfl, _⟩ := h
    rfl
  · obtain ⟨a, v, rfl, ha, k⟩ := h
    exact ⟨_, pss_one (ps_ost (pv 0) (pv 1)), _, rfl, _, rfl, a, C, rfl, T.oex, T.no, .inl ⟨ha, fun dx h1 h2 => k dx h1 h2⟩⟩
theorem scDup : FnScope ["self", "name"] ["self", "name"] (defScope sDup) := ⟨rfl, rfl, rfl, by decide +kernel, rfl, by decide +kernel, by decide +kernel⟩
theorem ok_edup {C fI : Addr} {fd : FuncData} {x : Str} (F : Fun K "__init__" "DuplicateName.__init__" sDup fI fd) (T : ErrC K mg x "name" C fI) : FnOk P w K mg base CX0 1 fI fd ["self", "name"] (spEI K C "name") := by
  refine F.ok scDup (fun vs H Q E h => ?_) (fun cdv A outer s H vs Q E hr h => ?_)
  · obtain ⟨b, n, rfl, _⟩ := h
    rfl
  · obtain ⟨a, v, rfl, ha, k⟩ := h
    exact ⟨_, pss_one (ps_ost (pv 0) (pv 1)), _, rfl, _, rfl, a, C, rfl, T.oex, T.no, .inl ⟨ha, fun dx h1 h2 => k dx h1 h2⟩⟩
theorem scUnk : FnScope ["self", "name"] ["self", "name"] (defScope sUnk) := ⟨rfl, rfl, rfl, by decide +kernel, rfl, by decide +kernel, by decide +kernel⟩
theorem ok_eunk {C fI : Addr} {fd : FuncData} {x : Str} (F : Fun K "__init__" "UnknownName.__init__" sUnk fI fd) (T : ErrC K mg x "name" C fI) : FnOk P w K mg base CX0 1 fI fd ["self", "name"] (spEI K C "name") := by
  refine F.ok scUnk (fun vs H Q E h => ?_) (fun cdv A outer s H vs Q E hr h => ?_)
  · obtain ⟨b, n, rfl, _⟩ := h
    rfl
  · obtain ⟨a, v, rfl, ha, k⟩ := h
    exact ⟨_, pss_one (ps_ost (pv 0) (pv 1)), _, rfl, _, rfl, a, C, rfl, T.oex, T.no, .inl ⟨ha, fun dx h1 h2 => k dx h1 h2⟩⟩
theorem scMany : FnScope ["self", "limit"] ["self", "limit"] (defScope sMany) := ⟨rfl, rfl, rfl, by decide +kernel, rfl, by decide +kernel, by decide +kernel⟩
theorem ok_emany {C fI : Addr} {fd : FuncData} {x : Str} (F : Fun K "__init__" "TooMany.__init__" sMany fI fd) (T : ErrC K mg x "limit" C fI) : FnOk P w K mg base CX0 1 fI fd ["self", "limit"] (spEI K C "limit") := by
  refine F.ok scMany (fun vs H Q E h => ?_) (fun cdv A outer s H vs Q E hr h => ?_)
  · obtain ⟨b, n, rfl, _⟩ := h
    rfl
  · obtain ⟨a, v, rfl, ha, k⟩ := h
    exact ⟨_, pss_one (ps_ost (pv 0) (pv 1)), _, rfl, _, rfl, a, C, rfl, T.oex, T.no, .inl ⟨ha, fun dx h1 h2 => k dx h1 h2⟩⟩
end
/-- the way out of raise C(v): what is to be shown for the error's reading, from what the def's promise says -/
theorem raise_end {C : Addr} {f : Str} {K : PySem.W.Frag} {H : Hp} {v : V} {Q : XK} (q : ∀ d H', Same H H' → H d = none → H' d = some (.xd [(f, v)]) → Q (.ref C) (some d) H') :
    ([v] : List V).length ≤ 1000 ∧ ∀ a, H a = none → spEI K C f (.ref a :: ([v] ++ [])) (upd H a (exo a C none))
      (fun u H2 => u = .non ∧ ∃ (d : Addr) (fs : List (Str × V)), H2 a = some (exo a C (some d)) ∧ H2 d = some (exd d fs) ∧ H d = none ∧ Q (.ref C) (some d) (upd (del H2 a) d (.xd fs))) (fun _ _ _ => False) := by
  refine ⟨by simp, fun a ha => ⟨a, v, rfl, upd_same, fun dx hx ne => ⟨rfl, dx, [(f, v)], upd_same, ?_, ?_, ?_⟩⟩⟩
  · rw [upd_ne ne, upd_same]
  · rw [upd_ne ne] at hx
    exact hx
  · rw [upd_ne ne] at hx
    refine q dx _ (fun b o e => ?_) hx upd_same
    have nb : b ≠ dx := ne_of_none e hx
    have na : b ≠ a := ne_of_none e ha
    rw [upd_ne nb, del_ne na, upd_ne na, upd_ne nb, upd_ne na]
    exact e
end Dl

namespace Dl
open PySem L2
/-! ### names -/
def SG : Str := "abcdefghijklmnopqrstuvwxyz0123456789"
def validN (z : Str) : Bool := decide (1 ≤ z.length) && (decide (z.length ≤ 12) && z.cps.toList.all fun c => decide (c ∈ SG.cps.toList))
def isNm : V → Bool
  | .str z => validN z
  | _ => false
/-- what may be passed as a name: a text, an int, None, a list -/
def NmOk (H : Hp) : V → Prop
  | .str z => z.length ≤ sizeLine
  | .int _ => True
  | .non => True
  | .ref p => ∃ xs, H p = some (.lst xs)
  | _ => False
structure TxtN (mg : Str → Option Value) : Prop where
  isi : mg "isinstance" = none
  str : mg "str" = none
  len : mg "len" = none
  all : mg "all" = none
  longest : ∃ t, mg "LONGEST" = some (.int 12 t)
  signs : ∃ t, mg "SIGNS" = some (.str SG t)
theorem nm_type (K : PySem.W.Frag) {H : Hp} {v : V} (hv : NmOk H v) : ∃ (ty : String) (b : Bool), TyX K H v (.type ty) ∧ PySem.W.kitOne K (.type ty) (.type "str") = some b ∧ ((b = false ∧ isNm v = false ∧ ∀ z, v ≠ .str z) ∨ (b = true ∧ ∃ z, v = .str z ∧ z.length ≤ sizeLine)) := by
  cases v with
  | int i => exact ⟨"int", false, .base (.int i), kit_ty (by decide +kernel), .inl ⟨rfl, rfl, fun z h => by cases h⟩⟩
  | non => exact ⟨"NoneType", false, .base .non, kit_ty (by decide +kernel), .inl ⟨rfl, rfl, fun z h => by cases h⟩⟩
  | ref p => obtain ⟨xs, hp⟩ := hv; exact ⟨"list", false, .base (.lst hp), kit_ty (by decide +kernel), .inl ⟨rfl, rfl, fun z h => by cases h⟩⟩
  | str z => exact ⟨"str", true, .base (.str z), kit_ty (by decide +kernel), .inr ⟨rfl, z, rfl, hv⟩⟩
  | bl _ => exact hv.elim
  | byt _ => exact hv.elim
  | flt _ => exact hv.elim
  | ty _ => exact hv.elim
def spIsName (K : PySem.W.Frag) : Sp := fun vs H Q _ => ∃ v : V, vs = [v] ∧ NmOk H v ∧ ∀ H', Same H H' → Q (.bl (isNm v)) H'
theorem int_le_nat {a b : Nat} : decide ((a : Int) ≤ (b : Int)) = decide (a ≤ b) := by simp
section
variable {P : Program} {w : World} {K : PySem.W.Frag} {mg : Str → Option Value} {base : Heap}
theorem scIsName : FnScope ["value", "sign"] ["value"] (defScope sIsName) := ⟨rfl, rfl, rfl, by decide +kernel, rfl, by decide +kernel, by decide +kernel⟩
theorem ok_isname {f : Addr} {fd : FuncData} (F : Fun K "is_name" "is_name" sIsName f fd) (T : TxtN mg) : FnOk P w K mg base CX0 1 f fd ["value"] (spIsName K) := by
  refine F.ok scIsName (fun vs H Q E h => ?_) (fun cdv A outer s H vs Q E hr h => ?_)
  · obtain ⟨b, rfl, _⟩ := h
    rfl
  · obtain ⟨v, rfl, hv, k⟩ := h
    obtain ⟨t1, hL⟩ := T.longest
    obtain ⟨t2, hG⟩ := T.signs
    refine ⟨_, pss_cons (ps_if (PW.pt (pw_or (pt_not (pt_val (pe_callB call_isi (by rfl) T.isi (by decide +kernel) (pa_cons (pv 0) (pa_cons (pe_bltn (v := .ty "str") (by rfl) T.str (by decide +kernel) rfl) pa_nil)))))
        (pw_or1 (pt_not (pt_chain op_le op_le pe_int (pe_callB call_len_str (by rfl) T.len PySem.boot_len (pa_cons (pv 0) pa_nil)) (pe_glob (v := .int 12) (by rfl) hL ⟨_, rfl⟩))))))
        (pss_one (ps_ret pe_bl)) pss_nil)
      (pss_one (ps_ret (pe_callB (cr_all rfl) (by rfl) T.all (by decide +kernel) (pa_cons
        (pe_lc (own := [("sign", 1)]) (g := gName 1) (tt := tYes) rfl scIsName.nd (pi_str (pv 0)) (blkOk_by (N := ["value", "sign"]) (sc := defScope sIsName) (by decide +kernel))
          (fun _ _ _ _ _ => pg_name (i := 1) scIsName.nd rfl (Or.inl rfl)) (fun _ _ _ _ _ => pts_nil) (fun _ _ _ _ _ => pe_cmpR op_in_sign (pv 1) (pe_glob (v := .str SG) (by rfl) hG ⟨_, rfl⟩) (by rfl)))
        pa_nil)))), ?_⟩
    obtain ⟨ty, b, h1, h2, h3⟩ := nm_type K hv
    refine ⟨_, rfl, v, _, _, _, b, rfl, ClsV.ty "str", h1, h2, b, rfl, ?_⟩
    rcases h3 with ⟨rfl, h3, _⟩ | ⟨rfl, z, rfl, hz⟩
    · refine iteT (?_)
      show Q (.bl false) H
      rw [← h3]
      exact k H (Same.refl H)
    · refine iteF (?_)
      refine ⟨_, rfl, z, rfl, hz, _, _, rfl, rfl, _, rfl, ?_⟩
      refine ite2 (fun e1 => ?_) (fun e1 => ?_)
      · have e1' : (1 : Nat) ≤ z.length := by
          have q : (1 : Int) ≤ (z.length : Nat) := of_decide_eq_true e1
          omega
        refine ⟨_, _, rfl, rfl, _, rfl, ?_⟩
        by_cases e2 : z.length ≤ 12
        · have e2' : decide (((z.length : Nat) : Int) ≤ (12 : Int)) = true := decide_eq_true (by omega)
          rw [e2']
          refine iteF (?_)
          refine ⟨_, rfl, z, rfl, fun D hD => lc_it (w := walk_str) (fun i H' => H' = upd H D (.lst (((z.cps.toList.take i).map fun c => decide (c ∈ SG.cps.toList)).map V.bl)) ∧ True) ⟨rfl, trivial⟩ (fun _ _ _ _ => trivial) ?_ ?_⟩
          · rintro i x H' H2 hi ⟨rfl, _⟩ ⟨rfl, c, hc, rfl⟩
            refine ⟨rfl, _, rfl, c, SG, rfl, rfl, _, upd_same, ?_, ?_, trivial⟩
            · rw [List.length_map, List.length_map, List.length_take]
              have ez : z.cps.size = z.length := rfl
              exact small1000 (by omega)
            · have hc2 : z.cps.toList[i]? = some c := by rw [Array.getElem?_toList]; exact hc
              rw [upd_upd, List.take_succ, hc2]
              simp
          · rintro H' ⟨rfl, _⟩
            refine ⟨D, _, rfl, SqL.of upd_same, ?_⟩
            have q := k _ (Same.upd_new hD (o := .lst (((z.cps.toList.take z.cps.size).map fun c => decide (c ∈ SG.cps.toList)).map V.bl)))
            have e : isNm (.str z) = ((z.cps.toList.take z.cps.size).map fun c => decide (c ∈ SG.cps.toList)).all id := by
              show validN z = _
              unfold validN
              rw [decide_eq_true e1', decide_eq_true e2, List.take_of_length_le (by simp)]
              simp [List.all_map]
            rw [e] at q
            exact q
        · have e2' : decide (((z.length : Nat) : Int) ≤ (12 : Int)) = false := decide_eq_false (by omega)
          rw [e2']
          refine iteT (?_)
          have q := k H (Same.refl H)
          have e : isNm (.str z) = false := by
            show validN z = _
            unfold validN
            rw [decide_eq_false e2]
            simp
          rw [e] at q
          exact q
      · have q := k H (Same.refl H)
        have e1' : ¬ (1 : Nat) ≤ z.length := fun x => e1 (decide_eq_true (by
          show (1 : Int) ≤ (z.length : Nat)
          omega))
        have e : isNm (.str z) = false := by
          show validN z = _
          unfold validN
          rw [decide_eq_false e1']
          rfl
        rw [e] at q
        exact ⟨_, rfl, iteT q⟩
end
end Dl

namespace Dl
open PySem L2
/-- a def that stands at a global name and keeps its promise -/
def Dfn (P : Program) (w : World) (K : PySem.W.Frag) (mg : Str → Option Value) (base : Heap) (CX : CXT) (k : Nat) (x : Str) (ps : List Str) (sp : Sp) : Prop :=
  ∃ f fd, mg x = some (.ref f) ∧ PySem.W.keepIn K (.ref f) = true ∧ Binds K fd ps [] ∧ FnOk P w K mg base CX k f fd ps sp
/-- an own error with its __init__ -/
def Ex (P : Program) (w : World) (K : PySem.W.Frag) (mg : Str → Option Value) (base : Heap) (x f : Str) (C : Addr) : Prop :=
  ∃ fI fd, ErrC K mg x f C fI ∧ Binds K fd ["self", f] [] ∧ FnOk P w K mg base CX0 1 fI fd ["self", f] (spEI K C f)
/-- the classes of the errors -/
structure Cs where
  inv : Addr
  dup : Addr
  unk : Addr
  many : Addr
inductive Er where
  | inv (v : V)
  | dup (v : V)
  | unk (v : V)
  | many
/-- an error with one field leaves: what the caller wants of it -/
def Out1 (C : Addr) (f : Str) (v : V) (H : Hp) (E : XK) : Prop := ∀ d H', Same H H' → H d = none → H' d = some (.xd [(f, v)]) → E (.ref C) (some d) H'
def Out (C : Cs) (H : Hp) (E : XK) : Er → Prop
  | .inv v => Out1 C.inv "name" v H E
  | .dup v => Out1 C.dup "name" v H E
  | .unk v => Out1 C.unk "name" v H E
  | .many => Out1 C.many "limit" (.int 24) H E
theorem Out1.of {C : Addr} {f : Str} {v : V} {H H1 : Hp} {E : XK} (s : Same H H1) (h : Out1 C f v H E) : Out1 C f v H1 E := fun d H' s' n e => h d H' (s.trans s') (s.free n) e
theorem Out.of {C : Cs} {H H1 : Hp} {E : XK} {e : Er} (s : Same H H1) (h : Out C H E e) : Out C H1 E e := by
  cases e <;> exact Out1.of s h
theorem Out1.imp {C : Addr} {f : Str} {v : V} {H : Hp} {E E' : XK} (i : ∀ c d H', E c d H' → E' c d H') (h : Out1 C f v H E) : Out1 C f v H E' := fun d H' s' n e => i _ _ _ (h d H' s' n e)
/-- check_new's word -/
def chkNew (v : V) (es : List Str) : Option Er :=
  match v with
  | .str z => if validN z then (if z ∈ es then some (.dup v) else none) else some (.inv v)
  | _ => some (.inv v)
/-- earlier is a list, a tuple or a dict of texts -/
def spNewL (K : PySem.W.Frag) (C : Cs) : Sp := fun vs H Q E => ∃ (v : V) (p : Addr) (es : List Str), vs = [v, .ref p] ∧ NmOk H v ∧ H p = some (.lst (es.map V.str)) ∧ (∀ H', Same H H' → chkNew v es = none → Q .non H') ∧ ∀ e, chkNew v es = some e → Out C H E e
def spNewD (K : PySem.W.Frag) (C : Cs) : Sp := fun vs H Q E => ∃ (v : V) (p : Addr) (kvs : List (Key × V)) (es : List Str), vs = [v, .ref p] ∧ NmOk H v ∧ H p = some (.dK kvs) ∧ kvs.map (·.1) = es.map Sum.inr ∧ (∀ H', Same H H' → chkNew v es = none → Q .non H') ∧ ∀ e, chkNew v es = some e → Out C H E e
theorem inV_str {z : Str} {es : List Str} : inV (.str z) (es.map V.str) = decide (z ∈ es) := by
  unfold inV
  rw [List.any_map]
  induction es with
  | nil => simp
  | cons a r ih =>
    rw [List.any_cons, ih]
    have e : ((fun y => eqV y (V.str z)) ∘ V.str) a = decide (a = z) := by
      show eqV (V.str a) (V.str z) = decide (a = z)
      unfold eqV
      first | rfl | simp
    rw [e]
    by_cases h : a = z
    · subst h; simp
    · have h2 : ¬ z = a := fun q => h q.symm
      simp [h, h2]
theorem flat_strs (es : List Str) : (es.map V.str).all flatV = true := by
  rw [List.all_map]
  induction es with
  | nil => rfl
  | cons a r ih => rw [List.all_cons, ih]; rfl
/-- check_name(name): nothing happens if it is a valid name, else InvalidName -/
def spCheckName (C : Cs) : Sp := fun vs H Q E => ∃ v : V, vs = [v] ∧ NmOk H v ∧ (∀ H', Same H H' → isNm v = true → Q .non H') ∧ (isNm v = false → Out C H E (.inv v))
section
variable {P : Program} {w : World} {K : PySem.W.Frag} {mg : Str → Option Value} {base : Heap} {C : Cs}
theorem scCheckName : FnScope ["name"] ["name"] (defScope sCheckName) := ⟨rfl, rfl, rfl, by decide +kernel, rfl, by decide +kernel, by decide +kernel⟩
theorem ok_checkname {f : Addr} {fd : FuncData} (F : Fun K "check_name" "check_name" sCheckName f fd) (gN : Dfn P w K mg base CX0 1 "is_name" ["value"] (spIsName K)) (xI : Ex P w K mg base "InvalidName" "name" C.inv) :
    FnOk P w K mg base (L2.CX P w) 3 f fd ["name"] (spCheckName C) := by
  obtain ⟨fN, dN, mN, kN, bN, GN⟩ := gN
  obtain ⟨fI, dI, TI, bI, GI⟩ := xI
  refine F.okX scCheckName (fun vs H Q E h => ?_) (fun cdv A outer s H vs Q E hr h => ?_)
  · obtain ⟨b, rfl, _⟩ := h
    rfl
  · obtain ⟨v, rfl, hv, k, kx⟩ := h
    have hr1 : Room 1 _ := hr.mono (by decide)
    have hr2 : Room 2 _ := hr.mono (by decide)
    refine ⟨_, pss_one (ps_if (pt_not (pt_val (pe_call GN hr1 (by rfl) mN kN bN .nil pass0 (pa_cons (pv 0) pa_nil))))
        (pss_one (ps_raise rfl (takes_of rfl rfl rfl rfl) (pmk_oex TI.oex TI.iC TI.tI GI hr2 bI .nil pass0 (by rfl) TI.gC (pa_cons (pv 0) pa_nil)))) pss_nil), ?_⟩
    refine ⟨_, rfl, v, rfl, hv, fun H1 s1 => ⟨_, rfl, ?_⟩⟩
    by_cases hn : isNm v = true
    · rw [hn]
      exact iteF (k H1 s1 hn)
    · have hn' : isNm v = false := by simpa using hn
      rw [hn']
      exact iteT ⟨_, rfl, raise_end (Out.of s1 (kx hn'))⟩
theorem scCheckNew : FnScope ["name", "earlier"] ["name", "earlier"] (defScope sCheckNew) := ⟨rfl, rfl, rfl, by decide +kernel, rfl, by decide +kernel, by decide +kernel⟩
theorem isNm_str {v : V} (h : isNm v = true) : ∃ z, v = .str z ∧ validN z = true := by
  cases v with
  | str z => exact ⟨z, rfl, h⟩
  | _ => cases h
theorem isSome_valV {kvs : List (Key × V)} {es : List Str} (h : kvs.map (·.1) = es.map Sum.inr) {z : Str} : (valV kvs (Sum.inr z)).isSome = decide (z ∈ es) := by
  unfold valV
  rw [Option.isSome_map, List.isSome_find?]
  have e : kvs.any (fun kv => decide (kv.1 = (Sum.inr z : Key))) = (kvs.map (·.1)).any (fun k => decide (k = (Sum.inr z : Key))) := by rw [List.any_map]; rfl
  rw [e, h, List.any_map]
  clear h e
  induction es with
  | nil => simp
  | cons a r ih =>
    rw [List.any_cons, ih]
    by_cases q : a = z
    · subst q; simp
    · have q2 : ¬ z = a := fun x => q x.symm
      simp [q, q2]
theorem ok_newL {f : Addr} {fd : FuncData} (F : Fun K "check_new" "check_new" sCheckNew f fd) (gN : Dfn P w K mg base (L2.CX P w) 3 "check_name" ["name"] (spCheckName C)) (xD : Ex P w K mg base "DuplicateName" "name" C.dup) :
    FnOk P w K mg base (L2.CX P w) 4 f fd ["name", "earlier"] (spNewL K C) := by
  obtain ⟨fN, dN, mN, kN, bN, GN⟩ := gN
  obtain ⟨fD, dD, TD, bD, GD⟩ := xD
  refine F.okX scCheckNew (fun vs H Q E h => ?_) (fun cdv A outer s H vs Q E hr h => ?_)
  · obtain ⟨b, n, es, rfl, _⟩ := h
    rfl
  · obtain ⟨v, p, es, rfl, hv, hp, k, kx⟩ := h
    have hr3 : Room 3 _ := hr.mono (by decide)
    have hr2 : Room 2 _ := hr.mono (by decide)
    refine ⟨_, pss_cons (ps_expr (pe_call GN hr3 (by rfl) mN kN bN .nil (passes_call (takes_of rfl rfl rfl rfl) (fun _ _ _ _ h => h)) (pa_cons (pv 0) pa_nil)))
      (pss_one (ps_if (pt_cmpR op_in_seq (pv 0) (pv 1) (by rfl))
        (pss_one (ps_raise rfl (takes_of rfl rfl rfl rfl) (pmk_oex TD.oex TD.iC TD.tI GD hr2 bD .nil pass0 (by rfl) TD.gC (pa_cons (pv 0) pa_nil)))) pss_nil)), ?_⟩
    refine ⟨_, rfl, v, rfl, hv, fun H1 s1 hn => ?_, fun hn' => ?_⟩
    · obtain ⟨z, rfl, hz⟩ := isNm_str hn
      refine ⟨_, rfl, _, rfl, p, _, rfl, .inl (SqL.of (s1 _ _ hp)), rfl, flat_strs es, _, rfl, ?_⟩
      show if (inV (.str z) (es.map V.str)) = true then _ else _
      by_cases hm : z ∈ es
      · rw [inV_str, decide_eq_true hm]
        refine iteT (?_)
        exact ⟨_, rfl, raise_end (Out.of s1 (kx (.dup (.str z)) (by simp [chkNew, hz, hm])))⟩
      · rw [inV_str, decide_eq_false hm]
        refine iteF (?_)
        exact k H1 s1 (by simp [chkNew, hz, hm])
    · have hc : chkNew v es = some (.inv v) := by
        cases v with
        | str z =>
          have hz : validN z = false := hn'
          simp [chkNew, hz]
        | _ => rfl
      exact kx _ hc
theorem ok_newD {f : Addr} {fd : FuncData} (F : Fun K "check_new" "check_new" sCheckNew f fd) (gN : Dfn P w K mg base (L2.CX P w) 3 "check_name" ["name"] (spCheckName C)) (xD : Ex P w K mg base "DuplicateName" "name" C.dup) :
    FnOk P w K mg base (L2.CX P w) 4 f fd ["name", "earlier"] (spNewD K C) := by
  obtain ⟨fN, dN, mN, kN, bN, GN⟩ := gN
  obtain ⟨fD, dD, TD, bD, GD⟩ := xD
  refine F.okX scCheckNew (fun vs H Q E h => ?_) (fun cdv A outer s H vs Q E hr h => ?_)
  · obtain ⟨b, n, kvs, es, rfl, _⟩ := h
    rfl
  · obtain ⟨v, p, kvs, es, rfl, hv, hp, hkv, k, kx⟩ := h
    have hr3 : Room 3 _ := hr.mono (by decide)
    have hr2 : Room 2 _ := hr.mono (by decide)
    refine ⟨_, pss_cons (ps_expr (pe_call GN hr3 (by rfl) mN kN bN .nil (passes_call (takes_of rfl rfl rfl rfl) (fun _ _ _ _ h => h)) (pa_cons (pv 0) pa_nil)))
      (pss_one (ps_if (pt_cmp (pc_din (hu_of hr) (pv 0) (pv 1)))
        (pss_one (ps_raise rfl (takes_of rfl rfl rfl rfl) (pmk_oex TD.oex TD.iC TD.tI GD hr2 bD .nil pass0 (by rfl) TD.gC (pa_cons (pv 0) pa_nil)))) pss_nil)), ?_⟩
    refine ⟨_, rfl, v, rfl, hv, fun H1 s1 hn => ?_, fun hn' => ?_⟩
    · obtain ⟨z, rfl, hz⟩ := isNm_str hn
      refine ⟨_, rfl, _, rfl, p, _, rfl, DGet.k (k := Sum.inr z) (s1 _ _ hp), _, rfl, ?_⟩
      by_cases hm : z ∈ es
      · rw [isSome_valV hkv, decide_eq_true hm]
        refine iteT (?_)
        exact ⟨_, rfl, raise_end (Out.of s1 (kx (.dup (.str z)) (by simp [chkNew, hz, hm])))⟩
      · rw [isSome_valV hkv, decide_eq_false hm]
        refine iteF (?_)
        exact k H1 s1 (by simp [chkNew, hz, hm])
    · have hc : chkNew v es = some (.inv v) := by
        cases v with
        | str z =>
          have hz : validN z = false := hn'
          simp [chkNew, hz]
        | _ => rfl
      exact kx _ hc
end
end Dl

/-! tuple(d) of a dict: my own rule -/
namespace Dl
open PySem PySem.Spec PyProof.Rows PySem.W PySem.Calls
section
variable {prog : Program} {w : World} {A : Around} {E : Value → Shared → Prop} {s : Shared} {d : Addr} {n : Nat} {P : Nat → Value → Prop} {OK : Heap → Prop}
theorem collect_src {Q : List Value → Shared → Prop} (K : KdlSrc prog w "dict" d d n P OK) (hh : A.handled = none) (hok : OK s.heap) (hn : n ≤ sizeLine)
    (hQ : ∀ (h' : Heap) (tk : Nat) (acc : Array Value), (∀ b o, s.heap.get? b = some o → h'.get? b = some o) → ItemsOf P acc n → Q acc.toList { s with heap := h', toks := tk }) :
    wpAny (model prog w) A (collect (.ref d)) Q E s := by
  unfold collect
  refine wpAny_bind (wpAny_runValue (codeAny_builtin F.entry_proto_collect ?_))
  rw [Around.under_plainId F.plain_proto_collect _]
  show wpAny _ A.in1 (newList [] >>= fun l => again (.builtin "list.__iadd__" ⟨[l, .ref d], []⟩)) _ _ s
  refine wpAny_bind (wpAny_newObj_type ?_)
  refine wpAny_pure ⟨plainId_quiet F.plain_list_iadd _, codeAny_builtin F.entry_list_iadd ?_⟩
  rw [Around.under_plainId F.plain_list_iadd _]
  show wpAny _ A.in1 (Builtin.List.listExtendWith (.ref s.heap.objs.size) (.ref d) (.ref s.heap.objs.size)) _ _ _
  have hS : (s.heap.push { cls := .type "list", data := .seq ([] : List Value).toArray }).get? s.heap.objs.size = some { cls := .type "list", data := .seq #[] 0 } := Heap.get?_push_size _ rfl
  have hlt := K.there _ hok
  refine wpAny_mono (kdl_extend (A := A) (R := fun rr s' => rr = .ok (.ret (.ref s.heap.objs.size)) ∧ ∃ (h' : Heap) (tk : Nat) (acc : Array Value) (c' : Nat), s' = { s with heap := h', toks := tk } ∧
      (∀ b o, s.heap.get? b = some o → h'.get? b = some o) ∧ h'.get? s.heap.objs.size = some { cls := .type "list", dict := none, data := .seq acc c', slots := #[] } ∧ ItemsOf P acc n)
    (s := { s with heap := s.heap.push { cls := .type "list", data := .seq ([] : List Value).toArray } }) K hh (K.keep _ _ hok fun b _ o e => Heap.get?_push_of_some _ e) _ (Nat.ne_of_gt hlt.1) (Nat.ne_of_gt hlt.2) _ 0 hS
    (fun h' tk acc c' hk e hi => ⟨rfl, h', tk, acc, c', rfl, fun b o q => hk b o (Nat.ne_of_lt (Heap.lt_size q)) (Heap.get?_push_of_some _ q), e, hi⟩) hn) (fun fin s' h => ?_) (fun e s' h => ?_)
  · cases fin with
    | done f =>
      obtain ⟨e, h', tk, acc, c', rfl, hk, hS', hi⟩ := h
      cases e
      show wpAny _ A (load s.heap.objs.size >>= _) _ _ _
      exact wpAny_bind (wpAny_load hS' (wpAny_pure (hQ h' tk acc hk hi)))
    | again c' =>
      refine ⟨h.1, codeAny_mono h.2 fun rr s'' hr' => ?_⟩
      obtain ⟨rfl, h', tk, acc, c', rfl, hk, hS', hi⟩ := hr'
      show wpAny _ A (load s.heap.objs.size >>= _) _ _ _
      exact wpAny_bind (wpAny_load hS' (wpAny_pure (hQ h' tk acc hk hi)))
  · exact absurd h.1 (by simp)
theorem code_tuple_new_src {Q₁ : Value → Shared → Prop} (K : KdlSrc prog w "dict" d d n P OK) (hh : A.handled = none) (hok : OK s.heap) (hn : n ≤ sizeLine)
    (h : ∀ (h' : Heap) (tk : Nat) (acc : Array Value), (∀ b o, s.heap.get? b = some o → h'.get? b = some o) → ItemsOf P acc n →
      Q₁ (.ref h'.objs.size) { s with heap := h'.push { cls := .type "tuple", data := .seq acc }, toks := tk }) :
    codeAny (model prog w) A (.call (.builtin "tuple.__new__") ⟨[.type "tuple", .ref d], []⟩) (wants Q₁ E) s := by
  refine codeAny_of_tree ?_
  show wpAny _ A.in1 (do checkBuiltinCall "tuple.__new__" ⟨[.type "tuple", .ref d], []⟩; again (.builtin "tuple.__new__" ⟨[.type "tuple", .ref d], []⟩)) _ _ s
  refine wpAny_bind (wpAny_of_eq (F.newCall_tuple_1 _) (wpAny_pure ⟨plainId_quiet F.plain_tuple_new _, codeAny_builtin F.entry_tuple_new ?_⟩))
  rw [Around.under_plainId F.plain_tuple_new _]
  have hsub := sub_tuple_self
  have hinit := init_tuple_lookup
  have hmh := madeHere_tuple
  have hTI : s.TypeIs (.ref d) "dict" := K.type _ hok
  have hh1 : A.in1.handled = none := hh
  wp_walk using wpAny_typeOf hTI, collect_src (A := A.in1) K hh1 hok hn
  intro h' tk acc hk hacc
  show wpAny _ _ (Builtin.Tuple.tupleExact acc.toList.toArray >>= fun v => ret v) _ _ _
  unfold Builtin.Tuple.tupleExact
  refine wpAny_bind (wpAny_newObj_type ?_ (by show acc.toList.toArray.size ≤ sizeLine; simp only [Array.toArray_toList]; rw [hacc.1]; exact hn))
  refine wpAny_pure ?_
  have e : acc.toList.toArray = acc := by simp
  rw [e]
  exact h h' tk acc hk hacc
theorem call_tuple_src {Q : Value → Shared → Prop} (K : KdlSrc prog w "dict" d d n P OK) (hh : A.handled = none) (hok : OK s.heap) (hn : n ≤ sizeLine)
    (hQ : ∀ (h' : Heap) (tk : Nat) (acc : Array Value), (∀ b o, s.heap.get? b = some o → h'.get? b = some o) → ItemsOf P acc n →
      Q (.ref h'.objs.size) { s with heap := h'.push { cls := .type "tuple", data := .seq acc }, toks := tk }) :
    wpAny (model prog w) A (call (.type "tuple") [.ref d]) Q E s := by
  refine callType_codes (Q₁ := fun obj s₁ => s₁.TypeIs obj "tuple" ∧ Q obj s₁) F.called_tuple (F.typeCall_tuple_1 _) F.entry_object_init
    (code_tuple_new_src (A := A.in1) K hh hok hn fun h' tk acc hk hacc => ⟨⟨_, Heap.get?_push_size _ rfl, rfl⟩, hQ h' tk acc hk hacc⟩) fun obj s₁ h₁ => ?_
  exact ⟨h₁.1, F.args_object_init_2 obj _, object_init_meets F.called_tuple.init.lookup F.called_tuple.made (by decide) prog w A.in1 _ s₁ ⟨h₁.1, rfl, h₁.2⟩⟩
end
open L2
theorem call_tuple_dK {X : Cx} (hc : X.calm = true) : CallR X (.type "tuple") (fun xs H Q => ∃ p kvs, xs = [.ref p] ∧ H p = some (.dK kvs) ∧ ∀ q, H q = none → Q (.ref q) (upd H q (.tup (kvs.map fun kv => kV kv.1)))) := by
  intro pins s σ H xs us Q I r h
  obtain ⟨p, kvs, e, hk, q⟩ := h
  subst e
  obtain ⟨u, eu, rx⟩ := vals1 r
  subst eu
  obtain rfl : u = Value.ref p := rx
  obtain ⟨z, lo, vs, rk, hd⟩ := (show ObjOk X.prog X.w H s.heap p (.dK kvs) from I.hok p _ hk)
  obtain ⟨ep, hat⟩ := hd.dictAt
  have hl : kvs.length = vs.length := Paired.length rk
  refine call_tuple_src (PySem.W.kdl_dict (knd := mixKind X.prog X.w) (kvs := vs) (ep := ep) lo) (I.ok.hd hc) hat (by rw [← hl]; exact z) fun h' tk acc hkeep hacc => ?_
  have I2 : Inv X pins σ H { s with heap := h', toks := tk } := I.kept hkeep
  refine ⟨.ref h'.objs.size, upd H h'.objs.size (.tup (kvs.map fun kv => kV kv.1)), I2.laid (t' := tk) (fun c o e => Heap.get?_push_of_some _ e) (Nat.le_refl _) (show ObjOk X.prog X.w _ _ _ (.tup (kvs.map fun kv => kV kv.1)) from ⟨?_, acc.toList, ?_, ?_⟩), rfl, q _ (I2.hok.fresh (Nat.le_refl _))⟩
  · rw [List.length_map]; exact z
  · have el : acc.toList.length = acc.size := by simp
    refine vals_of_at (by rw [List.length_map, el, hacc.1, hl]) fun j x w h1 h2 => ?_
    obtain ⟨k, y, hky, hi⟩ := hacc.2 j w (by rw [← Array.getElem?_toList]; exact h2)
    have e1 : (kvs.map (·.1))[j]? = some k := by
      rw [KV.keys rk, List.getElem?_map, hky] <;> rfl
    have e2 : (kvs.map fun kv => kV kv.1)[j]? = some (kV k) := by
      have e3 : (kvs.map fun kv => kV kv.1) = (kvs.map (·.1)).map kV := by rw [List.map_map] <;> rfl
      rw [e3, List.getElem?_map, e1] <;> rfl
    rw [e2] at h1
    cases h1
    exact keyIs_rel hi
  · rw [Array.toArray_toList]; exact IsTup.new _ _
end Dl

namespace Dl
open PySem L2
theorem NmOk.of {H H' : Hp} {v : V} (s : Same H H') (h : NmOk H v) : NmOk H' v := by
  cases v with
  | ref p => obtain ⟨xs, e⟩ := h; exact ⟨xs, s _ _ e⟩
  | str z => exact h
  | int i => exact h
  | non => exact h
  | bl _ => exact h
  | byt _ => exact h
  | flt _ => exact h
  | ty _ => exact h
theorem Same.tup {K : PySem.W.Frag} {H H' : Hp} {a : Addr} {xs : List V} (e : Same H H') (h : SqT K H a xs) : SqT K H' a xs := by
  rcases h with (h | ⟨o, h⟩) | h
  · exact .inl (.inl (e _ _ h))
  · exact .inl (.inr ⟨o, e _ _ h⟩)
  · exact .inr h
def knows (v : V) (es : List Str) : Bool :=
  match v with
  | .str z => decide (z ∈ es)
  | _ => false
/-- check_known(name, names), names a tuple of texts -/
def spKnown (K : PySem.W.Frag) (C : Cs) : Sp := fun vs H Q E => ∃ (v : V) (p : Addr) (es : List Str), vs = [v, .ref p] ∧ NmOk H v ∧ SqT K H p (es.map V.str) ∧ (knows v es = true → Q .non H) ∧ (knows v es = false → Out1 C.unk "name" v H E)
def strOf : V → Str
  | .str z => z
  | _ => ""
def chkNames : List V → List Str → Except Er (List Str)
  | [], acc => .ok acc
  | v :: r, acc => match chkNew v acc with
    | some e => .error e
    | none => chkNames r (acc ++ [strOf v])
theorem chkNew_none {v : V} {es : List Str} (h : chkNew v es = none) : ∃ z, v = .str z ∧ validN z = true ∧ z ∉ es := by
  cases v with
  | str z =>
    refine ⟨z, rfl, ?_⟩
    unfold chkNew at h
    by_cases h1 : validN z = true
    · by_cases h2 : z ∈ es
      · simp [h1, h2] at h
      · exact ⟨h1, h2⟩
    · simp [h1] at h
  | _ => simp [chkNew] at h
/-- distinct_names(names), names a list or a tuple -/
def spDistinct (K : PySem.W.Frag) (C : Cs) : Sp := fun vs H Q E => ∃ (p : Addr) (xs : List V), vs = [.ref p] ∧ (SqL K H p xs ∨ SqT K H p xs) ∧ (∀ v ∈ xs, NmOk H v) ∧ xs.length ≤ 1000 ∧
  (∀ es, chkNames xs [] = .ok es → ∀ H' t, Same H H' → H t = none → H' t = some (.tup (es.map V.str)) → Q (.ref t) H') ∧ ∀ e, chkNames xs [] = .error e → Out C H E e
section
variable {P : Program} {w : World} {K : PySem.W.Frag} {mg : Str → Option Value} {base : Heap} {C : Cs}
theorem scCheckKnown : FnScope ["name", "names"] ["name", "names"] (defScope sCheckKnown) := ⟨rfl, rfl, rfl, by decide +kernel, rfl, by decide +kernel, by decide +kernel⟩
theorem ok_known {f : Addr} {fd : FuncData} (F : Fun K "check_known" "check_known" sCheckKnown f fd) (T : TxtN mg) (xU : Ex P w K mg base "UnknownName" "name" C.unk) :
    FnOk P w K mg base (L2.CX P w) 4 f fd ["name", "names"] (spKnown K C) := by
  obtain ⟨fI, dI, TI, bI, GI⟩ := xU
  refine F.okX scCheckKnown (fun vs H Q E h => ?_) (fun cdv A outer s H vs Q E hr h => ?_)
  · obtain ⟨b, n, es, rfl, _⟩ := h
    rfl
  · obtain ⟨v, p, es, rfl, hv, hp, k, kx⟩ := h
    have hr2 : Room 2 _ := hr.mono (by decide)
    refine ⟨_, pss_one (ps_if (PW.pt (pw_or (pt_not (pt_val (pe_callB call_isi (by rfl) T.isi (by decide +kernel) (pa_cons (pv 0) (pa_cons (pe_bltn (v := .ty "str") (by rfl) T.str (by decide +kernel) rfl) pa_nil)))))
        (pw_or1 (pt_cmpR op_notIn_seq (pv 0) (pv 1) (by rfl)))))
        (pss_one (ps_raise rfl (takes_of rfl rfl rfl rfl) (pmk_oex TI.oex TI.iC TI.tI GI hr2 bI .nil pass0 (by rfl) TI.gC (pa_cons (pv 0) pa_nil)))) pss_nil), ?_⟩
    obtain ⟨ty, b, h1, h2, h3⟩ := nm_type K hv
    refine ⟨_, rfl, v, _, _, _, b, rfl, ClsV.ty "str", h1, h2, b, rfl, ?_⟩
    rcases h3 with ⟨rfl, h3, hns⟩ | ⟨rfl, z, rfl, hz⟩
    · refine iteT (?_)
      have hk : knows v es = false := by
        cases v with
        | str z => exact absurd rfl (hns z)
        | _ => rfl
      exact ⟨_, rfl, raise_end (kx hk)⟩
    · refine iteF (?_)
      refine ⟨_, rfl, _, rfl, p, _, rfl, .inr hp, rfl, flat_strs es, _, rfl, ?_⟩
      show if (!inV (.str z) (es.map V.str)) = true then _ else _
      rw [inV_str]
      by_cases hm : z ∈ es
      · rw [decide_eq_true hm]
        exact iteF (k (by simp [knows, hm]))
      · rw [decide_eq_false hm]
        exact iteT (⟨_, rfl, raise_end (kx (by simp [knows, hm]))⟩)
theorem scDistinct : FnScope ["names", "found", "name"] ["names"] (defScope sDistinct) := ⟨rfl, rfl, rfl, by decide +kernel, rfl, by decide +kernel, by decide +kernel⟩
theorem ok_distinct {f : Addr} {fd : FuncData} (F : Fun K "distinct_names" "distinct_names" sDistinct f fd) (mT : mg "tuple" = none) (gN : Dfn P w K mg base (L2.CX P w) 4 "check_new" ["name", "earlier"] (spNewL K C)) :
    FnOk P w K mg base (L2.CX P w) 6 f fd ["names"] (spDistinct K C) := by
  obtain ⟨fN, dN, mN, kN, bN, GN⟩ := gN
  refine F.okX scDistinct (fun vs H Q E h => ?_) (fun cdv A outer s H vs Q E hr h => ?_)
  · obtain ⟨b, n, rfl, _⟩ := h
    rfl
  · obtain ⟨p, xs, rfl, hp, hx, hlen, k, kx⟩ := h
    have hr4 : Room 4 _ := hr.mono (by decide)
    rcases hp with hp | hp
    · refine ⟨_, pss_cons (ps_set (i := 1) scDistinct.nd rfl (Or.inl rfl) (pe_lst pa_nil)) (pss_cons (ps_for (passes_of rfl) rfl (pi_list (pv 0)) (pg_name (i := 2) scDistinct.nd rfl (Or.inl rfl))
        (pss_cons (ps_expr (pe_call GN hr4 (by rfl) mN kN bN .nil (passes_call (takes_of rfl rfl rfl rfl) (fun _ _ _ _ h => h)) (pa_cons (pv 2) (pa_cons (pv 1) pa_nil))))
        (pss_one (ps_expr (pe_bm PySem.F.plainAttrs_list PySem.F.slot_list_append PySem.F.type_list_append mt_append (pv 1) (pa_cons (pv 2) pa_nil))))))
        (pss_one (ps_ret (pe_callTy call_tuple_of (by rfl) mT (by decide +kernel) (pa_cons (pv 1) pa_nil))))), ?_⟩
      refine ⟨Nat.zero_le _, fun l hl => ⟨_, rfl, p, rfl, ⟨_, Same.seq (Same.upd_new hl) hp⟩, for_it (walk_list (K := K) (a := p) (xs := xs)) (fun i σ H' => ∃ (acc : List Str) (x : Option V), σ = [some (.ref p), some (.ref l), x] ∧ H' l = some (.lst (acc.map V.str)) ∧ Same H H' ∧ chkNames (xs.drop i) acc = chkNames xs [] ∧ acc.length ≤ i)
        ⟨[], none, rfl, upd_same, Same.upd_new hl, rfl, Nat.le_refl _⟩ (fun i σ H' _ ⟨_, _, _, _, s1, _⟩ => Same.seq s1 hp) ?_ ?_⟩⟩
      · rintro i v σ H1 H2 hi ⟨acc, x, rfl, hL, s1, hc, ha⟩ ⟨rfl, hv⟩
        have hd : xs.drop i = v :: xs.drop (i + 1) := by
          rw [List.drop_eq_getElem_cons hi]
          have q := (List.getElem?_eq_some_iff.mp hv).2
          rw [q]
        rw [hd] at hc
        refine ⟨_, rfl, _, rfl, v, l, acc, rfl, (hx v (List.mem_of_getElem? hv)).of s1, hL, fun H3 s3 hn => ?_, fun e he => ?_⟩
        · obtain ⟨z, rfl, _, _⟩ := chkNew_none hn
          refine ⟨_, rfl, .inl ⟨rfl, _, SqL.of (s3 _ _ hL)⟩, _, rfl, l, _, _, rfl, rfl, s3 _ _ hL, ?_, ?_⟩
          · rw [List.length_map]
            exact small1000 (by omega)
          · refine ⟨acc ++ [z], _, rfl, ?_, fun b o e => ?_, ?_, ?_⟩
            · rw [upd_same, List.map_append]; rfl
            · rw [upd_ne (ne_of_none e hl)]
              exact s3 _ _ (s1 _ _ e)
            · rw [← hc, chkNames, hn]
              rfl
            · rw [List.length_append]
              simp
              omega
        · have hce : chkNames xs [] = .error e := by rw [← hc, chkNames, he]
          exact Out.of s1 (kx e hce)
      · rintro σ H1 ⟨acc, x, rfl, hL, s1, hc, ha⟩
        rw [List.drop_length] at hc
        refine ⟨_, rfl, l, _, rfl, .inl ⟨SqL.of hL, fun t ht => ?_⟩⟩
        exact k acc hc.symm _ t (s1.trans (Same.upd_new ht)) (s1.free ht) upd_same
    · refine ⟨_, pss_cons (ps_set (i := 1) scDistinct.nd rfl (Or.inl rfl) (pe_lst pa_nil)) (pss_cons (ps_for (passes_of rfl) rfl (pi_tup (pv 0)) (pg_name (i := 2) scDistinct.nd rfl (Or.inl rfl))
        (pss_cons (ps_expr (pe_call GN hr4 (by rfl) mN kN bN .nil (passes_call (takes_of rfl rfl rfl rfl) (fun _ _ _ _ h => h)) (pa_cons (pv 2) (pa_cons (pv 1) pa_nil))))
        (pss_one (ps_expr (pe_bm PySem.F.plainAttrs_list PySem.F.slot_list_append PySem.F.type_list_append mt_append (pv 1) (pa_cons (pv 2) pa_nil))))))
        (pss_one (ps_ret (pe_callTy call_tuple_of (by rfl) mT (by decide +kernel) (pa_cons (pv 1) pa_nil))))), ?_⟩
      refine ⟨Nat.zero_le _, fun l hl => ⟨_, rfl, p, rfl, ⟨_, Same.tup (Same.upd_new hl) hp⟩, for_it (walk_tup (K := K) (a := p) (xs := xs)) (fun i σ H' => ∃ (acc : List Str) (x : Option V), σ = [some (.ref p), some (.ref l), x] ∧ H' l = some (.lst (acc.map V.str)) ∧ Same H H' ∧ chkNames (xs.drop i) acc = chkNames xs [] ∧ acc.length ≤ i)
        ⟨[], none, rfl, upd_same, Same.upd_new hl, rfl, Nat.le_refl _⟩ (fun i σ H' _ ⟨_, _, _, _, s1, _⟩ => Same.tup s1 hp) ?_ ?_⟩⟩
      · rintro i v σ H1 H2 hi ⟨acc, x, rfl, hL, s1, hc, ha⟩ ⟨rfl, hv⟩
        have hd : xs.drop i = v :: xs.drop (i + 1) := by
          rw [List.drop_eq_getElem_cons hi]
          have q := (List.getElem?_eq_some_iff.mp hv).2
          rw [q]
        rw [hd] at hc
        refine ⟨_, rfl, _, rfl, v, l, acc, rfl, (hx v (List.mem_of_getElem? hv)).of s1, hL, fun H3 s3 hn => ?_, fun e he => ?_⟩
        · obtain ⟨z, rfl, _, _⟩ := chkNew_none hn
          refine ⟨_, rfl, .inl ⟨rfl, _, SqL.of (s3 _ _ hL)⟩, _, rfl, l, _, _, rfl, rfl, s3 _ _ hL, ?_, ?_⟩
          · rw [List.length_map]
            exact small1000 (by omega)
          · refine ⟨acc ++ [z], _, rfl, ?_, fun b o e => ?_, ?_, ?_⟩
            · rw [upd_same, List.map_append]; rfl
            · rw [upd_ne (ne_of_none e hl)]
              exact s3 _ _ (s1 _ _ e)
            · rw [← hc, chkNames, hn]
              rfl
            · rw [List.length_append]
              simp
              omega
        · have hce : chkNames xs [] = .error e := by rw [← hc, chkNames, he]
          exact Out.of s1 (kx e hce)
      · rintro σ H1 ⟨acc, x, rfl, hL, s1, hc, ha⟩
        rw [List.drop_length] at hc
        refine ⟨_, rfl, l, _, rfl, .inl ⟨SqL.of hL, fun t ht => ?_⟩⟩
        exact k acc hc.symm _ t (s1.trans (Same.upd_new ht)) (s1.free ht) upd_same
end
end Dl

namespace Dl
open PySem L2
/-- the shown lamps: known ones, none of them twice -/
def chkShown : List V → List Str → List Str → Option Er
  | [], _, _ => none
  | v :: r, es, prev => if knows v es then (if strOf v ∈ prev then some (.dup v) else chkShown r es (prev ++ [strOf v])) else some (.unk v)
theorem knows_str {v : V} {es : List Str} (h : knows v es = true) : ∃ z, v = .str z ∧ z ∈ es := by
  cases v with
  | str z => exact ⟨z, rfl, of_decide_eq_true h⟩
  | _ => cases h
def spShown (K : PySem.W.Frag) (C : Cs) : Sp := fun vs H Q E => ∃ (p q : Addr) (xs : List V) (es : List Str), vs = [.ref p, .ref q] ∧ SqL K H p xs ∧ (∀ v ∈ xs, NmOk H v) ∧ xs.length ≤ 1000 ∧ SqT K H q (es.map V.str) ∧
  (∀ H', chkShown xs es [] = none → Same H H' → Q .non H') ∧ ∀ e, chkShown xs es [] = some e → Out C H E e
theorem cut_take (xs : List V) (i : Nat) : cutV xs none (some (i : Int)) = xs.take i := by
  unfold cutV
  rw [HT.sIx_nat, HT.sIx_none]
  simp only [List.drop_zero, Nat.sub_zero]
  by_cases h : i ≤ xs.length
  · rw [Nat.min_eq_left h]
  · rw [Nat.min_eq_right (by omega), List.take_of_length_le (by omega), List.take_of_length_le (by omega)]
section
variable {P : Program} {w : World} {K : PySem.W.Frag} {mg : Str → Option Value} {base : Heap} {C : Cs}
theorem scCheckShown : FnScope ["shown", "lamps", "at", "lamp"] ["shown", "lamps"] (defScope sCheckShown) := ⟨rfl, rfl, rfl, by decide +kernel, rfl, by decide +kernel, by decide +kernel⟩
theorem ok_shown {f : Addr} {fd : FuncData} (F : Fun K "_check_shown" "_check_shown" sCheckShown f fd) (mE : mg "enumerate" = none) (gN : Dfn P w K mg base (L2.CX P w) 4 "check_known" ["name", "names"] (spKnown K C)) (xD : Ex P w K mg base "DuplicateName" "name" C.dup) :
    FnOk P w K mg base (L2.CX P w) 6 f fd ["shown", "lamps"] (spShown K C) := by
  obtain ⟨fN, dN, mN, kN, bN, GN⟩ := gN
  obtain ⟨fD, dD, TD, bD, GD⟩ := xD
  refine F.okX scCheckShown (fun vs H Q E h => ?_) (fun cdv A outer s H vs Q E hr h => ?_)
  · obtain ⟨b, n, xs, es, rfl, _⟩ := h
    rfl
  · obtain ⟨p, q, xs, es, rfl, hp, hx, hlen, hq, k, kx⟩ := h
    have hr4 : Room 4 _ := hr.mono (by decide)
    have hr2 : Room 2 _ := hr.mono (by decide)
    refine ⟨_, pss_one (ps_for (passes_of rfl) rfl (pi_enum (by rfl) mE (pa_cons (pv 0) pa_nil)) (pg_tup rfl (pgs_cons (pg_name (i := 2) scCheckShown.nd rfl (Or.inl rfl)) (pgs_cons (pg_name (i := 3) scCheckShown.nd rfl (Or.inl rfl)) pgs_nil)))
        (pss_cons (ps_expr (pe_call GN hr4 (by rfl) mN kN bN .nil (passes_call (takes_of rfl rfl rfl rfl) (fun _ _ _ _ h => h)) (pa_cons (pv 3) (pa_cons (pv 1) pa_nil))))
        (pss_one (ps_if (pt_cmpR op_in_seq (pv 3) (pe_slice sl_list (pv 0) po_none (po_some (pv 2))) (by rfl))
          (pss_one (ps_raise rfl (takes_of rfl rfl rfl rfl) (pmk_oex TD.oex TD.iC TD.tI GD hr2 bD .nil pass0 (by rfl) TD.gC (pa_cons (pv 3) pa_nil)))) pss_nil)))), ?_⟩
    refine ⟨_, rfl, p, xs, rfl, hp, for_it (walk_enum (K := K) (a := p) (xs := xs)) (fun i σ H' => ∃ (x y : Option V) (prev : List Str), σ = [some (.ref p), some (.ref q), x, y] ∧ Same H H' ∧ xs.take i = prev.map V.str ∧ chkShown (xs.drop i) es prev = chkShown xs es [])
      ⟨none, none, [], rfl, Same.refl H, rfl, rfl⟩ (fun i σ H' _ ⟨_, _, _, _, s1, _⟩ => Same.seq s1 hp) ?_ ?_⟩
    · rintro i v σ H1 H2 hi ⟨x, y, prev, rfl, s1, ht, hc⟩ ⟨T, a, v, rfl, hT, rfl, ea, hv⟩
      cases ea
      have hd : xs.drop i = v :: xs.drop (i + 1) := by
        rw [List.drop_eq_getElem_cons hi]
        have q := (List.getElem?_eq_some_iff.mp hv).2
        rw [q]
      rw [hd] at hc
      have s2 : Same H (upd H1 T (.tup [.int (i : Nat), v])) := s1.trans (Same.upd_new hT)
      refine ⟨T, _, rfl, SqT.of upd_same, rfl, _, _, rfl, _, _, rfl, rfl, ?_⟩
      refine ⟨_, rfl, _, rfl, v, q, es, rfl, (hx v (List.mem_of_getElem? hv)).of s2, Same.tup s2 hq, fun hk => ?_, fun hk => ?_⟩
      · obtain ⟨z, rfl, hz⟩ := knows_str hk
        refine ⟨_, rfl, _, rfl, _, rfl, (i : Int), rfl, p, xs, rfl, Same.seq s2 hp, fun l hl => ?_⟩
        have hl' : (upd H1 T (.tup [.int (i : Nat), V.str z])) l = none := hl
        refine ⟨l, _, rfl, .inl (SqL.of upd_same), rfl, ?_, _, rfl, ?_⟩
        · rw [cut_take, ht]
          exact flat_strs prev
        · show if (inV (.str z) (cutV xs none (some (i : Int)))) = true then _ else _
          rw [cut_take, ht, inV_str]
          by_cases hm : z ∈ prev
          · rw [decide_eq_true hm]
            refine iteT (⟨_, rfl, raise_end ?_⟩)
            have hce : chkShown xs es [] = some (.dup (.str z)) := by
              rw [← hc, chkShown, if_pos hk, if_pos (show strOf (.str z) ∈ prev from hm)]
            exact Out.of (e := .dup (.str z)) (s2.trans (Same.upd_new hl')) (kx _ hce)
          · rw [decide_eq_false hm]
            refine iteF ?_
            refine ⟨_, _, prev ++ [z], rfl, s2.trans (Same.upd_new hl'), ?_, ?_⟩
            · have hv2 : xs[i]? = some (V.str z) := hv
              rw [List.take_succ, ht, hv2, List.map_append]
              rfl
            · rw [← hc, chkShown, if_pos hk, if_neg (show ¬ strOf (.str z) ∈ prev from hm)]
              rfl
      · have hce : chkShown xs es [] = some (.unk v) := by
          rw [← hc, chkShown, if_neg (by rw [hk]; decide)]
        exact Out1.of s2 (kx _ hce)
    · rintro σ H1 ⟨x, y, prev, rfl, s1, ht, hc⟩
      rw [List.drop_length] at hc
      exact k H1 hc.symm s1
end
end Dl

namespace Dl
open PySem PySem.Spec PyProof.Rows L2
/-! enumerate(t) of a tuple: my own rule -/
theorem enum_new_tup (l : Addr) (items : Array Value) (n : Nat) (dct : Option Addr) (sl : Array (Option Value)) :
    Meets (Builtin.«enumerate.__new__» ⟨[.type "enumerate", .ref l], []⟩) (fun _ R s => s.heap.get? l = some { cls := .type "tuple", dict := dct, data := .seq items n, slots := sl } ∧
      R (.ok (.ret (.ref (s.heap.push { cls := .type "tuple_iterator", data := .fields #[.ref l, .int 0 0] }).objs.size)))
        { s with heap := (s.heap.push { cls := .type "tuple_iterator", data := .fields #[.ref l, .int 0 0] }).push { cls := .type "enumerate", data := .fields #[.none, .bool false, .ref s.heap.objs.size, rawInt 0, .none, .none] } }) :=
  .of_wp fun prog w A R s h => by
    obtain ⟨hp, g, d, tk, os⟩ := s
    obtain ⟨hl, h⟩ := h
    have hsub := sub_enumerate
    have hT : Heap.IsTuple (Shared.heap ⟨hp, g, d, tk, os⟩) l items := ⟨_, hl, rfl, n, rfl⟩
    wp_walk using AutoSeq1.wpAny_loadPart' hl
    refine wpAny_stack_any fun st => wpAny_pure ?_
    split
    · rename_i c _ _ _ _ _
      cases (c == Value.type "enumerate") <;>
        (wp_walk using AutoSeq1.wpAny_loadPart' hl, wpAny_pyIter_tuple hT
         exact ⟨_, rfl, h⟩)
    · wp_walk using AutoSeq1.wpAny_loadPart' hl, wpAny_pyIter_tuple hT
      exact ⟨_, rfl, h⟩
end Dl
namespace Dl
open PySem PySem.Spec PyProof.Rows L2
section
variable {prog : Program} {w : World} {A : Around} {E : Value → Shared → Prop} {s : Shared}
theorem call_enum_tup {l : Addr} {items : Array Value} {Q : Value → Shared → Prop} (hL : s.heap.IsTuple l items)
    (h : ∀ h', IsEnum h' (s.heap.objs.size + 1) s.heap.objs.size 0 .none → h'.IsTupleIter s.heap.objs.size l 0 → h'.objs.size = s.heap.objs.size + 2 →
      (∀ b o, s.heap.get? b = some o → h'.get? b = some o) → Q (.ref (s.heap.objs.size + 1)) { s with heap := h' }) :
    wpAny (model prog w) A (call (.type "enumerate") [.ref l]) Q E s := by
  obtain ⟨⟨c, dct, dt, sl⟩, hl, hc, n, hd⟩ := hL
  have hc' : c = .type "tuple" := hc
  have hd' : dt = .seq items n := hd
  subst hc' hd'
  refine callType_new F.called_enumerate (by decide) (F.typeCall_enumerate_1 _) (F.newCall_enumerate_1 _) (fun obj => F.args_object_init_2 obj _) F.entry_enumerate_new (enum_new_tup l items n dct sl) ⟨hl, ?_⟩
  generalize hp1 : s.heap.push { cls := .type "tuple_iterator", data := .fields #[.ref l, .int 0 0] } = h1
  have hz : h1.objs.size = s.heap.objs.size + 1 := by rw [← hp1]; exact Heap.size_push ..
  show _ ∧ _
  rw [hz]
  generalize hp2 : h1.push { cls := .type "enumerate", data := .fields #[.none, .bool false, .ref s.heap.objs.size, rawInt 0, .none, .none] } = h2
  have he : IsEnum h2 (s.heap.objs.size + 1) s.heap.objs.size 0 .none := by
    have q := Heap.get?_push_size h1 (o := { cls := .type "enumerate", data := .fields #[.none, .bool false, .ref s.heap.objs.size, rawInt 0, .none, .none] }) rfl
    rw [hz, hp2] at q
    exact q
  have up1 : ∀ b o, s.heap.get? b = some o → h1.get? b = some o := fun b o x => by rw [← hp1]; exact Heap.get?_push_of_some _ x
  have up2 : ∀ b o, h1.get? b = some o → h2.get? b = some o := fun b o x => by rw [← hp2]; exact Heap.get?_push_of_some _ x
  have it1 : h1.get? s.heap.objs.size = some { cls := .type "tuple_iterator", data := .fields #[.ref l, .int 0 0] } := by rw [← hp1]; exact Heap.get?_push_size _ rfl
  exact ⟨⟨_, he, rfl⟩, h _ he ⟨_, up2 _ _ it1, rfl, rfl⟩ (by rw [← hp2, Heap.size_push, hz]) fun b o x => up2 _ _ (up1 _ _ x)⟩
end
/-- the tuple at a, each item in a new pair with its number -/
def IteT (K : PySem.W.Frag) (a : Addr) : It :=
  ⟨fun i H => ∃ (xs : List V) (x : V), SqT K H a xs ∧ xs[i]? = some x, fun i H v H' => ∃ T x, v = .ref T ∧ H T = none ∧ H' = upd H T (.tup [.int (i : Nat), x]) ∧ ∀ xs, SqT K H a xs → xs[i]? = some x, fun i H => ∃ xs : List V, SqT K H a xs ∧ xs.length = i⟩
theorem turn_enumT {P : Program} {w : World} {K : PySem.W.Frag} {elts : List Expr} {kk : Nat} {tpos : Pos} (a e it : Addr) :
    Turn P w K (.Tuple elts kk tpos) (IteT K a) [e, it] e (fun i h => (∃ old, IsEnum h e it ((i : Nat) : Int) old) ∧ h.IsTupleIter it a i ∧ e ≠ it) where
  mem := by simp
  obj := fun i h st b hb => by
    obtain ⟨⟨old, he⟩, ⟨o, ho, hc, hd⟩, _⟩ := st
    have two : b = e ∨ b = it := by simpa using hb
    rcases two with rfl | rfl
    · exact ⟨_, he, fun v q => nomatch q⟩
    · exact ⟨o, ho, fun v q => by rw [hd] at q; cases q⟩
  keep := fun i h h' st k => by
    obtain ⟨⟨old, he⟩, hi, hne⟩ := st
    exact ⟨⟨old, k e (by simp) _ he⟩, hi.at fun o q => k it (by simp) o q, hne⟩
  item := by
    intro X hP hw hK hc i pins s σ H E I hf st hg
    subst hP hw hK
    obtain ⟨⟨old, he⟩, hit, hne⟩ := st
    obtain ⟨xs, x, hq, hx⟩ := hg
    obtain ⟨its, rv, p, hz⟩ := I.tuple hq
    have hp : s.heap.IsTuple a its.toArray := p
    obtain ⟨u, hu, ru⟩ := rv.get hx
    have hel : e < s.heap.objs.size := Heap.lt_size he
    have hil : it < s.heap.objs.size := by obtain ⟨_, q, _⟩ := hit; exact Heap.lt_size q
    have nai : a ≠ it := fun z => by
      obtain ⟨o1, q1, c1, _⟩ := hp
      obtain ⟨o2, q2, c2, _⟩ := hit
      rw [z, q2] at q1
      cases q1
      rw [c2] at c1
      exact absurd c1 (by decide)
    have nea : e ≠ a := fun z => by
      obtain ⟨o1, q1, c1, _⟩ := hp
      have q2 := he
      rw [z] at q2
      have q3 := q1.symm.trans q2
      cases q3
      have c2 : Value.type "enumerate" = Value.type "tuple" := c1
      exact absurd c2 (by decide)
    have hi : i < its.toArray.size := by
      have := (List.getElem?_eq_some_iff.mp hu).1
      simpa using this
    refine wpAny_pyNext_enum_itemC (Draws.tuple (prog := X.prog) (w := X.w) (A := X.A.in1) (show X.A.in1.handled = none from I.ok.hd hc) it a nai its.toArray) he ⟨hit, hp⟩ hi hne (by simp [hne, nea]) fun y h' tk hy ho st' hT hsz hk => ?_
    have ey : y = u := by
      have q : its.toArray[i]? = some y := hy
      rw [List.getElem?_toArray, hu] at q
      exact (Option.some.inj q).symm
    subst ey
    refine ⟨_, rfl, wpAny_letOwnedTupleGo_enum (s := { s with heap := h', toks := tk + 1 }) ho fun h'' he' sb => ?_⟩
    have hT2 : h''.get? s.heap.objs.size = some { cls := .type "tuple", data := .seq #[.int i tk, y] } := (sb.2 _ (Nat.ne_of_gt hel)).trans hT
    have new : ObjOk X.prog X.w (upd H s.heap.objs.size (.tup [.int (i : Nat), x])) h'' s.heap.objs.size (.tup [.int (i : Nat), x]) :=
      ⟨by show 2 ≤ sizeLine; decide, [.int i tk, y], .cons ⟨_, rfl⟩ (.cons ru .nil), ⟨_, hT2, rfl, _, rfl⟩⟩
    have I1 : Inv X pins σ (upd H s.heap.objs.size (.tup [.int (i : Nat), x])) { s with heap := h'', toks := tk + 1 } :=
      I.turnedNew (t' := tk + 1) (ch := [e, it]) (fun b ob hb q => (sb.2 b (fun z => hb (by simp [z]))).trans (hk b ob (fun z => hb (by simp [z])) (fun z => hb (by simp [z])) q)) hf (Nat.le_refl _) new
    refine ⟨.ref s.heap.objs.size, _, I1, rfl, ⟨_, x, rfl, I.hok.fresh (Nat.le_refl _), rfl, fun ys hys => by rw [I.tuple_inj hys hq]; exact hx⟩, ⟨⟨y, ?_⟩, st'.1.at fun o q => (sb.2 it (Ne.symm hne)).trans q, hne⟩, fun b hb => ?_⟩
    · have e1 : ((i + 1 : Nat) : Int) = (i : Int) + 1 := by omega
      rw [e1]
      exact he'
    · have lt : b < s.heap.objs.size := by
        have two : b = e ∨ b = it := by simpa using hb
        rcases two with rfl | rfl
        · exact hel
        · exact hil
      rw [upd_ne (Nat.ne_of_lt lt)]
      exact (hf b hb).1
  done := by
    intro X hP hw hK hc i pins s σ H E I hf st hg
    subst hP hw hK
    obtain ⟨⟨old, he⟩, hit, hne⟩ := st
    obtain ⟨xs, hq, hx⟩ := hg
    obtain ⟨its, rv, p, hz⟩ := I.tuple hq
    have hp : s.heap.IsTuple a its.toArray := p
    obtain ⟨f0, f1, f2, f3, f4, f5⟩ := hf it (by simp)
    have nai : a ≠ it := fun z => by
      obtain ⟨o1, q1, c1, _⟩ := hp
      obtain ⟨o2, q2, c2, _⟩ := hit
      rw [z, q2] at q1
      cases q1
      rw [c2] at c1
      exact absurd c1 (by decide)
    have hl : its.toArray.size = i := by
      have := rv.length
      simp
      omega
    exact wpAny_pyNext_enum_endD (Draws.tuple (prog := X.prog) (w := X.w) (A := X.A.in1) (show X.A.in1.handled = none from I.ok.hd hc) it a nai its.toArray) he ⟨by rw [hl]; exact hit, hp⟩ fun h' eb => ⟨rfl, I.turned (t' := s.toks) (fun b o hb q => eb b o hb q) f0 f1 f3 f4 f5⟩
  self := fun A i s Q E st h => let ⟨⟨_, he⟩, _⟩ := st; wpAny_pyIter_enum he h
def iEnumT (K : PySem.W.Frag) (ta : TA) : TI := fun σ H R => ta σ H fun vs H1 => ∃ a xs, vs = [.ref a] ∧ SqT K H1 a xs ∧ R (IteT K a) H1
theorem pi_enumT {X : Cx} {e : Expr} {ta : TA} {p pos tpos : Pos} {elts : List Expr} {kk : Nat} (hg : Gl X "enumerate") (hm : X.mg "enumerate" = none) (ha : PA X [e] ta) (hs : starEach [e] X.env = [(false, eval e X.env)] := by rfl) :
    PI X (.Tuple elts kk tpos) (.Call (.Name "enumerate" p) [e] [] pos) (iEnumT X.K ta) := by
  constructor
  intro pins s σ H R I h
  refine Call_ ?_
  refine ld_blt I hg hm boot_enumerate ?_
  apply PyProof.Rows.callWith_type1 _ hs rfl
  apply thn (ha.run pos pins s σ H _ I h)
  rintro us s1 ⟨vs, H1, I1, r1, a, xs, rfl, hq, q⟩
  obtain ⟨u, rfl, ru⟩ := vals1 r1
  cases ru
  obtain ⟨its, rv, p', hz⟩ := I1.tuple hq
  refine call_enum_tup (show s1.heap.IsTuple a its.toArray from p') fun h' he hit hsz hk => wpAny_pyIter_enum he ?_
  have I2 : Inv X pins σ H1 { s1 with heap := h' } := I1.kept (t' := s1.toks) hk
  refine ⟨s1.heap.objs.size + 1, [s1.heap.objs.size + 1, s1.heap.objs.size], _, _, H1, rfl, I2, turn_enumT a (s1.heap.objs.size + 1) s1.heap.objs.size, ⟨⟨.none, he⟩, hit, Nat.succ_ne_self _⟩, fun b hb => ?_, q⟩
  have hle : s1.heap.objs.size ≤ b := by
    have two : b = s1.heap.objs.size + 1 ∨ b = s1.heap.objs.size := by simpa using hb
    rcases two with z | z
    · rw [z]; exact Nat.le_add_right _ _
    · rw [z]; exact Nat.le_refl _
  exact I1.fpOk hle (I1.hok.fresh hle)
theorem walk_enumT {K : PySem.W.Frag} {a : Addr} {xs : List V} : Walk (IteT K a) xs.length (fun H => SqT K H a xs) (YPair (fun i => some (.int (i : Nat))) (fun i => xs[i]?)) := by
  constructor
  · intro i H hi q
    exact ⟨xs, xs[i], q, by simp [hi]⟩
  · intro H q
    exact ⟨xs, q, rfl⟩
  · rintro i H v H' _ q ⟨T, x, h1, h2, h3, h4⟩
    exact ⟨T, .int (i : Nat), x, h1, h2, h3, rfl, h4 xs q⟩
end Dl

namespace Dl
open PySem L2
def spShown2 (K : PySem.W.Frag) (C : Cs) : Sp := fun vs H Q E => ∃ (p q : Addr) (xs : List V) (es : List Str), vs = [.ref p, .ref q] ∧ (SqL K H p xs ∨ SqT K H p xs) ∧ (∀ v ∈ xs, NmOk H v) ∧ xs.length ≤ 1000 ∧ SqT K H q (es.map V.str) ∧
  (∀ H', chkShown xs es [] = none → Same H H' → Q .non H') ∧ ∀ e, chkShown xs es [] = some e → Out C H E e
section
variable {P : Program} {w : World} {K : PySem.W.Frag} {mg : Str → Option Value} {base : Heap} {C : Cs}
theorem ok_shown2 {f : Addr} {fd : FuncData} (F : Fun K "_check_shown" "_check_shown" sCheckShown f fd) (mE : mg "enumerate" = none) (gN : Dfn P w K mg base (L2.CX P w) 4 "check_known" ["name", "names"] (spKnown K C)) (xD : Ex P w K mg base "DuplicateName" "name" C.dup) :
    FnOk P w K mg base (L2.CX P w) 6 f fd ["shown", "lamps"] (spShown2 K C) := by
  obtain ⟨fN, dN, mN, kN, bN, GN⟩ := gN
  obtain ⟨fD, dD, TD, bD, GD⟩ := xD
  refine F.okX scCheckShown (fun vs H Q E h => ?_) (fun cdv A outer s H vs Q E hr h => ?_)
  · obtain ⟨b, n, xs, es, rfl, _⟩ := h
    rfl
  · obtain ⟨p, q, xs, es, rfl, hp, hx, hlen, hq, k, kx⟩ := h
    have hr4 : Room 4 _ := hr.mono (by decide)
    have hr2 : Room 2 _ := hr.mono (by decide)
    rcases hp with hp | hp
    · refine ⟨_, pss_one (ps_for (passes_of rfl) rfl (pi_enum (by rfl) mE (pa_cons (pv 0) pa_nil)) (pg_tup rfl (pgs_cons (pg_name (i := 2) scCheckShown.nd rfl (Or.inl rfl)) (pgs_cons (pg_name (i := 3) scCheckShown.nd rfl (Or.inl rfl)) pgs_nil)))
          (pss_cons (ps_expr (pe_call GN hr4 (by rfl) mN kN bN .nil (passes_call (takes_of rfl rfl rfl rfl) (fun _ _ _ _ h => h)) (pa_cons (pv 3) (pa_cons (pv 1) pa_nil))))
          (pss_one (ps_if (pt_cmpR op_in_seq (pv 3) (pe_slice sl_list (pv 0) po_none (po_some (pv 2))) (by rfl))
            (pss_one (ps_raise rfl (takes_of rfl rfl rfl rfl) (pmk_oex TD.oex TD.iC TD.tI GD hr2 bD .nil pass0 (by rfl) TD.gC (pa_cons (pv 3) pa_nil)))) pss_nil)))), ?_⟩
      refine ⟨_, rfl, p, xs, rfl, hp, for_it (walk_enum (K := K) (a := p) (xs := xs)) (fun i σ H' => ∃ (x y : Option V) (prev : List Str), σ = [some (.ref p), some (.ref q), x, y] ∧ Same H H' ∧ xs.take i = prev.map V.str ∧ chkShown (xs.drop i) es prev = chkShown xs es [])
        ⟨none, none, [], rfl, Same.refl H, rfl, rfl⟩ (fun i σ H' _ ⟨_, _, _, _, s1, _⟩ => Same.seq s1 hp) ?_ ?_⟩
      · rintro i v σ H1 H2 hi ⟨x, y, prev, rfl, s1, ht, hc⟩ ⟨T, a, v, rfl, hT, rfl, ea, hv⟩
        cases ea
        have hd : xs.drop i = v :: xs.drop (i + 1) := by
          rw [List.drop_eq_getElem_cons hi]
          have q := (List.getElem?_eq_some_iff.mp hv).2
          rw [q]
        rw [hd] at hc
        have s2 : Same H (upd H1 T (.tup [.int (i : Nat), v])) := s1.trans (Same.upd_new hT)
        refine ⟨T, _, rfl, SqT.of upd_same, rfl, _, _, rfl, _, _, rfl, rfl, ?_⟩
        refine ⟨_, rfl, _, rfl, v, q, es, rfl, (hx v (List.mem_of_getElem? hv)).of s2, Same.tup s2 hq, fun hk => ?_, fun hk => ?_⟩
        · obtain ⟨z, rfl, hz⟩ := knows_str hk
          refine ⟨_, rfl, _, rfl, _, rfl, (i : Int), rfl, p, xs, rfl, Same.seq s2 hp, fun l hl => ?_⟩
          have hl' : (upd H1 T (.tup [.int (i : Nat), V.str z])) l = none := hl
          refine ⟨l, _, rfl, .inl (SqL.of upd_same), rfl, ?_, _, rfl, ?_⟩
          · rw [cut_take, ht]
            exact flat_strs prev
          · show if (inV (.str z) (cutV xs none (some (i : Int)))) = true then _ else _
            rw [cut_take, ht, inV_str]
            by_cases hm : z ∈ prev
            · rw [decide_eq_true hm]
              refine iteT (⟨_, rfl, raise_end ?_⟩)
              have hce : chkShown xs es [] = some (.dup (.str z)) := by
                rw [← hc, chkShown, if_pos hk, if_pos (show strOf (.str z) ∈ prev from hm)]
              exact Out.of (e := .dup (.str z)) (s2.trans (Same.upd_new hl')) (kx _ hce)
            · rw [decide_eq_false hm]
              refine iteF ?_
              refine ⟨_, _, prev ++ [z], rfl, s2.trans (Same.upd_new hl'), ?_, ?_⟩
              · have hv2 : xs[i]? = some (V.str z) := hv
                rw [List.take_succ, ht, hv2, List.map_append]
                rfl
              · rw [← hc, chkShown, if_pos hk, if_neg (show ¬ strOf (.str z) ∈ prev from hm)]
                rfl
        · have hce : chkShown xs es [] = some (.unk v) := by
            rw [← hc, chkShown, if_neg (by rw [hk]; decide)]
          exact Out1.of s2 (kx _ hce)
      · rintro σ H1 ⟨x, y, prev, rfl, s1, ht, hc⟩
        rw [List.drop_length] at hc
        exact k H1 hc.symm s1
    · refine ⟨_, pss_one (ps_for (passes_of rfl) rfl (pi_enumT (by rfl) mE (pa_cons (pv 0) pa_nil)) (pg_tup rfl (pgs_cons (pg_name (i := 2) scCheckShown.nd rfl (Or.inl rfl)) (pgs_cons (pg_name (i := 3) scCheckShown.nd rfl (Or.inl rfl)) pgs_nil)))
          (pss_cons (ps_expr (pe_call GN hr4 (by rfl) mN kN bN .nil (passes_call (takes_of rfl rfl rfl rfl) (fun _ _ _ _ h => h)) (pa_cons (pv 3) (pa_cons (pv 1) pa_nil))))
          (pss_one (ps_if (pt_cmpR op_in_seq (pv 3) (pe_slice sl_tup (pv 0) po_none (po_some (pv 2))) (by rfl))
            (pss_one (ps_raise rfl (takes_of rfl rfl rfl rfl) (pmk_oex TD.oex TD.iC TD.tI GD hr2 bD .nil pass0 (by rfl) TD.gC (pa_cons (pv 3) pa_nil)))) pss_nil)))), ?_⟩
      refine ⟨_, rfl, p, xs, rfl, hp, for_it (walk_enumT (K := K) (a := p) (xs := xs)) (fun i σ H' => ∃ (x y : Option V) (prev : List Str), σ = [some (.ref p), some (.ref q), x, y] ∧ Same H H' ∧ xs.take i = prev.map V.str ∧ chkShown (xs.drop i) es prev = chkShown xs es [])
        ⟨none, none, [], rfl, Same.refl H, rfl, rfl⟩ (fun i σ H' _ ⟨_, _, _, _, s1, _⟩ => Same.tup s1 hp) ?_ ?_⟩
      · rintro i v σ H1 H2 hi ⟨x, y, prev, rfl, s1, ht, hc⟩ ⟨T, a, v, rfl, hT, rfl, ea, hv⟩
        cases ea
        have hd : xs.drop i = v :: xs.drop (i + 1) := by
          rw [List.drop_eq_getElem_cons hi]
          have q := (List.getElem?_eq_some_iff.mp hv).2
          rw [q]
        rw [hd] at hc
        have s2 : Same H (upd H1 T (.tup [.int (i : Nat), v])) := s1.trans (Same.upd_new hT)
        refine ⟨T, _, rfl, SqT.of upd_same, rfl, _, _, rfl, _, _, rfl, rfl, ?_⟩
        refine ⟨_, rfl, _, rfl, v, q, es, rfl, (hx v (List.mem_of_getElem? hv)).of s2, Same.tup s2 hq, fun hk => ?_, fun hk => ?_⟩
        · obtain ⟨z, rfl, hz⟩ := knows_str hk
          have whole : ¬ (HT.sIx xs.length 0 none = 0 ∧ HT.sIx xs.length xs.length (some ((i : Nat) : Int)) = xs.length) := by
            rw [HT.sIx_nat]
            omega
          refine ⟨_, rfl, _, rfl, _, rfl, (i : Int), rfl, p, xs, rfl, Same.tup s2 hp, whole, fun l hl => ?_⟩
          have hl' : (upd H1 T (.tup [.int (i : Nat), V.str z])) l = none := hl
          refine ⟨l, _, rfl, .inr (SqT.of upd_same), rfl, ?_, _, rfl, ?_⟩
          · rw [cut_take, ht]
            exact flat_strs prev
          · show if (inV (.str z) (cutV xs none (some (i : Int)))) = true then _ else _
            rw [cut_take, ht, inV_str]
            by_cases hm : z ∈ prev
            · rw [decide_eq_true hm]
              refine iteT (⟨_, rfl, raise_end ?_⟩)
              have hce : chkShown xs es [] = some (.dup (.str z)) := by
                rw [← hc, chkShown, if_pos hk, if_pos (show strOf (.str z) ∈ prev from hm)]
              exact Out.of (e := .dup (.str z)) (s2.trans (Same.upd_new hl')) (kx _ hce)
            · rw [decide_eq_false hm]
              refine iteF ?_
              refine ⟨_, _, prev ++ [z], rfl, s2.trans (Same.upd_new hl'), ?_, ?_⟩
              · have hv2 : xs[i]? = some (V.str z) := hv
                rw [List.take_succ, ht, hv2, List.map_append]
                rfl
              · rw [← hc, chkShown, if_pos hk, if_neg (show ¬ strOf (.str z) ∈ prev from hm)]
                rfl
        · have hce : chkShown xs es [] = some (.unk v) := by
            rw [← hc, chkShown, if_neg (by rw [hk]; decide)]
          exact Out1.of s2 (kx _ hce)
      · rintro σ H1 ⟨x, y, prev, rfl, s1, ht, hc⟩
        rw [List.drop_length] at hc
        exact k H1 hc.symm s1
end
end Dl

namespace Dl
open PySem L2
def chosen (ns cs : List Str) : List Str := ns.filter fun z => decide (z ∈ cs)
def spChosen (K : PySem.W.Frag) : Sp := fun vs H Q _ => ∃ (p q : Addr) (ns cs : List Str), vs = [.ref p, .ref q] ∧ SqT K H p (ns.map V.str) ∧ (SqL K H q (cs.map V.str) ∨ SqT K H q (cs.map V.str)) ∧ ns.length ≤ 1000 ∧
  ∀ H' t, Same H H' → H t = none → H' t = some (.tup ((chosen ns cs).map V.str)) → Q (.ref t) H'
theorem Same.either {K : PySem.W.Frag} {H H' : Hp} {a : Addr} {xs : List V} (e : Same H H') (h : SqL K H a xs ∨ SqT K H a xs) : SqL K H' a xs ∨ SqT K H' a xs := h.imp (Same.seq e) (Same.tup e)
section
variable {P : Program} {w : World} {K : PySem.W.Frag} {mg : Str → Option Value} {base : Heap} {C : Cs}
theorem scChosen : FnScope ["names", "chosen", "name"] ["names", "chosen"] (defScope sChosen) := ⟨rfl, rfl, rfl, by decide +kernel, rfl, by decide +kernel, by decide +kernel⟩
theorem ok_chosen {f : Addr} {fd : FuncData} (F : Fun K "_chosen_of" "_chosen_of" sChosen f fd) (mT : mg "tuple" = none) : FnOk P w K mg base CX0 1 f fd ["names", "chosen"] (spChosen K) := by
  refine F.ok scChosen (fun vs H Q E h => ?_) (fun cdv A outer s H vs Q E hr h => ?_)
  · obtain ⟨b, n, xs, es, rfl, _⟩ := h
    rfl
  · obtain ⟨p, q, ns, cs, rfl, hp, hq, hlen, k⟩ := h
    refine ⟨_, pss_one (ps_ret (pe_callTy call_tuple_of (by rfl) mT (by decide +kernel) (pa_cons
      (pe_lc (own := [("name", 2)]) (g := gName 2) (tt := tTest (tOp (rIn K false) (tVar 2) (tVar 1))) rfl scChosen.nd (pi_tup (pv 0)) (blkOk_by (N := ["names", "chosen", "name"]) (sc := defScope sChosen) (by decide +kernel))
          (fun _ _ _ _ _ => pg_name (i := 2) scChosen.nd rfl (Or.inl rfl)) (fun _ _ _ _ _ => pts_one (pt_cmpR op_in_seq (pv 2) (pv 1) (by rfl))) (fun _ _ _ _ _ => pv 2)) pa_nil))), ?_⟩
    refine ⟨_, rfl, p, rfl, ⟨_, hp⟩, fun D hD => lc_it (walk_tup (K := K) (a := p) (xs := ns.map V.str)) (fun i H' => H' = upd H D (.lst ((chosen (ns.take i) cs).map V.str))) rfl (fun i H' _ e => by rw [e]; exact Same.tup (Same.upd_new hD) hp) ?_ ?_⟩
    · rintro i x H1 H2 hi rfl ⟨rfl, hx⟩
      rw [List.length_map] at hi
      have hx2 : (ns.map V.str)[i]? = some x := hx
      rw [List.getElem?_map] at hx2
      cases e : ns[i]? with
      | none => rw [e] at hx2; cases hx2
      | some z =>
      rw [e] at hx2
      obtain rfl : V.str z = x := Option.some.inj hx2
      have s1 : Same H (upd H D (.lst ((chosen (ns.take i) cs).map V.str))) := Same.upd_new hD
      have st : chosen (ns.take (i + 1)) cs = chosen (ns.take i) cs ++ (if decide (z ∈ cs) = true then [z] else []) := by
        unfold chosen
        rw [List.take_succ, e, List.filter_append]
        by_cases hz : z ∈ cs <;> simp [hz]
      refine ⟨rfl, _, rfl, _, rfl, q, _, rfl, Same.either s1 hq, rfl, flat_strs cs, inV (.str z) (cs.map V.str), rfl, ?_⟩
      rw [inV_str]
      by_cases hz : z ∈ cs
      · rw [decide_eq_true hz]
        refine iteT ⟨_, rfl, _, upd_same, ?_, ?_⟩
        · have q1 : (chosen (ns.take i) cs).length ≤ i := Nat.le_trans (List.length_filter_le _ _) (by rw [List.length_take]; omega)
          rw [List.length_map]
          exact small1000 (by omega)
        · rw [upd_upd, st, decide_eq_true hz, if_pos rfl, List.map_append]
          rfl
      · rw [decide_eq_false hz]
        refine iteF ?_
        rw [st, decide_eq_false hz, if_neg (by decide), List.append_nil]
    · rintro H1 rfl
      refine ⟨D, _, rfl, .inl ⟨SqL.of upd_same, fun t ht => ?_⟩⟩
      have ht' : (upd H D (.lst ((chosen (ns.take (ns.map V.str).length) cs).map V.str))) t = none := ht
      refine k _ t ((Same.upd_new hD).trans (Same.upd_new ht')) ((Same.upd_new hD).free ht') ?_
      rw [upd_same, List.length_map, List.take_length]
end
end Dl

namespace Dl
open PySem L2
/-! ### the fields of a table, in the order in which they are set -/
theorem ne_sl : ¬ (("_shown" : Str) = "lamps") := by decide +kernel
theorem ne_ls : ¬ (("lamps" : Str) = "_shown") := by decide +kernel
theorem ne_ll : ¬ (("lamps" : Str) = "looks") := by decide +kernel
theorem ne_l2 : ¬ (("looks" : Str) = "lamps") := by decide +kernel
theorem ne_sk : ¬ (("_shown" : Str) = "looks") := by decide +kernel
theorem ne_ks : ¬ (("looks" : Str) = "_shown") := by decide +kernel
def pf1 (a : V) : List (Str × V) := putF "lamps" a []
def pf2 (a b : V) : List (Str × V) := putF "_shown" b (pf1 a)
def pf3 (a b c : V) : List (Str × V) := putF "looks" c (pf2 a b)
theorem putF_length (f : Str) (v : V) : ∀ fs : List (Str × V), (putF f v fs).length ≤ fs.length + 1
  | [] => by simp [putF]
  | (g, x) :: r => by
    unfold putF
    by_cases h : g = f
    · rw [if_pos h]; simp
    · rw [if_neg h]
      have := putF_length f v r
      simp only [List.length_cons]; omega
theorem pf1_len (a : V) : (pf1 a).length ≤ 1 := putF_length _ _ _
theorem pf2_len (a b : V) : (pf2 a b).length ≤ 2 := Nat.le_trans (putF_length _ _ _) (Nat.succ_le_succ (pf1_len a))
theorem pf1_lamps (a : V) : (pf1 a).lookup ("lamps" : Str) = some a := by unfold pf1; rw [lookup_putF, if_pos rfl]
theorem pf2_lamps (a b : V) : (pf2 a b).lookup ("lamps" : Str) = some a := by unfold pf2; rw [lookup_putF, if_neg ne_ls, pf1_lamps]
theorem pf2_shown (a b : V) : (pf2 a b).lookup ("_shown" : Str) = some b := by unfold pf2; rw [lookup_putF, if_pos rfl]
theorem pf3_lamps (a b c : V) : (pf3 a b c).lookup ("lamps" : Str) = some a := by unfold pf3; rw [lookup_putF, if_neg ne_ll, pf2_lamps]
theorem pf3_shown (a b c : V) : (pf3 a b c).lookup ("_shown" : Str) = some b := by unfold pf3; rw [lookup_putF, if_neg ne_sk, pf2_shown]
theorem pf3_looks (a b c : V) : (pf3 a b c).lookup ("looks" : Str) = some c := by unfold pf3; rw [lookup_putF, if_pos rfl]
theorem pf3_no (a b c : V) {m : Str} (h1 : ¬ m = "lamps") (h2 : ¬ m = "_shown") (h3 : ¬ m = "looks") : (pf3 a b c).lookup m = none := by
  unfold pf3 pf2 pf1
  rw [lookup_putF, if_neg h3, lookup_putF, if_neg h2, lookup_putF, if_neg h1]
  rfl
/-! ### what a table holds -/
inductive RowsAt (H : Hp) : List (Str × List Str) → List (Key × V) → Prop
  | nil : RowsAt H [] []
  | cons {k : Str} {sh : List Str} {a : Addr} {r : List (Str × List Str)} {kvs : List (Key × V)} : H a = some (.tup (sh.map V.str)) → RowsAt H r kvs → RowsAt H ((k, sh) :: r) ((Sum.inr k, .ref a) :: kvs)
theorem RowsAt.keys {H : Hp} {rs : List (Str × List Str)} {kvs : List (Key × V)} (h : RowsAt H rs kvs) : kvs.map (·.1) = (rs.map (·.1)).map Sum.inr := by
  induction h with
  | nil => rfl
  | cons _ _ ih => rw [List.map_cons, List.map_cons, List.map_cons, ih]
theorem RowsAt.length {H : Hp} {rs : List (Str × List Str)} {kvs : List (Key × V)} (h : RowsAt H rs kvs) : kvs.length = rs.length := by
  have q := congrArg List.length h.keys
  rw [List.length_map, List.length_map, List.length_map] at q
  exact q
theorem RowsAt.of {H H' : Hp} {rs : List (Str × List Str)} {kvs : List (Key × V)} (s : ∀ b xs, H b = some (.tup xs) → H' b = some (.tup xs)) (h : RowsAt H rs kvs) : RowsAt H' rs kvs := by
  induction h with
  | nil => exact .nil
  | cons e _ ih => exact .cons (s _ _ e) ih
theorem RowsAt.snoc {H : Hp} {rs : List (Str × List Str)} {kvs : List (Key × V)} {k : Str} {sh : List Str} {a : Addr} (h : RowsAt H rs kvs) (e : H a = some (.tup (sh.map V.str))) : RowsAt H (rs ++ [(k, sh)]) (kvs ++ [(Sum.inr k, .ref a)]) := by
  induction h with
  | nil => exact .cons e .nil
  | cons e' _ ih => exact .cons e' ih
structure TableAt (C : Addr) (H : Hp) (p : Addr) (ls : List Str) (rs : List (Str × List Str)) : Prop where
  ex : ∃ (dx lt sd kt : Addr) (kvs : List (Key × V)), H p = some (.ins C dx (pf3 (.ref lt) (.ref sd) (.ref kt))) ∧ H lt = some (.tup (ls.map V.str)) ∧ H sd = some (.dK kvs) ∧ H kt = some (.tup ((rs.map (·.1)).map V.str)) ∧ RowsAt H rs kvs
/-- one look as it is passed: the pair's place, the name, the lamps' place, the lamps -/
structure RowIn where
  t : Addr
  look : V
  s : Addr
  xs : List V
structure RowOk (K : PySem.W.Frag) (H : Hp) (r : RowIn) : Prop where
  pair : SqT K H r.t [r.look, .ref r.s]
  name : NmOk H r.look
  lst : SqL K H r.s r.xs
  all : ∀ v ∈ r.xs, NmOk H v
  len : r.xs.length ≤ 1000
theorem RowOk.of {K : PySem.W.Frag} {H H' : Hp} {r : RowIn} (s : Same H H') (h : RowOk K H r) : RowOk K H' r :=
  ⟨Same.tup s h.pair, h.name.of s, Same.seq s h.lst, fun v hv => (h.all v hv).of s, h.len⟩
/-- the rows as the checks in order give them -/
def initRows (ls : List Str) : List (V × List V) → List (Str × List Str) → Except Er (List (Str × List Str))
  | [], acc => .ok acc
  | (k, xs) :: r, acc => match chkNew k (acc.map (·.1)) with
    | some e => .error e
    | none => match chkShown xs ls [] with
      | some e => .error e
      | none => initRows ls r (acc ++ [(strOf k, chosen ls (xs.map strOf))])
def initT (lamps : List V) (rows : List (V × List V)) : Except Er (List Str × List (Str × List Str)) :=
  if 24 < lamps.length ∨ 24 < rows.length then .error .many else
  match chkNames lamps [] with
  | .error e => .error e
  | .ok ls => match initRows ls rows [] with
    | .error e => .error e
    | .ok rs => .ok (ls, rs)
def RowIn.dat (r : RowIn) : V × List V := (r.look, r.xs)
def spTabInit (K : PySem.W.Frag) (CT : Addr) (C : Cs) : Sp := fun vs H Q E => ∃ (H0 : Hp) (p dx a b : Addr) (lamps : List V) (rows : List RowIn), vs = [.ref p, .ref a, .ref b] ∧ Same H0 H ∧ H0 p = none ∧ H p = some (.ins CT dx []) ∧
  (SqL K H0 a lamps ∨ SqT K H0 a lamps) ∧ (∀ v ∈ lamps, NmOk H0 v) ∧ lamps.length ≤ 1000 ∧ SqL K H0 b (rows.map fun r => V.ref r.t) ∧ (∀ r ∈ rows, RowOk K H0 r) ∧ rows.length ≤ 1000 ∧
  (∀ ls rs, initT lamps (rows.map RowIn.dat) = .ok (ls, rs) → ∀ H', Same H0 H' → TableAt CT H' p ls rs → Q .non H') ∧ ∀ e, initT lamps (rows.map RowIn.dat) = .error e → Out C H0 E e
structure TxtT (K : PySem.W.Frag) (mg : Str → Option Value) (CT : Addr) : Prop where
  cl : Cls K CT
  nL : NoAttr K CT "lamps"
  nK : NoAttr K CT "looks"
  nS : NoAttr K CT "_shown"
  len : mg "len" = none
  tup : mg "tuple" = none
  lim : ∃ t, mg "LIMIT" = some (.int 24 t)
theorem shown_strs' : ∀ {xs : List V} {ls prev : List Str}, chkShown xs ls prev = none → xs = (xs.map strOf).map V.str
  | [], _, _, _ => rfl
  | v :: r, ls, prev, h => by
    unfold chkShown at h
    by_cases hk : knows v ls = true
    · obtain ⟨z, rfl, hz⟩ := knows_str hk
      rw [if_pos hk] at h
      by_cases hm : strOf (.str z) ∈ prev
      · rw [if_pos hm] at h; cases h
      · rw [if_neg hm] at h
        rw [List.map_cons, List.map_cons, ← shown_strs' h]
        rfl
    · rw [if_neg hk] at h; cases h
theorem shown_strs {xs : List V} {ls : List Str} (h : chkShown xs ls [] = none) : xs = (xs.map strOf).map V.str := shown_strs' h
theorem names_len : ∀ {xs : List V} {acc es : List Str}, chkNames xs acc = .ok es → es.length = acc.length + xs.length
  | [], acc, es, h => by cases h; simp
  | v :: r, acc, es, h => by
    unfold chkNames at h
    cases e : chkNew v acc with
    | some q => rw [e] at h; cases h
    | none =>
      rw [e] at h
      have q := names_len h
      rw [List.length_append] at q
      simp at q ⊢
      omega
section
variable {P : Program} {w : World} {K : PySem.W.Frag} {mg : Str → Option Value} {base : Heap} {C : Cs} {CT : Addr}
theorem scTabInit : FnScope ["self", "lamps", "looks", "look", "shown"] ["self", "lamps", "looks"] (defScope sTabInit) := ⟨rfl, rfl, rfl, by decide +kernel, rfl, by decide +kernel, by decide +kernel⟩
theorem ok_tabinit {f : Addr} {fd : FuncData} (F : Fun K "__init__" "Table.__init__" sTabInit f fd) (T : TxtT K mg CT) (xM : Ex P w K mg base "TooMany" "limit" C.many)
    (gD : Dfn P w K mg base (L2.CX P w) 6 "distinct_names" ["names"] (spDistinct K C)) (gN : Dfn P w K mg base (L2.CX P w) 4 "check_new" ["name", "earlier"] (spNewD K C))
    (gS : Dfn P w K mg base (L2.CX P w) 6 "_check_shown" ["shown", "lamps"] (spShown K C)) (gC : Dfn P w K mg base CX0 1 "_chosen_of" ["names", "chosen"] (spChosen K)) :
    FnOk P w K mg base (L2.CX P w) 8 f fd ["self", "lamps", "looks"] (spTabInit K CT C) := by
  obtain ⟨fI, dI, TI, bI, GI⟩ := xM
  obtain ⟨fD, dD, mD, kD, bD, GD⟩ := gD
  obtain ⟨fN, dN, mN, kN, bN, GN⟩ := gN
  obtain ⟨fS, dS, mS, kS, bS, GS⟩ := gS
  obtain ⟨fC, dC, mC, kC, bC, GC⟩ := gC
  obtain ⟨tl, hlim⟩ := T.lim
  refine F.okX scTabInit (fun vs H Q E h => ?_) (fun cdv A outer s H vs Q E hr h => ?_)
  · obtain ⟨H0, p, dx, a, b, lamps, rows, rfl, _⟩ := h
    rfl
  · obtain ⟨H0, p, dx, a, b, lamps, rows, rfl, s0, hp0, hp, ha, hla, hll, hb, hrw, hrl, k, kx⟩ := h
    have hr6 : Room 6 _ := hr.mono (by decide)
    have hr4 : Room 4 _ := hr.mono (by decide)
    have hr2 : Room 2 _ := hr.mono (by decide)
    have hr1 : Room 1 _ := hr.mono (by decide)
    refine ⟨_, pss_cons (ps_if (PW.pt (pw_or (pt_cmpR op_gt (pe_callB call_len_seq (by rfl) T.len PySem.boot_len (pa_cons (pv 1) pa_nil)) (pe_glob (v := .int 24) (by rfl) hlim ⟨_, rfl⟩) (nomark _))
          (pw_or1 (pt_cmpR op_gt (pe_callB call_len_seq (by rfl) T.len PySem.boot_len (pa_cons (pv 2) pa_nil)) (pe_glob (v := .int 24) (by rfl) hlim ⟨_, rfl⟩) (nomark _)))))
        (pss_one (ps_raise rfl (takes_of rfl rfl rfl rfl) (pmk_oex TI.oex TI.iC TI.tI GI hr2 bI .nil pass0 (by rfl) TI.gC (pa_cons (pe_glob (v := .int 24) (by rfl) hlim ⟨_, rfl⟩) pa_nil)))) pss_nil)
      (pss_cons (ps_fld (pv 0) (pe_call GD hr6 (by rfl) mD kD bD .nil (passes_call (takes_of rfl rfl rfl rfl) (fun _ _ _ _ h => h)) (pa_cons (pv 1) pa_nil)) rfl)
      (pss_cons (ps_fld (pv 0) pe_dnewK rfl)
      (pss_cons (ps_for (passes_of rfl) rfl (pi_list (pv 2)) (pg_tup rfl (pgs_cons (pg_name (i := 3) scTabInit.nd rfl (Or.inl rfl)) (pgs_cons (pg_name (i := 4) scTabInit.nd rfl (Or.inl rfl)) pgs_nil)))
        (pss_cons (ps_expr (pe_call GN hr4 (by rfl) mN kN bN .nil (passes_call (takes_of rfl rfl rfl rfl) (fun _ _ _ _ h => h)) (pa_cons (pv 3) (pa_cons (pe_fld (pv 0) rfl) pa_nil))))
        (pss_cons (ps_expr (pe_call GS hr6 (by rfl) mS kS bS .nil (passes_call (takes_of rfl rfl rfl rfl) (fun _ _ _ _ h => h)) (pa_cons (pv 4) (pa_cons (pe_fld (pv 0) rfl) pa_nil))))
        (pss_one (ps_dput (hu_of hr) (pe_fld (pv 0) rfl) (pv 3) (pe_call GC hr1 (by rfl) mC kC bC .nil pass0 (pa_cons (pe_fld (pv 0) rfl) (pa_cons (pv 4) pa_nil))) rfl)))))
      (pss_one (ps_fld (pv 0) (pe_callTy (call_tuple_dK rfl) (by rfl) T.tup (by decide +kernel) (pa_cons (pe_fld (pv 0) rfl) pa_nil)) rfl))))), ?_⟩
    have small : ∀ n : Nat, n ≤ 2 → n < 1000 := fun n h => by omega
    have hmany : 24 < lamps.length ∨ 24 < (rows.map RowIn.dat).length → Out C H E .many := fun h => Out.of s0 (kx .many (by unfold initT; rw [if_pos h]))
    refine ⟨_, rfl, a, _, rfl, Same.either s0 ha, _, _, rfl, rfl, _, rfl, ?_⟩
    refine ite2 (fun c1 => ?_) (fun c1 => ?_)
    · exact raise_end (hmany (.inl (by have q : (24 : Int) < (lamps.length : Nat) := of_decide_eq_true c1; omega)))
    have c1' : ¬ 24 < lamps.length := fun x => c1 (decide_eq_true (by show (24 : Int) < (lamps.length : Nat); omega))
    refine ⟨_, rfl, b, _, rfl, .inl (Same.seq s0 hb), _, _, rfl, rfl, _, rfl, ?_⟩
    refine ite2 (fun c2 => ?_) (fun c2 => ?_)
    · exact raise_end (hmany (.inr (by
        have q : (24 : Int) < ((rows.map fun r => V.ref r.t).length : Nat) := of_decide_eq_true c2
        rw [List.length_map] at q ⊢
        omega)))
    have c2' : ¬ 24 < (rows.map RowIn.dat).length := fun x => c2 (decide_eq_true (by
      show (24 : Int) < ((rows.map fun r => V.ref r.t).length : Nat)
      rw [List.length_map] at x ⊢
      omega))
    have hT : initT lamps (rows.map RowIn.dat) = match chkNames lamps [] with
        | .error e => .error e
        | .ok ls => match initRows ls (rows.map RowIn.dat) [] with
          | .error e => .error e
          | .ok rs => .ok (ls, rs) := by
      show (if _ then _ else _) = _
      rw [if_neg (by intro z; rcases z with z | z; exact c1' z; exact c2' z)]
    -- self.lamps = distinct_names(lamps)
    refine ⟨_, rfl, a, lamps, rfl, Same.either s0 ha, fun v hv => (hla v hv).of s0, hll, fun ls hls H1 lt s1 hlt e1 => ?_, fun e he => Out.of s0 (kx e (by rw [hT, he]))⟩
    rw [hls] at hT
    dsimp only at hT
    have s01 : Same H0 H1 := s0.trans s1
    refine ⟨_, rfl, p, CT, dx, [], rfl, s1 _ _ hp, T.cl, T.nL, by decide, ?_⟩
    have nltp : lt ≠ p := fun z => by rw [z, hp] at hlt; cases hlt
    have keep0 : ∀ {Hx : Hp} {o : HO}, Same H0 Hx → Same H0 (upd Hx p o) := fun {Hx o} s b u e => by
      rw [upd_ne (ne_of_none e hp0)]; exact s _ _ e
    -- self._shown = {}
    refine fun sd hsd => ⟨_, rfl, p, CT, dx, pf1 (.ref lt), rfl, (by rw [upd_ne (ne_of_none upd_same hsd), upd_same]; rfl), T.cl, T.nS, small _ (Nat.le_trans (pf1_len _) (by decide)), ?_⟩
    have hsd1 : H1 sd = none := by
      have nsd : sd ≠ p := fun z => by rw [z, upd_same] at hsd; cases hsd
      rw [upd_ne nsd] at hsd
      exact hsd
    have nsp : p ≠ sd := fun z => by
      have q := s1 _ _ hp
      rw [z, hsd1] at q
      cases q
    have nls : lt ≠ sd := ne_of_none e1 hsd1
    have hsd0 : H0 sd = none := s01.free hsd1
    refine ⟨_, rfl, b, rfl, ⟨rows.map fun r => V.ref r.t, ?_⟩, for_it (walk_list (K := K) (a := b) (xs := rows.map fun r => V.ref r.t)) (fun i σ H' => ∃ (x y : Option V) (kvs : List (Key × V)) (acc : List (Str × List Str)),
        σ = [some (.ref p), some (.ref a), some (.ref b), x, y] ∧ H' p = some (.ins CT dx (pf2 (.ref lt) (.ref sd))) ∧ H' lt = some (.tup (ls.map V.str)) ∧ H' sd = some (.dK kvs) ∧ RowsAt H' acc kvs ∧ Same H0 H' ∧
        initRows ls ((rows.map RowIn.dat).drop i) acc = initRows ls (rows.map RowIn.dat) [] ∧ acc.length ≤ i) ?_ ?_ ?_ ?_⟩
    · exact Same.seq (keep0 ((keep0 s01).trans (Same.upd_new hsd))) hb
    · refine ⟨none, none, [], [], rfl, upd_same, ?_, ?_, .nil, keep0 ((keep0 s01).trans (Same.upd_new hsd)), rfl, Nat.le_refl _⟩
      · rw [upd_ne nltp, upd_ne nls, upd_ne nltp]; exact e1
      · rw [upd_ne nsp.symm, upd_same]
    · rintro i σ H' _ ⟨_, _, _, _, _, _, _, _, _, s', _⟩
      exact Same.seq s' hb
    · rintro i v σ H2 H3 hi ⟨x, y, kvs, acc, rfl, h2p, h2l, h2s, hrs, s2, hc, hal⟩ ⟨rfl, hv⟩
      have hv2 : (rows.map fun r => V.ref r.t)[i]? = some v := hv
      rw [List.length_map] at hi
      obtain ⟨r, hr, rfl⟩ : ∃ r, rows[i]? = some r ∧ v = V.ref r.t := by
        rw [List.getElem?_map] at hv2
        cases e : rows[i]? with
        | none => rw [e] at hv2; cases hv2
        | some r => rw [e] at hv2; exact ⟨r, rfl, (Option.some.inj hv2).symm⟩
      have hd : (rows.map RowIn.dat).drop i = (r.look, r.xs) :: (rows.map RowIn.dat).drop (i + 1) := by
        rw [List.drop_eq_getElem_cons (by rw [List.length_map]; exact hi)]
        rw [List.getElem_map, (List.getElem?_eq_some_iff.mp hr).2]
        rfl
      rw [hd] at hc
      have R := hrw r (List.mem_of_getElem? hr)
      have R2 := R.of s2
      refine ⟨r.t, _, rfl, R2.pair, rfl, _, _, rfl, _, _, rfl, rfl, ?_⟩
      -- check_new(look, self._shown)
      refine ⟨_, rfl, _, rfl, p, CT, dx, _, _, rfl, h2p, T.cl, T.nS, pf2_shown _ _, r.look, sd, kvs, acc.map (·.1), rfl, R2.name, h2s, hrs.keys, fun H4 s4 hn => ?_, fun e he => ?_⟩
      · obtain ⟨z, ez, hz, hza⟩ := chkNew_none hn
        -- _check_shown(shown, self.lamps)
        refine ⟨_, rfl, _, rfl, p, CT, dx, _, _, rfl, s4 _ _ h2p, T.cl, T.nL, pf2_lamps _ _, r.s, lt, r.xs, ls, rfl, Same.seq s4 R2.lst, (R2.of s4).all, R.len, SqT.of (s4 _ _ h2l), fun H5 hsn s5 => ?_, fun e he => ?_⟩
        · -- self._shown[look] = _chosen_of(self.lamps, shown)
          have s45 : Same H3 H5 := s4.trans s5
          have hxs : r.xs = (r.xs.map strOf).map V.str := shown_strs hsn
          refine ⟨_, rfl, p, CT, dx, _, _, rfl, s45 _ _ h2p, T.cl, T.nL, pf2_lamps _ _, _, rfl, lt, r.s, ls, r.xs.map strOf, rfl, SqT.of (s45 _ _ h2l), .inl (by rw [← hxs]; exact Same.seq s45 R2.lst), ?_, fun H6 t s6 ht et => ?_⟩
          · have q := names_len hls
            simp at q
            omega
          · have s26 : Same H3 H6 := s45.trans s6
            refine ⟨_, rfl, p, CT, dx, _, _, rfl, s26 _ _ h2p, T.cl, T.nS, pf2_shown _ _, _, rfl, sd, _, rfl, (by rw [ez]; exact DPut.k (k := Sum.inr z) (s26 _ _ h2s) (by rw [hrs.length]; exact small1000 (by omega))), ?_⟩
            have hval : valV kvs (Sum.inr z) = none := by
              have q := isSome_valV (es := acc.map (·.1)) hrs.keys (z := z)
              rw [decide_eq_false hza] at q
              cases e : valV kvs (Sum.inr z) with
              | none => rfl
              | some u => rw [e] at q; cases q
            rw [putK_new _ hval]
            have tups : ∀ b xs, H6 b = some (.tup xs) → upd H6 sd (.dK (kvs ++ [(Sum.inr z, .ref t)])) b = some (.tup xs) := fun b xs e => by
              have nb : b ≠ sd := fun q => by rw [q, s26 _ _ h2s] at e; cases e
              rw [upd_ne nb]; exact e
            refine ⟨_, _, kvs ++ [(Sum.inr z, .ref t)], acc ++ [(z, chosen ls (r.xs.map strOf))], rfl, ?_, tups _ _ (s26 _ _ h2l), upd_same, ?_, fun b o e => ?_, ?_, ?_⟩
            · have np : p ≠ sd := nsp
              rw [upd_ne np]; exact s26 _ _ h2p
            · exact (hrs.of fun b xs e => tups b xs (s26 _ _ e)).snoc (tups _ _ et)
            · rw [upd_ne (ne_of_none e hsd0)]
              exact s26 _ _ (s2 _ _ e)
            · rw [← hc, initRows, hn, hsn, ez]
              rfl
            · rw [List.length_append]
              simp
              omega
        · have hce : initRows ls (rows.map RowIn.dat) [] = .error e := by rw [← hc, initRows, hn, he]
          exact Out.of (s2.trans s4) (kx e (by rw [hT, hce]))
      · have hce : initRows ls (rows.map RowIn.dat) [] = .error e := by rw [← hc, initRows, he]
        exact Out.of s2 (kx e (by rw [hT, hce]))
    · rintro σ H2 ⟨x, y, kvs, acc, rfl, h2p, h2l, h2s, hrs, s2, hc, hal⟩
      have hc' : initRows ls (rows.map RowIn.dat) [] = .ok acc := by
        rw [← hc, List.drop_eq_nil_of_le (by simp)]
        rfl
      -- self.looks = tuple(self._shown)
      refine ⟨_, rfl, p, CT, dx, _, _, rfl, h2p, T.cl, T.nS, pf2_shown _ _, sd, kvs, rfl, h2s, fun kt hkt => ?_⟩
      have ntp : p ≠ kt := ne_of_none h2p hkt
      refine ⟨_, rfl, p, CT, dx, _, rfl, (by rw [upd_ne ntp]; exact h2p), T.cl, T.nK, small _ (pf2_len _ _), ?_⟩
      refine k ls acc (by rw [hT, hc']) _ (keep0 (s2.trans (Same.upd_new hkt))) ⟨dx, lt, sd, kt, kvs, upd_same, ?_, ?_, ?_, ?_⟩
      · rw [upd_ne nltp, upd_ne (ne_of_none h2l hkt)]; exact h2l
      · rw [upd_ne nsp.symm, upd_ne (ne_of_none h2s hkt)]; exact h2s
      · have q : (kvs.map fun kv => kV kv.1) = (kvs.map (·.1)).map kV := by rw [List.map_map]; rfl
        rw [upd_ne ntp.symm, upd_same, q, hrs.keys, List.map_map]
        rfl
      · refine hrs.of fun b xs e => ?_
        have nb : b ≠ p := fun q => by rw [q, h2p] at e; cases e
        rw [upd_ne nb, upd_ne (ne_of_none e hkt)]; exact e
end
end Dl

namespace Dl
open PySem L2
/-- one look as it is passed, the lamps as a list or as a tuple -/
structure RowE (K : PySem.W.Frag) (H : Hp) (r : RowIn) : Prop where
  pair : SqT K H r.t [r.look, .ref r.s]
  name : NmOk H r.look
  seq : SqL K H r.s r.xs ∨ SqT K H r.s r.xs
  all : ∀ v ∈ r.xs, NmOk H v
  len : r.xs.length ≤ 1000
theorem RowE.of {K : PySem.W.Frag} {H H' : Hp} {r : RowIn} (s : Same H H') (h : RowE K H r) : RowE K H' r :=
  ⟨Same.tup s h.pair, h.name.of s, Same.either s h.seq, fun v hv => (h.all v hv).of s, h.len⟩
theorem RowOk.e {K : PySem.W.Frag} {H : Hp} {r : RowIn} (h : RowOk K H r) : RowE K H r := ⟨h.pair, h.name, .inl h.lst, h.all, h.len⟩
def spTabInit2 (K : PySem.W.Frag) (CT : Addr) (C : Cs) : Sp := fun vs H Q E => ∃ (H0 : Hp) (p dx a b : Addr) (lamps : List V) (rows : List RowIn), vs = [.ref p, .ref a, .ref b] ∧ Same H0 H ∧ H0 p = none ∧ H p = some (.ins CT dx []) ∧
  (SqL K H0 a lamps ∨ SqT K H0 a lamps) ∧ (∀ v ∈ lamps, NmOk H0 v) ∧ lamps.length ≤ 1000 ∧ (SqL K H0 b (rows.map fun r => V.ref r.t) ∨ SqT K H0 b (rows.map fun r => V.ref r.t)) ∧ (∀ r ∈ rows, RowE K H0 r) ∧ rows.length ≤ 1000 ∧
  (∀ ls rs, initT lamps (rows.map RowIn.dat) = .ok (ls, rs) → ∀ H', Same H0 H' → TableAt CT H' p ls rs → Q .non H') ∧ ∀ e, initT lamps (rows.map RowIn.dat) = .error e → Out C H0 E e
section
variable {P : Program} {w : World} {K : PySem.W.Frag} {mg : Str → Option Value} {base : Heap} {C : Cs} {CT : Addr}
theorem ok_tabinit2 {f : Addr} {fd : FuncData} (F : Fun K "__init__" "Table.__init__" sTabInit f fd) (T : TxtT K mg CT) (xM : Ex P w K mg base "TooMany" "limit" C.many)
    (gD : Dfn P w K mg base (L2.CX P w) 6 "distinct_names" ["names"] (spDistinct K C)) (gN : Dfn P w K mg base (L2.CX P w) 4 "check_new" ["name", "earlier"] (spNewD K C))
    (gS : Dfn P w K mg base (L2.CX P w) 6 "_check_shown" ["shown", "lamps"] (spShown2 K C)) (gC : Dfn P w K mg base CX0 1 "_chosen_of" ["names", "chosen"] (spChosen K)) :
    FnOk P w K mg base (L2.CX P w) 8 f fd ["self", "lamps", "looks"] (spTabInit2 K CT C) := by
  obtain ⟨fI, dI, TI, bI, GI⟩ := xM
  obtain ⟨fD, dD, mD, kD, bD, GD⟩ := gD
  obtain ⟨fN, dN, mN, kN, bN, GN⟩ := gN
  obtain ⟨fS, dS, mS, kS, bS, GS⟩ := gS
  obtain ⟨fC, dC, mC, kC, bC, GC⟩ := gC
  obtain ⟨tl, hlim⟩ := T.lim
  refine F.okX scTabInit (fun vs H Q E h => ?_) (fun cdv A outer s H vs Q E hr h => ?_)
  · obtain ⟨H0, p, dx, a, b, lamps, rows, rfl, _⟩ := h
    rfl
  · obtain ⟨H0, p, dx, a, b, lamps, rows, rfl, s0, hp0, hp, ha, hla, hll, hb, hrw, hrl, k, kx⟩ := h
    have hr6 : Room 6 _ := hr.mono (by decide)
    have hr4 : Room 4 _ := hr.mono (by decide)
    have hr2 : Room 2 _ := hr.mono (by decide)
    have hr1 : Room 1 _ := hr.mono (by decide)
    rcases hb with hb | hb
    · refine ⟨_, pss_cons (ps_if (PW.pt (pw_or (pt_cmpR op_gt (pe_callB call_len_seq (by rfl) T.len PySem.boot_len (pa_cons (pv 1) pa_nil)) (pe_glob (v := .int 24) (by rfl) hlim ⟨_, rfl⟩) (nomark _))
            (pw_or1 (pt_cmpR op_gt (pe_callB call_len_seq (by rfl) T.len PySem.boot_len (pa_cons (pv 2) pa_nil)) (pe_glob (v := .int 24) (by rfl) hlim ⟨_, rfl⟩) (nomark _)))))
          (pss_one (ps_raise rfl (takes_of rfl rfl rfl rfl) (pmk_oex TI.oex TI.iC TI.tI GI hr2 bI .nil pass0 (by rfl) TI.gC (pa_cons (pe_glob (v := .int 24) (by rfl) hlim ⟨_, rfl⟩) pa_nil)))) pss_nil)
        (pss_cons (ps_fld (pv 0) (pe_call GD hr6 (by rfl) mD kD bD .nil (passes_call (takes_of rfl rfl rfl rfl) (fun _ _ _ _ h => h)) (pa_cons (pv 1) pa_nil)) rfl)
        (pss_cons (ps_fld (pv 0) pe_dnewK rfl)
        (pss_cons (ps_for (passes_of rfl) rfl (pi_list (pv 2)) (pg_tup rfl (pgs_cons (pg_name (i := 3) scTabInit.nd rfl (Or.inl rfl)) (pgs_cons (pg_name (i := 4) scTabInit.nd rfl (Or.inl rfl)) pgs_nil)))
          (pss_cons (ps_expr (pe_call GN hr4 (by rfl) mN kN bN .nil (passes_call (takes_of rfl rfl rfl rfl) (fun _ _ _ _ h => h)) (pa_cons (pv 3) (pa_cons (pe_fld (pv 0) rfl) pa_nil))))
          (pss_cons (ps_expr (pe_call GS hr6 (by rfl) mS kS bS .nil (passes_call (takes_of rfl rfl rfl rfl) (fun _ _ _ _ h => h)) (pa_cons (pv 4) (pa_cons (pe_fld (pv 0) rfl) pa_nil))))
          (pss_one (ps_dput (hu_of hr) (pe_fld (pv 0) rfl) (pv 3) (pe_call GC hr1 (by rfl) mC kC bC .nil pass0 (pa_cons (pe_fld (pv 0) rfl) (pa_cons (pv 4) pa_nil))) rfl)))))
        (pss_one (ps_fld (pv 0) (pe_callTy (call_tuple_dK rfl) (by rfl) T.tup (by decide +kernel) (pa_cons (pe_fld (pv 0) rfl) pa_nil)) rfl))))), ?_⟩
      have small : ∀ n : Nat, n ≤ 2 → n < 1000 := fun n h => by omega
      have hmany : 24 < lamps.length ∨ 24 < (rows.map RowIn.dat).length → Out C H E .many := fun h => Out.of s0 (kx .many (by unfold initT; rw [if_pos h]))
      refine ⟨_, rfl, a, _, rfl, Same.either s0 ha, _, _, rfl, rfl, _, rfl, ?_⟩
      refine ite2 (fun c1 => ?_) (fun c1 => ?_)
      · exact raise_end (hmany (.inl (by have q : (24 : Int) < (lamps.length : Nat) := of_decide_eq_true c1; omega)))
      have c1' : ¬ 24 < lamps.length := fun x => c1 (decide_eq_true (by show (24 : Int) < (lamps.length : Nat); omega))
      refine ⟨_, rfl, b, _, rfl, .inl (Same.seq s0 hb), _, _, rfl, rfl, _, rfl, ?_⟩
      refine ite2 (fun c2 => ?_) (fun c2 => ?_)
      · exact raise_end (hmany (.inr (by
          have q : (24 : Int) < ((rows.map fun r => V.ref r.t).length : Nat) := of_decide_eq_true c2
          rw [List.length_map] at q ⊢
          omega)))
      have c2' : ¬ 24 < (rows.map RowIn.dat).length := fun x => c2 (decide_eq_true (by
        show (24 : Int) < ((rows.map fun r => V.ref r.t).length : Nat)
        rw [List.length_map] at x ⊢
        omega))
      have hT : initT lamps (rows.map RowIn.dat) = match chkNames lamps [] with
          | .error e => .error e
          | .ok ls => match initRows ls (rows.map RowIn.dat) [] with
            | .error e => .error e
            | .ok rs => .ok (ls, rs) := by
        show (if _ then _ else _) = _
        rw [if_neg (by intro z; rcases z with z | z; exact c1' z; exact c2' z)]
        try rfl
      -- self.lamps = distinct_names(lamps)
      refine ⟨_, rfl, a, lamps, rfl, Same.either s0 ha, fun v hv => (hla v hv).of s0, hll, fun ls hls H1 lt s1 hlt e1 => ?_, fun e he => Out.of s0 (kx e (by rw [hT, he]))⟩
      rw [hls] at hT
      dsimp only at hT
      have s01 : Same H0 H1 := s0.trans s1
      refine ⟨_, rfl, p, CT, dx, [], rfl, s1 _ _ hp, T.cl, T.nL, by decide, ?_⟩
      have nltp : lt ≠ p := fun z => by rw [z, hp] at hlt; cases hlt
      have keep0 : ∀ {Hx : Hp} {o : HO}, Same H0 Hx → Same H0 (upd Hx p o) := fun {Hx o} s b u e => by
        rw [upd_ne (ne_of_none e hp0)]; exact s _ _ e
      -- self._shown = {}
      refine fun sd hsd => ⟨_, rfl, p, CT, dx, pf1 (.ref lt), rfl, (by rw [upd_ne (ne_of_none upd_same hsd), upd_same]; rfl), T.cl, T.nS, small _ (Nat.le_trans (pf1_len _) (by decide)), ?_⟩
      have hsd1 : H1 sd = none := by
        have nsd : sd ≠ p := fun z => by rw [z, upd_same] at hsd; cases hsd
        rw [upd_ne nsd] at hsd
        exact hsd
      have nsp : p ≠ sd := fun z => by
        have q := s1 _ _ hp
        rw [z, hsd1] at q
        cases q
      have nls : lt ≠ sd := ne_of_none e1 hsd1
      have hsd0 : H0 sd = none := s01.free hsd1
      refine ⟨_, rfl, b, rfl, ⟨rows.map fun r => V.ref r.t, ?_⟩, for_it (walk_list (K := K) (a := b) (xs := rows.map fun r => V.ref r.t)) (fun i σ H' => ∃ (x y : Option V) (kvs : List (Key × V)) (acc : List (Str × List Str)),
          σ = [some (.ref p), some (.ref a), some (.ref b), x, y] ∧ H' p = some (.ins CT dx (pf2 (.ref lt) (.ref sd))) ∧ H' lt = some (.tup (ls.map V.str)) ∧ H' sd = some (.dK kvs) ∧ RowsAt H' acc kvs ∧ Same H0 H' ∧
          initRows ls ((rows.map RowIn.dat).drop i) acc = initRows ls (rows.map RowIn.dat) [] ∧ acc.length ≤ i) ?_ ?_ ?_ ?_⟩
      · exact Same.seq (keep0 ((keep0 s01).trans (Same.upd_new hsd))) hb
      · refine ⟨none, none, [], [], rfl, upd_same, ?_, ?_, .nil, keep0 ((keep0 s01).trans (Same.upd_new hsd)), rfl, Nat.le_refl _⟩
        · rw [upd_ne nltp, upd_ne nls, upd_ne nltp]; exact e1
        · rw [upd_ne nsp.symm, upd_same]
      · rintro i σ H' _ ⟨_, _, _, _, _, _, _, _, _, s', _⟩
        exact Same.seq s' hb
      · rintro i v σ H2 H3 hi ⟨x, y, kvs, acc, rfl, h2p, h2l, h2s, hrs, s2, hc, hal⟩ ⟨rfl, hv⟩
        have hv2 : (rows.map fun r => V.ref r.t)[i]? = some v := hv
        rw [List.length_map] at hi
        obtain ⟨r, hr, rfl⟩ : ∃ r, rows[i]? = some r ∧ v = V.ref r.t := by
          rw [List.getElem?_map] at hv2
          cases e : rows[i]? with
          | none => rw [e] at hv2; cases hv2
          | some r => rw [e] at hv2; exact ⟨r, rfl, (Option.some.inj hv2).symm⟩
        have hd : (rows.map RowIn.dat).drop i = (r.look, r.xs) :: (rows.map RowIn.dat).drop (i + 1) := by
          rw [List.drop_eq_getElem_cons (by rw [List.length_map]; exact hi)]
          rw [List.getElem_map, (List.getElem?_eq_some_iff.mp hr).2]
          rfl
        rw [hd] at hc
        have R := hrw r (List.mem_of_getElem? hr)
        have R2 := R.of s2
        refine ⟨r.t, _, rfl, R2.pair, rfl, _, _, rfl, _, _, rfl, rfl, ?_⟩
        -- check_new(look, self._shown)
        refine ⟨_, rfl, _, rfl, p, CT, dx, _, _, rfl, h2p, T.cl, T.nS, pf2_shown _ _, r.look, sd, kvs, acc.map (·.1), rfl, R2.name, h2s, hrs.keys, fun H4 s4 hn => ?_, fun e he => ?_⟩
        · obtain ⟨z, ez, hz, hza⟩ := chkNew_none hn
          -- _check_shown(shown, self.lamps)
          refine ⟨_, rfl, _, rfl, p, CT, dx, _, _, rfl, s4 _ _ h2p, T.cl, T.nL, pf2_lamps _ _, r.s, lt, r.xs, ls, rfl, Same.either s4 R2.seq, (R2.of s4).all, R.len, SqT.of (s4 _ _ h2l), fun H5 hsn s5 => ?_, fun e he => ?_⟩
          · -- self._shown[look] = _chosen_of(self.lamps, shown)
            have s45 : Same H3 H5 := s4.trans s5
            have hxs : r.xs = (r.xs.map strOf).map V.str := shown_strs hsn
            refine ⟨_, rfl, p, CT, dx, _, _, rfl, s45 _ _ h2p, T.cl, T.nL, pf2_lamps _ _, _, rfl, lt, r.s, ls, r.xs.map strOf, rfl, SqT.of (s45 _ _ h2l), (by rw [← hxs]; exact Same.either s45 R2.seq), ?_, fun H6 t s6 ht et => ?_⟩
            · have q := names_len hls
              simp at q
              omega
            · have s26 : Same H3 H6 := s45.trans s6
              refine ⟨_, rfl, p, CT, dx, _, _, rfl, s26 _ _ h2p, T.cl, T.nS, pf2_shown _ _, _, rfl, sd, _, rfl, (by rw [ez]; exact DPut.k (k := Sum.inr z) (s26 _ _ h2s) (by rw [hrs.length]; exact small1000 (by omega))), ?_⟩
              have hval : valV kvs (Sum.inr z) = none := by
                have q := isSome_valV (es := acc.map (·.1)) hrs.keys (z := z)
                rw [decide_eq_false hza] at q
                cases e : valV kvs (Sum.inr z) with
                | none => rfl
                | some u => rw [e] at q; cases q
              rw [putK_new _ hval]
              have tups : ∀ b xs, H6 b = some (.tup xs) → upd H6 sd (.dK (kvs ++ [(Sum.inr z, .ref t)])) b = some (.tup xs) := fun b xs e => by
                have nb : b ≠ sd := fun q => by rw [q, s26 _ _ h2s] at e; cases e
                rw [upd_ne nb]; exact e
              refine ⟨_, _, kvs ++ [(Sum.inr z, .ref t)], acc ++ [(z, chosen ls (r.xs.map strOf))], rfl, ?_, tups _ _ (s26 _ _ h2l), upd_same, ?_, fun b o e => ?_, ?_, ?_⟩
              · have np : p ≠ sd := nsp
                rw [upd_ne np]; exact s26 _ _ h2p
              · exact (hrs.of fun b xs e => tups b xs (s26 _ _ e)).snoc (tups _ _ et)
              · rw [upd_ne (ne_of_none e hsd0)]
                exact s26 _ _ (s2 _ _ e)
              · rw [← hc, initRows, hn, hsn, ez]
                rfl
              · rw [List.length_append]
                simp
                omega
          · have hce : initRows ls (rows.map RowIn.dat) [] = .error e := by rw [← hc, initRows, hn, he]
            exact Out.of (s2.trans s4) (kx e (by rw [hT, hce]))
        · have hce : initRows ls (rows.map RowIn.dat) [] = .error e := by rw [← hc, initRows, he]
          exact Out.of s2 (kx e (by rw [hT, hce]))
      · rintro σ H2 ⟨x, y, kvs, acc, rfl, h2p, h2l, h2s, hrs, s2, hc, hal⟩
        have hc' : initRows ls (rows.map RowIn.dat) [] = .ok acc := by
          rw [← hc, List.drop_eq_nil_of_le (by simp)]
          rfl
        -- self.looks = tuple(self._shown)
        refine ⟨_, rfl, p, CT, dx, _, _, rfl, h2p, T.cl, T.nS, pf2_shown _ _, sd, kvs, rfl, h2s, fun kt hkt => ?_⟩
        have ntp : p ≠ kt := ne_of_none h2p hkt
        refine ⟨_, rfl, p, CT, dx, _, rfl, (by rw [upd_ne ntp]; exact h2p), T.cl, T.nK, small _ (pf2_len _ _), ?_⟩
        refine k ls acc (by rw [hT, hc']) _ (keep0 (s2.trans (Same.upd_new hkt))) ⟨dx, lt, sd, kt, kvs, upd_same, ?_, ?_, ?_, ?_⟩
        · rw [upd_ne nltp, upd_ne (ne_of_none h2l hkt)]; exact h2l
        · rw [upd_ne nsp.symm, upd_ne (ne_of_none h2s hkt)]; exact h2s
        · have q : (kvs.map fun kv => kV kv.1) = (kvs.map (·.1)).map kV := by rw [List.map_map]; rfl
          rw [upd_ne ntp.symm, upd_same, q, hrs.keys, List.map_map]
          rfl
        · refine hrs.of fun b xs e => ?_
          have nb : b ≠ p := fun q => by rw [q, h2p] at e; cases e
          rw [upd_ne nb, upd_ne (ne_of_none e hkt)]; exact e
    · refine ⟨_, pss_cons (ps_if (PW.pt (pw_or (pt_cmpR op_gt (pe_callB call_len_seq (by rfl) T.len PySem.boot_len (pa_cons (pv 1) pa_nil)) (pe_glob (v := .int 24) (by rfl) hlim ⟨_, rfl⟩) (nomark _))
            (pw_or1 (pt_cmpR op_gt (pe_callB call_len_seq (by rfl) T.len PySem.boot_len (pa_cons (pv 2) pa_nil)) (pe_glob (v := .int 24) (by rfl) hlim ⟨_, rfl⟩) (nomark _)))))
          (pss_one (ps_raise rfl (takes_of rfl rfl rfl rfl) (pmk_oex TI.oex TI.iC TI.tI GI hr2 bI .nil pass0 (by rfl) TI.gC (pa_cons (pe_glob (v := .int 24) (by rfl) hlim ⟨_, rfl⟩) pa_nil)))) pss_nil)
        (pss_cons (ps_fld (pv 0) (pe_call GD hr6 (by rfl) mD kD bD .nil (passes_call (takes_of rfl rfl rfl rfl) (fun _ _ _ _ h => h)) (pa_cons (pv 1) pa_nil)) rfl)
        (pss_cons (ps_fld (pv 0) pe_dnewK rfl)
        (pss_cons (ps_for (passes_of rfl) rfl (pi_tup (pv 2)) (pg_tup rfl (pgs_cons (pg_name (i := 3) scTabInit.nd rfl (Or.inl rfl)) (pgs_cons (pg_name (i := 4) scTabInit.nd rfl (Or.inl rfl)) pgs_nil)))
          (pss_cons (ps_expr (pe_call GN hr4 (by rfl) mN kN bN .nil (passes_call (takes_of rfl rfl rfl rfl) (fun _ _ _ _ h => h)) (pa_cons (pv 3) (pa_cons (pe_fld (pv 0) rfl) pa_nil))))
          (pss_cons (ps_expr (pe_call GS hr6 (by rfl) mS kS bS .nil (passes_call (takes_of rfl rfl rfl rfl) (fun _ _ _ _ h => h)) (pa_cons (pv 4) (pa_cons (pe_fld (pv 0) rfl) pa_nil))))
          (pss_one (ps_dput (hu_of hr) (pe_fld (pv 0) rfl) (pv 3) (pe_call GC hr1 (by rfl) mC kC bC .nil pass0 (pa_cons (pe_fld (pv 0) rfl) (pa_cons (pv 4) pa_nil))) rfl)))))
        (pss_one (ps_fld (pv 0) (pe_callTy (call_tuple_dK rfl) (by rfl) T.tup (by decide +kernel) (pa_cons (pe_fld (pv 0) rfl) pa_nil)) rfl))))), ?_⟩
      have small : ∀ n : Nat, n ≤ 2 → n < 1000 := fun n h => by omega
      have hmany : 24 < lamps.length ∨ 24 < (rows.map RowIn.dat).length → Out C H E .many := fun h => Out.of s0 (kx .many (by unfold initT; rw [if_pos h]))
      refine ⟨_, rfl, a, _, rfl, Same.either s0 ha, _, _, rfl, rfl, _, rfl, ?_⟩
      refine ite2 (fun c1 => ?_) (fun c1 => ?_)
      · exact raise_end (hmany (.inl (by have q : (24 : Int) < (lamps.length : Nat) := of_decide_eq_true c1; omega)))
      have c1' : ¬ 24 < lamps.length := fun x => c1 (decide_eq_true (by show (24 : Int) < (lamps.length : Nat); omega))
      refine ⟨_, rfl, b, _, rfl, .inr (Same.tup s0 hb), _, _, rfl, rfl, _, rfl, ?_⟩
      refine ite2 (fun c2 => ?_) (fun c2 => ?_)
      · exact raise_end (hmany (.inr (by
          have q : (24 : Int) < ((rows.map fun r => V.ref r.t).length : Nat) := of_decide_eq_true c2
          rw [List.length_map] at q ⊢
          omega)))
      have c2' : ¬ 24 < (rows.map RowIn.dat).length := fun x => c2 (decide_eq_true (by
        show (24 : Int) < ((rows.map fun r => V.ref r.t).length : Nat)
        rw [List.length_map] at x ⊢
        omega))
      have hT : initT lamps (rows.map RowIn.dat) = match chkNames lamps [] with
          | .error e => .error e
          | .ok ls => match initRows ls (rows.map RowIn.dat) [] with
            | .error e => .error e
            | .ok rs => .ok (ls, rs) := by
        show (if _ then _ else _) = _
        rw [if_neg (by intro z; rcases z with z | z; exact c1' z; exact c2' z)]
        try rfl
      -- self.lamps = distinct_names(lamps)
      refine ⟨_, rfl, a, lamps, rfl, Same.either s0 ha, fun v hv => (hla v hv).of s0, hll, fun ls hls H1 lt s1 hlt e1 => ?_, fun e he => Out.of s0 (kx e (by rw [hT, he]))⟩
      rw [hls] at hT
      dsimp only at hT
      have s01 : Same H0 H1 := s0.trans s1
      refine ⟨_, rfl, p, CT, dx, [], rfl, s1 _ _ hp, T.cl, T.nL, by decide, ?_⟩
      have nltp : lt ≠ p := fun z => by rw [z, hp] at hlt; cases hlt
      have keep0 : ∀ {Hx : Hp} {o : HO}, Same H0 Hx → Same H0 (upd Hx p o) := fun {Hx o} s b u e => by
        rw [upd_ne (ne_of_none e hp0)]; exact s _ _ e
      -- self._shown = {}
      refine fun sd hsd => ⟨_, rfl, p, CT, dx, pf1 (.ref lt), rfl, (by rw [upd_ne (ne_of_none upd_same hsd), upd_same]; rfl), T.cl, T.nS, small _ (Nat.le_trans (pf1_len _) (by decide)), ?_⟩
      have hsd1 : H1 sd = none := by
        have nsd : sd ≠ p := fun z => by rw [z, upd_same] at hsd; cases hsd
        rw [upd_ne nsd] at hsd
        exact hsd
      have nsp : p ≠ sd := fun z => by
        have q := s1 _ _ hp
        rw [z, hsd1] at q
        cases q
      have nls : lt ≠ sd := ne_of_none e1 hsd1
      have hsd0 : H0 sd = none := s01.free hsd1
      refine ⟨_, rfl, b, rfl, ⟨rows.map fun r => V.ref r.t, ?_⟩, for_it (walk_tup (K := K) (a := b) (xs := rows.map fun r => V.ref r.t)) (fun i σ H' => ∃ (x y : Option V) (kvs : List (Key × V)) (acc : List (Str × List Str)),
          σ = [some (.ref p), some (.ref a), some (.ref b), x, y] ∧ H' p = some (.ins CT dx (pf2 (.ref lt) (.ref sd))) ∧ H' lt = some (.tup (ls.map V.str)) ∧ H' sd = some (.dK kvs) ∧ RowsAt H' acc kvs ∧ Same H0 H' ∧
          initRows ls ((rows.map RowIn.dat).drop i) acc = initRows ls (rows.map RowIn.dat) [] ∧ acc.length ≤ i) ?_ ?_ ?_ ?_⟩
      · exact Same.tup (keep0 ((keep0 s01).trans (Same.upd_new hsd))) hb
      · refine ⟨none, none, [], [], rfl, upd_same, ?_, ?_, .nil, keep0 ((keep0 s01).trans (Same.upd_new hsd)), rfl, Nat.le_refl _⟩
        · rw [upd_ne nltp, upd_ne nls, upd_ne nltp]; exact e1
        · rw [upd_ne nsp.symm, upd_same]
      · rintro i σ H' _ ⟨_, _, _, _, _, _, _, _, _, s', _⟩
        exact Same.tup s' hb
      · rintro i v σ H2 H3 hi ⟨x, y, kvs, acc, rfl, h2p, h2l, h2s, hrs, s2, hc, hal⟩ ⟨rfl, hv⟩
        have hv2 : (rows.map fun r => V.ref r.t)[i]? = some v := hv
        rw [List.length_map] at hi
        obtain ⟨r, hr, rfl⟩ : ∃ r, rows[i]? = some r ∧ v = V.ref r.t := by
          rw [List.getElem?_map] at hv2
          cases e : rows[i]? with
          | none => rw [e] at hv2; cases hv2
          | some r => rw [e] at hv2; exact ⟨r, rfl, (Option.some.inj hv2).symm⟩
        have hd : (rows.map RowIn.dat).drop i = (r.look, r.xs) :: (rows.map RowIn.dat).drop (i + 1) := by
          rw [List.drop_eq_getElem_cons (by rw [List.length_map]; exact hi)]
          rw [List.getElem_map, (List.getElem?_eq_some_iff.mp hr).2]
          rfl
        rw [hd] at hc
        have R := hrw r (List.mem_of_getElem? hr)
        have R2 := R.of s2
        refine ⟨r.t, _, rfl, R2.pair, rfl, _, _, rfl, _, _, rfl, rfl, ?_⟩
        -- check_new(look, self._shown)
        refine ⟨_, rfl, _, rfl, p, CT, dx, _, _, rfl, h2p, T.cl, T.nS, pf2_shown _ _, r.look, sd, kvs, acc.map (·.1), rfl, R2.name, h2s, hrs.keys, fun H4 s4 hn => ?_, fun e he => ?_⟩
        · obtain ⟨z, ez, hz, hza⟩ := chkNew_none hn
          -- _check_shown(shown, self.lamps)
          refine ⟨_, rfl, _, rfl, p, CT, dx, _, _, rfl, s4 _ _ h2p, T.cl, T.nL, pf2_lamps _ _, r.s, lt, r.xs, ls, rfl, Same.either s4 R2.seq, (R2.of s4).all, R.len, SqT.of (s4 _ _ h2l), fun H5 hsn s5 => ?_, fun e he => ?_⟩
          · -- self._shown[look] = _chosen_of(self.lamps, shown)
            have s45 : Same H3 H5 := s4.trans s5
            have hxs : r.xs = (r.xs.map strOf).map V.str := shown_strs hsn
            refine ⟨_, rfl, p, CT, dx, _, _, rfl, s45 _ _ h2p, T.cl, T.nL, pf2_lamps _ _, _, rfl, lt, r.s, ls, r.xs.map strOf, rfl, SqT.of (s45 _ _ h2l), (by rw [← hxs]; exact Same.either s45 R2.seq), ?_, fun H6 t s6 ht et => ?_⟩
            · have q := names_len hls
              simp at q
              omega
            · have s26 : Same H3 H6 := s45.trans s6
              refine ⟨_, rfl, p, CT, dx, _, _, rfl, s26 _ _ h2p, T.cl, T.nS, pf2_shown _ _, _, rfl, sd, _, rfl, (by rw [ez]; exact DPut.k (k := Sum.inr z) (s26 _ _ h2s) (by rw [hrs.length]; exact small1000 (by omega))), ?_⟩
              have hval : valV kvs (Sum.inr z) = none := by
                have q := isSome_valV (es := acc.map (·.1)) hrs.keys (z := z)
                rw [decide_eq_false hza] at q
                cases e : valV kvs (Sum.inr z) with
                | none => rfl
                | some u => rw [e] at q; cases q
              rw [putK_new _ hval]
              have tups : ∀ b xs, H6 b = some (.tup xs) → upd H6 sd (.dK (kvs ++ [(Sum.inr z, .ref t)])) b = some (.tup xs) := fun b xs e => by
                have nb : b ≠ sd := fun q => by rw [q, s26 _ _ h2s] at e; cases e
                rw [upd_ne nb]; exact e
              refine ⟨_, _, kvs ++ [(Sum.inr z, .ref t)], acc ++ [(z, chosen ls (r.xs.map strOf))], rfl, ?_, tups _ _ (s26 _ _ h2l), upd_same, ?_, fun b o e => ?_, ?_, ?_⟩
              · have np : p ≠ sd := nsp
                rw [upd_ne np]; exact s26 _ _ h2p
              · exact (hrs.of fun b xs e => tups b xs (s26 _ _ e)).snoc (tups _ _ et)
              · rw [upd_ne (ne_of_none e hsd0)]
                exact s26 _ _ (s2 _ _ e)
              · rw [← hc, initRows, hn, hsn, ez]
                rfl
              · rw [List.length_append]
                simp
                omega
          · have hce : initRows ls (rows.map RowIn.dat) [] = .error e := by rw [← hc, initRows, hn, he]
            exact Out.of (s2.trans s4) (kx e (by rw [hT, hce]))
        · have hce : initRows ls (rows.map RowIn.dat) [] = .error e := by rw [← hc, initRows, he]
          exact Out.of s2 (kx e (by rw [hT, hce]))
      · rintro σ H2 ⟨x, y, kvs, acc, rfl, h2p, h2l, h2s, hrs, s2, hc, hal⟩
        have hc' : initRows ls (rows.map RowIn.dat) [] = .ok acc := by
          rw [← hc, List.drop_eq_nil_of_le (by simp)]
          rfl
        -- self.looks = tuple(self._shown)
        refine ⟨_, rfl, p, CT, dx, _, _, rfl, h2p, T.cl, T.nS, pf2_shown _ _, sd, kvs, rfl, h2s, fun kt hkt => ?_⟩
        have ntp : p ≠ kt := ne_of_none h2p hkt
        refine ⟨_, rfl, p, CT, dx, _, rfl, (by rw [upd_ne ntp]; exact h2p), T.cl, T.nK, small _ (pf2_len _ _), ?_⟩
        refine k ls acc (by rw [hT, hc']) _ (keep0 (s2.trans (Same.upd_new hkt))) ⟨dx, lt, sd, kt, kvs, upd_same, ?_, ?_, ?_, ?_⟩
        · rw [upd_ne nltp, upd_ne (ne_of_none h2l hkt)]; exact h2l
        · rw [upd_ne nsp.symm, upd_ne (ne_of_none h2s hkt)]; exact h2s
        · have q : (kvs.map fun kv => kV kv.1) = (kvs.map (·.1)).map kV := by rw [List.map_map]; rfl
          rw [upd_ne ntp.symm, upd_same, q, hrs.keys, List.map_map]
          rfl
        · refine hrs.of fun b xs e => ?_
          have nb : b ≠ p := fun q => by rw [q, h2p] at e; cases e
          rw [upd_ne nb, upd_ne (ne_of_none e hkt)]; exact e
end
end Dl

/-! len(o) and o[k] by the class's own __len__ and __getitem__ -/
namespace Dl
open PySem PySem.Spec PyProof.Rows L2
section
variable {X : Cx} {CX : CXT} {k : Nat} {C f : Addr} {fd : FuncData} {ps : List Str} {sp : Sp} {E : XK}
theorem run_at {A : Around} {pins : List (Addr × Obj)} {σ : L2.St} {H : Hp} {s : Shared} {Q : VK} {us : List Value} {vs : List V} (hA : A.frames = X.A.frames) (F : FnOk X.prog X.w X.K X.mg X.base CX k f fd ps sp) (hr : Room k A)
    (hb : Binds X.K fd ps []) (hx : Passes CX X E) (I : Inv X pins σ H s) (r : Vals vs us) (h : sp vs H Q E) : wpAny (model X.prog X.w) A (call (.ref f) us) (EP X pins σ Q) X.xe s := by
  have e0 : Env0 X.prog X.w X.K X.mg X.base A X.stack s H := by
    have e := I.env0
    exact ⟨by rw [hA]; exact e.frames, e.mod, e.bs, e.bsz, e.funs, e.frf, e.hok, e.bare⟩
  have hl := F.len _ _ _ _ h
  refine wpAny_call (codeAny_mono (F.run A X.stack s H ⟨us, []⟩ us vs Q E hr e0 (by
    have := hb s us I.kIn (by rw [List.append_nil, ← r.length]; exact hl)
    simpa using this) r h) fun r s' hq => ?_)
  cases r with
  | error e => exact hx pins σ H s e s' I hq
  | ok fl =>
    cases fl with
    | ret u => exact I.after hq
    | next => exact False.elim hq
    | brk => exact False.elim hq
    | cont => exact False.elim hq
def rLenOwn (C : Addr) (sp : Sp) (E : XK) : List V → Hp → VK → Prop := fun xs H Q => ∃ a dx fs, xs = [.ref a] ∧ H a = some (.ins C dx fs) ∧ sp [.ref a] H (fun v H' => ∃ n : Nat, v = .int (n : Int) ∧ n ≤ 1000 ∧ Q (.int (n : Int)) H') E
theorem call_lenOwn (F : FnOk X.prog X.w X.K X.mg X.base CX k f fd ps sp) (hs : PySem.W.findIn X.K (.ref C) "__len__" = some (some (.ref f))) (hf : PySem.W.isFn X.K (.ref f) = true) (hr : Room (k + 1) X.A) (hb : Binds X.K fd ps []) (hx : Passes CX X E) :
    CallR X (.builtin "len") (rLenOwn C sp E) := by
  intro pins s σ H xs us Q I r h
  obtain ⟨a, dx, fs, rfl, ha, hsp⟩ := h
  obtain ⟨u, rfl, rx⟩ := vals1 r
  cases rx
  obtain ⟨mA, J, _⟩ := ins_get I.hok ha
  obtain ⟨od, J, _⟩ := J.look
  obtain ⟨m, hF⟩ := I.fr
  refine PySem.W.len_K hF I.ok.mod.kin J hs hf ?_
  refine wpAny_mono (run_at (A := X.A.in1) rfl F hr.in1 hb hx I (show Vals [V.ref a] [Value.ref a] from .cons rfl .nil) hsp) (fun v s' hv => ?_) fun _ _ y => y
  obtain ⟨z, H', I', rz, n, ez, hn, q⟩ := hv
  subst ez
  obtain ⟨t, rfl⟩ := rz
  exact ⟨⟨by omega, by omega⟩, ⟨.int n, H', I'.tok _, ⟨_, rfl⟩, q⟩⟩
def rIxOwn (C : Addr) (sp : Sp) (E : XK) : R2 := fun x y H Q => ∃ a dx fs, x = .ref a ∧ H a = some (.ins C dx fs) ∧ sp [.ref a, y] H Q E
theorem pe_ixOwn {a b : Expr} {ta tb : TE} {pos : Pos} (F : FnOk X.prog X.w X.K X.mg X.base CX k f fd ps sp) (hs : PySem.W.findIn X.K (.ref C) "__getitem__" = some (some (.ref f))) (hfn : PySem.W.fnIn X.K f = true) (hf : PySem.W.isFn X.K (.ref f) = true)
    (hr : Room (k + 1) X.A) (hb : Binds X.K fd ps []) (hx : Passes CX X E) (ha : PE X a ta) (hb' : PE X b tb)
    (hsl : ∀ v u, subscripted b true v u = runValue (.builtin "lifetime.subscript" ⟨[v, u], []⟩) := by intros; rfl) : PE X (.Subscript a b pos) (tOp (rIxOwn C sp E) ta tb) := by
  refine ⟨fun pins s σ H Q I h => ?_⟩
  refine Subscript_ (binT ha hb' I h fun v u s2 x y H2 I2 rx ry q => ?_)
  obtain ⟨p, dx, fs, rfl, hp, hsp⟩ := q
  cases rx
  obtain ⟨mA, J, _⟩ := ins_get I2.hok hp
  obtain ⟨od, J, _⟩ := J.look
  obtain ⟨m, hF⟩ := I2.fr
  exact PySem.W.sub_K hF I2.ok.mod.kin J hs hfn hf (run_at (A := X.A.in1) rfl F hr.in1 hb hx I2 (show Vals [V.ref p, y] [Value.ref p, u] from .cons rfl (.cons ry .nil)) hsp) (hsl _ _)
end
end Dl

namespace Dl
open PySem L2
/-! ### methods of a table -/
def spAllKnown (K : PySem.W.Frag) (C : Cs) : Sp := fun vs H Q E => ∃ (p q : Addr) (xs : List V) (es : List Str), vs = [.ref p, .ref q] ∧ SqT K H p xs ∧ (∀ v ∈ xs, NmOk H v) ∧ SqT K H q (es.map V.str) ∧
  ((xs.find? fun v => !knows v es) = none → Q .non H) ∧ ∀ v, (xs.find? fun v => !knows v es) = some v → Out1 C.unk "name" v H E
/-- what a method may lean on: a table that was made by the checks -/
structure TabOk (ls : List Str) (rs : List (Str × List Str)) : Prop where
  lnd : ls.Nodup
  lval : ∀ z ∈ ls, validN z = true
  lfew : ls.length ≤ 24
  knd : (rs.map (·.1)).Nodup
  kval : ∀ x ∈ rs, validN x.1 = true
  kfew : rs.length ≤ 24
  sub : ∀ x ∈ rs, x.2.Sublist ls
theorem RowsAt.val {H : Hp} {rs : List (Str × List Str)} {kvs : List (Key × V)} (h : RowsAt H rs kvs) : (rs.map (·.1)).Nodup → ∀ {x : Str × List Str}, x ∈ rs → ∃ a, valV kvs (Sum.inr x.1) = some (.ref a) ∧ H a = some (.tup (x.2.map V.str)) := by
  induction h with
  | nil => intro _ x hx; cases hx
  | @cons k sh a r kvs e h ih =>
    intro nd x hx
    rw [List.map_cons, List.nodup_cons] at nd
    rcases List.mem_cons.mp hx with rfl | hx
    · exact ⟨a, by simp [valV], e⟩
    · have ne : ¬ k = x.1 := fun q => nd.1 (by rw [q]; exact List.mem_map.mpr ⟨x, hx, rfl⟩)
      obtain ⟨b, h1, h2⟩ := ih nd.2 hx
      refine ⟨b, ?_, h2⟩
      unfold valV at h1 ⊢
      rw [List.find?_cons_of_neg (by simpa using ne)]
      exact h1
/-- a pair of rows() -/
structure RowT (H : Hp) (r : RowIn) : Prop where
  pair : H r.t = some (.tup [r.look, .ref r.s])
  tup : H r.s = some (.tup r.xs)
theorem RowT.of {H H' : Hp} {r : RowIn} (s : Same H H') (h : RowT H r) : RowT H' r := ⟨s _ _ h.pair, s _ _ h.tup⟩
def rdat (x : Str × List Str) : V × List V := (.str x.1, x.2.map V.str)
def spTRows (K : PySem.W.Frag) (CT : Addr) : Sp := fun vs H Q _ => ∃ (p : Addr) (ls : List Str) (rs : List (Str × List Str)), vs = [.ref p] ∧ TableAt CT H p ls rs ∧ TabOk ls rs ∧
  ∀ (H' : Hp) (l : Addr) (rows : List RowIn), Same H H' → H l = none → H' l = some (.lst (rows.map fun r => V.ref r.t)) → (∀ r ∈ rows, RowT H' r) → rows.map RowIn.dat = rs.map rdat → Q (.ref l) H'
section
variable {P : Program} {w : World} {K : PySem.W.Frag} {mg : Str → Option Value} {base : Heap} {C : Cs} {CT : Addr}
theorem scCheckAll : FnScope ["chosen", "names", "name"] ["chosen", "names"] (defScope sCheckAll) := ⟨rfl, rfl, rfl, by decide +kernel, rfl, by decide +kernel, by decide +kernel⟩
theorem ok_checkall {f : Addr} {fd : FuncData} (F : Fun K "check_all_known" "check_all_known" sCheckAll f fd) (gK : Dfn P w K mg base (L2.CX P w) 4 "check_known" ["name", "names"] (spKnown K C)) :
    FnOk P w K mg base (L2.CX P w) 5 f fd ["chosen", "names"] (spAllKnown K C) := by
  obtain ⟨fK, dK, mK, kK, bK, GK⟩ := gK
  refine F.okX scCheckAll (fun vs H Q E h => ?_) (fun cdv A outer s H vs Q E hr h => ?_)
  · obtain ⟨a, b, xs, es, rfl, _⟩ := h
    rfl
  · obtain ⟨p, q, xs, es, rfl, hp, hx, hq, k, kx⟩ := h
    have hr4 : Room 4 _ := hr
    refine ⟨_, (pss_one (ps_for (passes_of rfl) rfl (pi_tup (pv 0)) (pg_name (i := 2) scCheckAll.nd rfl (Or.inl rfl)) (pss_one (ps_expr (pe_call GK hr4 (by rfl) mK kK bK .nil (passes_call (takes_of rfl rfl rfl rfl) (fun _ _ _ _ h => h)) (pa_cons (pv 2) (pa_cons (pv 1) pa_nil))))))), ?_⟩
    refine ⟨_, rfl, p, rfl, ⟨_, hp⟩, for_it (walk_tup (K := K) (a := p) (xs := xs)) (fun i σ H' => H' = H ∧ (∃ x, σ = [some (.ref p), some (.ref q), x]) ∧ (xs.find? fun v => !knows v es) = ((xs.drop i).find? fun v => !knows v es))
      ⟨rfl, ⟨none, rfl⟩, rfl⟩ (fun i σ H' _ ⟨e, _⟩ => by rw [e]; exact hp) ?_ ?_⟩
    · rintro i v σ H1 H2 hi ⟨rfl, ⟨x, rfl⟩, hf⟩ ⟨rfl, hv⟩
      have hd : xs.drop i = v :: xs.drop (i + 1) := by
        rw [List.drop_eq_getElem_cons hi]
        have q := (List.getElem?_eq_some_iff.mp hv).2
        rw [q]
      rw [hd] at hf
      refine ⟨_, rfl, _, rfl, v, q, es, rfl, hx v (List.mem_of_getElem? hv), hq, fun hk => ?_, fun hk => ?_⟩
      · refine ⟨rfl, ⟨_, rfl⟩, ?_⟩
        rw [hf, List.find?_cons_of_neg (by rw [hk]; decide)]
      · refine kx v ?_
        rw [hf, List.find?_cons_of_pos (by rw [hk]; decide)]
    · rintro σ H1 ⟨rfl, ⟨x, rfl⟩, hf⟩
      rw [List.drop_length] at hf
      exact k hf
theorem scTRows : FnScope ["self", "look"] ["self"] (defScope sTableRows) := ⟨rfl, rfl, rfl, by decide +kernel, rfl, by decide +kernel, by decide +kernel⟩
theorem ok_trows {f : Addr} {fd : FuncData} (F : Fun K "rows" "Table.rows" sTableRows f fd) (cl : Cls K CT) (nK : NoAttr K CT "looks") (nS : NoAttr K CT "_shown") : FnOk P w K mg base CX0 1 f fd ["self"] (spTRows K CT) := by
  refine F.ok scTRows (fun vs H Q E h => ?_) (fun cdv A outer s H vs Q E hr h => ?_)
  · obtain ⟨a, ls, rs, rfl, _⟩ := h
    rfl
  · obtain ⟨p, ls, rs, rfl, ⟨dx, lt, sd, kt, kvs, hp, hlt, hsd, hkt, hrs⟩, ok, k⟩ := h
    refine ⟨_, (pss_one (ps_ret (pe_lc (own := [("look", 1)]) (g := gName 1) (tt := tYes) (te := tTup (tCons (tVar 1) (tCons (tDGet (tFld K (tVar 0) "_shown") (tVar 1)) tNil))) rfl scTRows.nd (pi_tup (pe_fld (pv 0) rfl)) (blkOk_by (N := ["self", "look"]) (sc := defScope sTableRows) (by decide +kernel)) (fun _ _ _ _ _ => (pg_name (i := 1) scTRows.nd rfl (Or.inl rfl))) (fun _ _ _ _ _ => pts_nil)
      (fun _ _ _ _ _ => (pe_tup (pa_cons (pv 1) (pa_cons (pe_dget (hu_of hr) (pe_fld (pv 0) rfl) (pv 1) (fun _ _ => rfl)) pa_nil))))))), ?_⟩
    refine ⟨_, rfl, p, CT, dx, _, _, rfl, hp, cl, nK, pf3_looks _ _ _, kt, rfl, ⟨_, SqT.of hkt⟩, fun D hD => lc_it (walk_tup (K := K) (a := kt) (xs := (rs.map (·.1)).map V.str)) (fun i H' => ∃ rows : List RowIn, Same H H' ∧ H' D = some (.lst (rows.map fun r => V.ref r.t)) ∧ (∀ r ∈ rows, RowT H' r) ∧ rows.map RowIn.dat = (rs.take i).map rdat)
      ⟨[], Same.upd_new hD, upd_same, fun r hr => absurd hr (by simp), rfl⟩ (fun i H' _ ⟨_, s1, _⟩ => SqT.of (s1 _ _ hkt)) ?_ ?_⟩
    · rintro i v H1 H2 hi ⟨rows, s1, hD1, hrt, hdat⟩ ⟨rfl, hv⟩
      have hv2 : ((rs.map (·.1)).map V.str)[i]? = some v := hv
      rw [List.getElem?_map, List.getElem?_map] at hv2
      cases hri : rs[i]? with
      | none => rw [hri] at hv2; cases hv2
      | some x =>
      rw [hri] at hv2
      obtain rfl : V.str x.1 = v := Option.some.inj hv2
      obtain ⟨a, hval, ha⟩ := hrs.val ok.knd (List.mem_of_getElem? hri)
      have hsd1 := s1 _ _ hsd
      have dg : DGet H2 sd (kV (Sum.inr x.1)) (some (.ref a)) := by rw [← hval]; exact DGet.k hsd1
      have hlen : rows.length ≤ 24 := by
        have q := congrArg List.length hdat
        rw [List.length_map, List.length_map, List.length_take] at q
        have := ok.kfew
        omega
      refine ⟨rfl, _, rfl, _, rfl, p, CT, dx, _, _, rfl, s1 _ _ hp, cl, nS, pf3_shown _ _ _, _, rfl, sd, _, rfl, dg, by show 2 ≤ sizeLine; decide, fun t ht => ?_⟩
      have ntD : D ≠ t := ne_of_none hD1 ht
      refine ⟨_, by rw [upd_ne ntD]; exact hD1, by rw [List.length_map]; exact small1000 (by omega), rows ++ [⟨t, .str x.1, a, x.2.map V.str⟩], fun c o h => ?_, by rw [upd_same, List.map_append]; rfl, fun r hr => ?_, ?_⟩
      · rw [upd_ne (ne_of_none h hD), upd_ne (ne_of_none (s1 _ _ h) ht)]
        exact s1 _ _ h
      · have keep : ∀ {c : Addr} {ys : List V}, H2 c = some (.tup ys) → upd (upd H2 t (.tup [.str x.1, .ref a])) D (.lst ((rows.map fun r => V.ref r.t) ++ [.ref t])) c = some (.tup ys) := fun {c ys} h => by
          have nD : c ≠ D := fun q => by rw [q, hD1] at h; cases h
          rw [upd_ne nD, upd_ne (ne_of_none h ht)]
          exact h
        rcases List.mem_append.mp hr with h | h
        · exact ⟨keep (hrt r h).pair, keep (hrt r h).tup⟩
        · obtain rfl := List.mem_singleton.mp h
          exact ⟨by rw [upd_ne ntD.symm, upd_same], keep (s1 _ _ ha)⟩
      · have e : rs.take (i + 1) = rs.take i ++ [x] := by rw [List.take_succ, hri]; rfl
        rw [List.map_append, hdat, e, List.map_append]
        rfl
    · rintro H1 ⟨rows, s1, hD1, hrt, hdat⟩
      rw [List.length_map, List.length_map, List.take_length] at hdat
      exact k H1 D rows s1 hD hD1 hrt hdat
end
end Dl

/-! C(e, ..) in a try's body: what the class's __init__ lets out is wished for at the caller's slots; lists of texts as data -/
namespace Dl
open PySem PySem.Spec PyProof.Rows L2
def tMakeS (C : Addr) (sp : Sp) (E : L2.St → XK) (t : TA) : TE := fun σ H Q => t σ H fun vs H1 =>
  ∀ x dx, H1 x = none → H1 dx = none → dx ≠ x → sp (.ref x :: vs) (upd (upd H1 dx (.own x)) x (.ins C dx [])) (fun v H2 => v = .non ∧ Q (.ref x) H2) (E σ)
theorem make_slots {X : Cx} {CX : CXT} {k : Nat} {f C : Addr} {fd : FuncData} {ps : List Str} {sp : Sp} {E : XK} {σ : L2.St} {pins : List (Addr × Obj)} {H : Hp} {s : Shared} {Q : VK} {us : List Value} {vs : List V}
    (M : Mk X.K C f) (F : FnOk X.prog X.w X.K X.mg X.base CX k f fd ps sp) (hr : Room (k + 1) X.A) (hb : Binds X.K fd ps []) (hx : PassesAt CX X σ E) (I : Inv X pins σ H s) (r : Vals vs us)
    (h : ∀ x dx, H x = none → H dx = none → dx ≠ x → sp (.ref x :: vs) (upd (upd H dx (.own x)) x (.ins C dx [])) (fun v H2 => v = .non ∧ Q (.ref x) H2) E) :
    wpAny (model X.prog X.w) X.A (call (.ref C) us) (EP X pins σ Q) X.xe s := by
  have at0 : H s.heap.objs.size = none := I.hok.fresh (Nat.le_refl _)
  have at1 : H (s.heap.objs.size + 1) = none := I.hok.fresh (Nat.le_succ _)
  have want := h _ _ at1 at0 (Nat.ne_of_lt (Nat.lt_succ_self _))
  have J := Inv.made (C := C) I
  have rv : Vals (V.ref (s.heap.objs.size + 1) :: vs) (Value.ref (s.heap.objs.size + 1) :: us) := .cons rfl r
  have len : (Value.ref (s.heap.objs.size + 1) :: us).length = ps.length := by rw [← rv.length]; exact F.len _ _ _ _ want
  have bind := hb _ (Value.ref (s.heap.objs.size + 1) :: us) J.kIn (by rw [List.append_nil]; exact len)
  rw [List.append_nil] at bind
  have body := F.run _ X.stack _ _ ⟨Value.ref (s.heap.objs.size + 1) :: us, []⟩ _ _ _ E (hr.make C us []) (J.env0.make C us []) bind rv want
  apply wpAny_call
  apply make_map (f := f) I.kIn M.makes M.init (beq_iff_eq.mp M.fn)
  apply codeAny_mono body
  intro out s2 hout
  match out, hout with
  | .error er, hout => exact hx pins _ _ er s2 J hout
  | .ok (.ret u), hout =>
    obtain ⟨v, H2, J2, rel, ev, q⟩ := J.after hout
    cases ev
    exact ⟨rel, V.ref (s.heap.objs.size + 1), H2, J2, rfl, q⟩
theorem pe_makeS {X : Cx} {CX : CXT} {k : Nat} {f C : Addr} {fd : FuncData} {ps : List Str} {sp : Sp} {E : L2.St → XK} {x : Str} {p pos : Pos} {e : Expr} {es : List Expr} {t : TA}
    (M : Mk X.K C f) (F : FnOk X.prog X.w X.K X.mg X.base CX k f fd ps sp) (hr : Room (k + 1) X.A) (hg : Gl X x) (hm : X.mg x = some (.ref C)) (hb : Binds X.K fd ps []) (hx : ∀ σ, PassesAt CX X σ (E σ)) (ha : PA X (e :: es) t)
    (hdb : (x == ("__debug__" : Str)) = false := by decide) (he : starEach (e :: es) X.env = (false, eval e X.env) :: starEach es X.env := by rfl) (hpl : (backTo pos (starEach es X.env)).any (·.1) = false := by rfl) :
    PE X (.Call (.Name x p) (e :: es) [] pos) (tMakeS C sp E t) := by
  constructor
  intro pins s σ H Q I h
  apply wpAny_Call_Name_kw
  apply ld_glob I hg hm _ hdb
  apply PySem.W.callWith_K (h₀ := X.base) I.ok.mod.kin M.kp _ he hpl
  apply thn (ha.run pos pins s σ H _ I h)
  rintro us s1 ⟨vs, H1, I1, r, q⟩
  exact ⟨I1.kIn, make_slots M F hr hb (hx σ) I1 r q⟩
/-! ### lists and tuples of texts as data -/
theorem canAll_strs : ∀ {zs : List Str}, (∀ z ∈ zs, PyData.canLay0 (.str z) = true) → PyData.canLayAll0 (zs.map PyData.str) = true
  | [], _ => by simp [PyData.canLayAll0]
  | z :: r, h => by
    rw [List.map_cons, PyData.canLayAll0, Bool.and_eq_true]
    exact ⟨h z (List.mem_cons_self ..), canAll_strs fun y hy => h y (List.mem_cons_of_mem _ hy)⟩
theorem depthAll_strs : ∀ zs : List Str, PyData.depthAll (zs.map PyData.str) = 0
  | [] => by simp [PyData.depthAll]
  | z :: r => by rw [List.map_cons, PyData.depthAll, depthAll_strs r]; simp [PyData.depth]
theorem shaped_strs {zs : List Str} (h : ∀ z ∈ zs, PyData.canLay0 (.str z) = true) : SeqAt.shaped (.list (zs.map PyData.str)) = true := by
  unfold SeqAt.shaped
  rw [Bool.and_eq_true, PyData.canLay0, PyData.depth, depthAll_strs]
  exact ⟨canAll_strs h, by decide⟩
theorem dpAll_strs {K : PySem.W.Frag} {H : Hp} : ∀ zs : List Str, DpAll K H (zs.map V.str) (zs.map PyData.str)
  | [] => .nil
  | z :: r => .cons (.str z) (dpAll_strs r)
theorem eqvAll_strs : ∀ zs ys : List Str, PyData.eqvAll (zs.map PyData.str) (ys.map PyData.str) = decide (zs = ys)
  | [], [] => by simp [PyData.eqvAll]
  | [], _ :: _ => by simp [PyData.eqvAll]
  | _ :: _, [] => by simp [PyData.eqvAll]
  | z :: r, y :: q => by
    rw [List.map_cons, List.map_cons, PyData.eqvAll, eqvAll_strs r q, PyData.eqv]
    by_cases h1 : z = y <;> by_cases h2 : r = q <;> simp [h1, h2]
end Dl

namespace Dl
open PySem PySem.Spec PyProof.Rows L2
/-! ### the drawn names: one to three letters, and the number of the names before where it was there -/
def LT : Str := "abcdefghijklmnopqrstuvwxyz"
def isLet (c : Nat) : Prop := 97 ≤ c ∧ c ≤ 122
def dg (n : Nat) : List Nat := (Str.ofString (toString (n : Int))).cps.toList
theorem lt_facts : ∀ c ∈ LT.cps.toList, 97 ≤ c ∧ c ≤ 122 := by decide +kernel
theorem lt_len : LT.cps.toList.length = 26 := by decide +kernel
theorem dg_facts : ∀ k, k < 25 → dg k ≠ [] ∧ (dg k).length ≤ 2 ∧ ∀ c ∈ dg k, ¬ (97 ≤ c ∧ c ≤ 122) ∧ c ∈ SG.cps.toList ∧ c < 1114112 := by decide +kernel
theorem dg_inj : ∀ j, j < 25 → ∀ k, k < 25 → dg j = dg k → j = k := by decide +kernel
theorem let_sg : ∀ c, c < 123 → 97 ≤ c → c ∈ SG.cps.toList ∧ c < 1114112 := by decide +kernel
theorem sg_small' : ∀ c ∈ SG.cps.toList, c < 1114112 := by decide +kernel
theorem nil_codes : ("" : Str).cps.toList = [] := by decide +kernel
/-- the name that was drawn as number i -/
structure NameAt (i : Nat) (z : Str) : Prop where
  ex : ∃ l : List Nat, l ≠ [] ∧ l.length ≤ 3 ∧ (∀ c ∈ l, isLet c) ∧ (z.cps.toList = l ∨ z.cps.toList = l ++ dg i)
structure NamesOk (zs : List Str) : Prop where
  at_ : ∀ i z, zs[i]? = some z → NameAt i z
  nd : zs.Nodup
  few : zs.length ≤ 24
theorem codes_ext {a b : Str} (h : a.cps.toList = b.cps.toList) : a = b := by
  cases a; cases b
  congr
  exact Array.ext' h
theorem let_dg {l l' : List Nat} {j k : Nat} (hj : j < 25) (hk : k < 25) (hl : ∀ c ∈ l, isLet c) (hl' : ∀ c ∈ l', isLet c) (h : l' ++ dg j = l ++ dg k) : j = k := by
  have tw : ∀ (m d : List Nat), (∀ c ∈ m, isLet c) → (∀ c ∈ d, ¬ isLet c) → (m ++ d).dropWhile (fun c => decide (97 ≤ c ∧ c ≤ 122)) = d := by
    intro m
    induction m with
    | nil =>
      intro d _ hd
      cases d with
      | nil => rfl
      | cons a r =>
        have q : ¬ (97 ≤ a ∧ a ≤ 122) := hd a (List.mem_cons_self ..)
        simp only [List.nil_append, List.dropWhile]
        rw [decide_eq_false q]
    | cons a r ih =>
      intro d hm hd
      have q : 97 ≤ a ∧ a ≤ 122 := hm a (List.mem_cons_self ..)
      rw [List.cons_append, List.dropWhile, decide_eq_true q]
      exact ih d (fun c hc => hm c (List.mem_cons_of_mem _ hc)) hd
  have e := congrArg (List.dropWhile fun c => decide (97 ≤ c ∧ c ≤ 122)) h
  rw [tw l' (dg j) hl' fun c hc => ((dg_facts j hj).2.2 c hc).1, tw l (dg k) hl fun c hc => ((dg_facts k hk).2.2 c hc).1] at e
  exact dg_inj j hj k hk e
theorem fresh_tail {zs : List Str} {l : List Nat} {z : Str} (ok : NamesOk zs) (h23 : zs.length ≤ 23) (hl : ∀ c ∈ l, isLet c) (hz : z.cps.toList = l ++ dg zs.length) : z ∉ zs := by
  intro hm
  obtain ⟨i, hi⟩ := List.getElem?_of_mem hm
  have hlt : i < zs.length := (List.getElem?_eq_some_iff.mp hi).1
  obtain ⟨l', _, _, hl', e⟩ := (ok.at_ i z hi).ex
  rcases e with e | e
  · rw [hz] at e
    have d := dg_facts zs.length (by omega)
    cases hd : dg zs.length with
    | nil => exact d.1 hd
    | cons c r =>
      have m1 : c ∈ l' := by rw [← e, hd]; simp
      have m2 : c ∈ dg zs.length := by rw [hd]; simp
      exact (d.2.2 c m2).1 (hl' c m1)
  · rw [hz] at e
    have := let_dg (by omega) (by omega) hl hl' e.symm
    omega
theorem NameAt.sg {i : Nat} {z : Str} (h : NameAt i z) (hi : i < 25) : (∀ c ∈ z.cps.toList, c ∈ SG.cps.toList) ∧ 1 ≤ z.length ∧ z.length ≤ 5 := by
  obtain ⟨l, h1, h2, h3, h4⟩ := h.ex
  have zl : z.length = z.cps.toList.length := by simp [Str.length]
  have l1 : 1 ≤ l.length := by cases l with | nil => exact absurd rfl h1 | cons _ _ => simp
  have d := dg_facts i hi
  rcases h4 with e | e
  · refine ⟨fun c hc => ?_, by rw [zl, e]; exact l1, by rw [zl, e]; omega⟩
    rw [e] at hc
    exact (let_sg c (by have := (h3 c hc).2; omega) (h3 c hc).1).1
  · refine ⟨fun c hc => ?_, by rw [zl, e, List.length_append]; omega, by rw [zl, e, List.length_append]; omega⟩
    rw [e] at hc
    rcases List.mem_append.mp hc with hc | hc
    · exact (let_sg c (by have := (h3 c hc).2; omega) (h3 c hc).1).1
    · exact (d.2.2 c hc).2.1
theorem NameAt.valid {i : Nat} {z : Str} (h : NameAt i z) (hi : i < 25) : validN z = true := by
  obtain ⟨h1, h2, h3⟩ := h.sg hi
  unfold validN
  rw [decide_eq_true h2, decide_eq_true (show z.length ≤ 12 by omega), List.all_eq_true.mpr fun c hc => decide_eq_true (h1 c hc)]
  rfl
theorem NamesOk.valid {zs : List Str} (ok : NamesOk zs) {z : Str} (hz : z ∈ zs) : validN z = true := by
  obtain ⟨i, hi⟩ := List.getElem?_of_mem hz
  have hlt : i < zs.length := (List.getElem?_eq_some_iff.mp hi).1
  exact (ok.at_ i z hi).valid (by have := ok.few; omega)
theorem valid_small {z : Str} (h : validN z = true) : z.length ≤ 12 ∧ (∀ c ∈ z.cps.toList, c < 1114112) := by
  unfold validN at h
  simp only [Bool.and_eq_true, decide_eq_true_eq] at h
  exact ⟨h.2.1, fun c hc => sg_small' c (of_decide_eq_true (List.all_eq_true.mp h.2.2 c hc))⟩
/-- everything but the bag at b stands -/
def SameB (b : Addr) (H H' : Hp) : Prop := ∀ c o, c ≠ b → H c = some o → H' c = some o
theorem SameB.refl (b : Addr) (H : Hp) : SameB b H H := fun _ _ _ h => h
theorem SameB.trans {b : Addr} {H H1 H2 : Hp} (s : SameB b H H1) (t : SameB b H1 H2) : SameB b H H2 := fun c o n h => t c o n (s c o n h)
theorem SameB.upd {b : Addr} {H : Hp} {o : HO} : SameB b H (upd H b o) := fun c u n h => by rw [upd_ne n]; exact h
theorem SameB.of {b : Addr} {H H' : Hp} (s : Same H H') : SameB b H H' := fun c o _ h => s c o h
theorem SameB.free {b : Addr} {H H' : Hp} (s : SameB b H H') {c : Addr} (n : c ≠ b) (h : H' c = none) : H c = none := by
  cases e : H c with
  | none => rfl
  | some o => rw [s c o n e] at h; cases h
theorem upd_none {H : Hp} {b c : Addr} {o : HO} (h : upd H b o c = none) : H c = none ∧ c ≠ b := by
  by_cases e : c = b
  · subst e; rw [upd_same] at h; cases h
  · rw [upd_ne e] at h; exact ⟨h, e⟩
structure TxtM (mg : Str → Option Value) : Prop where
  range : mg "range" = none
  len : mg "len" = none
  str : mg "str" = none
def spName : Sp := fun vs H Q _ => ∃ (b u : Addr) (L : List Int) (zs : List Str), vs = [.ref b, .ref u] ∧ H b = some (.lst (L.map V.int)) ∧ BagOk L ∧ u ≠ b ∧ H u = some (.lst (zs.map V.str)) ∧ NamesOk zs ∧ zs.length ≤ 23 ∧
  ∀ (L' : List Int) (z : Str), BagOk L' → NameAt zs.length z → z ∉ zs → Q (.str z) (upd H b (.lst (L'.map V.int)))
def spNames : Sp := fun vs H Q _ => ∃ (b : Addr) (L : List Int) (n : Int), vs = [.ref b, .int n] ∧ H b = some (.lst (L.map V.int)) ∧ BagOk L ∧ 0 ≤ n ∧ n ≤ 24 ∧
  ∀ (H' : Hp) (u : Addr) (L' : List Int) (zs : List Str), SameB b H H' → H u = none → H' u = some (.lst (zs.map V.str)) → H' b = some (.lst (L'.map V.int)) → BagOk L' → NamesOk zs → zs.length = n.toNat → Q (.ref u) H'
theorem cat_codes (a b : Str) : (a ++ b).cps.toList = a.cps.toList ++ b.cps.toList := by
  show (a.cps ++ b.cps).toList = _
  simp
theorem cat_len (a b : Str) : (a ++ b).length = a.length + b.length := by
  show (a.cps ++ b.cps).size = _
  rw [Array.size_append]
  rfl
section
variable {P : Program} {w : World} {K : PySem.W.Frag} {mg : Str → Option Value} {base : Heap}
theorem scName : FnScope ["_law_bag_here", "_law_used", "_law_letters", "_law_name_here", "_law_k"] ["_law_bag_here", "_law_used"] (defScope sLawName) := ⟨rfl, rfl, rfl, by decide +kernel, rfl, by decide +kernel, by decide +kernel⟩
theorem ok_name {f : Addr} {fd : FuncData} (F : Fun K "_law_name" "_law_name" sLawName f fd) (T : TxtM mg) (gT : Dfn P w K mg base CX0 1 "_law_take" ["_law_bag_here", "_law_size"] spTake) :
    FnOk P w K mg base CX0 2 f fd ["_law_bag_here", "_law_used"] spName := by
  obtain ⟨fT, dT, mT, kT, bT, GT⟩ := gT
  refine F.ok scName (fun vs H Q E h => ?_) (fun cdv A outer s H vs Q E hr h => ?_)
  · obtain ⟨a, u, L, zs, rfl, _⟩ := h
    rfl
  · obtain ⟨b, u, L, zs, rfl, hb, hok, hub, hu, ok, hlen, k⟩ := h
    have hr1 : Room 1 _ := hr
    refine ⟨_, (pss_cons (ps_set (i := 2) scName.nd rfl (Or.inl rfl) pe_str)
        (pss_cons (ps_set (i := 3) scName.nd rfl (Or.inl rfl) pe_str)
        (pss_cons (ps_for PassesOwn.never rfl (pi_range1 (by rfl) T.range (pa_cons (pe_op op_add pe_int (pe_call GT hr1 (by rfl) mT kT bT .nil pass0 (pa_cons (pv 0) (pa_cons pe_int pa_nil)))) pa_nil)) (pg_name (i := 4) scName.nd rfl (Or.inl rfl)) (pss_one (ps_set (i := 3) scName.nd rfl (Or.inl rfl) (pe_op op_add_str (pv 3) (pe_ix ix_str (pv 2) (pe_call GT hr1 (by rfl) mT kT bT .nil pass0 (pa_cons (pv 0) (pa_cons pe_int pa_nil))) (fun _ _ => rfl))))))
        (pss_cons (ps_if (pt_cmpR op_in_seq (pv 3) (pv 1) (by rfl)) (pss_one (ps_set (i := 3) scName.nd rfl (Or.inl rfl) (pe_op op_add_str (pv 3) (pe_callTy call_str_int (by rfl) T.str (by decide +kernel) (pa_cons (pe_callB call_len_seq (by rfl) T.len PySem.boot_len (pa_cons (pv 1) pa_nil)) pa_nil))))) pss_nil)
        (pss_one (ps_ret (pv 3))))))), ?_⟩
    refine ⟨_, rfl, b, L, 3, rfl, hb, hok, by decide, by decide, fun L1 r ok1 r0 r1 => ⟨_, _, rfl, rfl, _, rfl, by omega, by omega, for_range (n := (1 + r).toNat) (lo := 0)
      (fun i σ H' => ∃ (z : Str) (x : Option V) (L2 : List Int), σ = [some (.ref b), some (.ref u), some (.str LT), some (.str z), x] ∧ H' = upd H b (.lst (L2.map V.int)) ∧ BagOk L2 ∧ z.cps.toList.length = i ∧ ∀ c ∈ z.cps.toList, isLet c)
      ⟨_, none, L1, rfl, rfl, ok1, by decide +kernel, fun c hc => absurd hc (by rw [nil_codes]; exact List.not_mem_nil)⟩ ?_ ?_⟩⟩
    · rintro i σ H2 hi ⟨z, x, L2, rfl, rfl, ok2, hz, hzc⟩
      refine ⟨_, rfl, _, rfl, _, rfl, b, L2, 26, rfl, upd_same, ok2, by decide, by decide, fun L3 q ok3 q0 q1 => ?_⟩
      have hq3 : q.toNat < LT.cps.toList.length := by rw [lt_len]; omega
      refine ⟨LT, q, LT.cps.toList[q.toNat], rfl, rfl, by decide +kernel, ?_, ?_⟩
      · have e := atI_nat (xs := LT.cps.toList) (j := q.toNat) (List.getElem?_eq_getElem hq3)
        rw [Int.toNat_of_nonneg q0] at e
        exact e
      · have ez : z.length = i := hz
        refine ⟨z, _, rfl, rfl, ?_, ?_⟩
        · rw [ez]
          exact Nat.le_of_lt (small1000 (by show i + 1 ≤ 1000; omega))
        · refine ⟨_, _, L3, rfl, upd_upd, ok3, ?_, ?_⟩
          · rw [cat_codes, List.length_append, hz]
            rfl
          · intro c hc
            rw [cat_codes] at hc
            rcases List.mem_append.mp hc with h | h
            · exact hzc c h
            · obtain rfl : c = LT.cps.toList[q.toNat] := by simpa using h
              exact lt_facts _ (List.getElem_mem hq3)
    · rintro σ H2 ⟨z, x, L2, rfl, rfl, ok2, hz, hzc⟩
      have zl : z.length = (1 + r).toNat := hz
      have hne : z.cps.toList ≠ [] := by
        intro e
        rw [e] at hz
        simp at hz
        omega
      have at0 : NameAt zs.length z := ⟨z.cps.toList, hne, by omega, hzc, .inl rfl⟩
      refine ⟨_, rfl, _, rfl, u, _, rfl, .inl (SqL.of (by rw [upd_ne hub]; exact hu)), rfl, flat_strs zs, _, rfl, ?_⟩
      show if (inV (.str z) (zs.map V.str)) = true then _ else _
      rw [inV_str]
      by_cases hm : z ∈ zs
      · rw [decide_eq_true hm]
        refine iteT ⟨_, rfl, _, rfl, u, _, rfl, .inl (SqL.of (by rw [upd_ne hub]; exact hu)), _, rfl, ?_, z, _, rfl, rfl, ?_, _, rfl, ?_⟩
        · rw [List.length_map]
          have : ((zs.length : Nat) : Int).natAbs = zs.length := by simp
          rw [this]
          exact Nat.lt_of_le_of_lt (Nat.log2_le_self _) (by omega)
        · have d := (dg_facts zs.length (by omega)).2.1
          have e : (Str.ofString (toString ((((zs.map V.str).length : Nat) : Int)))).length = (dg zs.length).length := by
            rw [List.length_map]
            simp [dg, Str.length]
          show z.length + (Str.ofString (toString ((((zs.map V.str).length : Nat) : Int)))).length ≤ sizeLine
          rw [e, zl]
          exact Nat.le_of_lt (small1000 (by omega))
        · have ez : (z ++ (Str.ofString (toString ((((zs.map V.str).length : Nat) : Int))))).cps.toList = z.cps.toList ++ dg zs.length := by
            rw [cat_codes, List.length_map]
            rfl
          exact k L2 _ ok2 ⟨z.cps.toList, hne, by omega, hzc, .inr ez⟩ (fresh_tail ok hlen hzc ez)
      · rw [decide_eq_false hm]
        exact iteF ⟨_, rfl, k L2 z ok2 at0 hm⟩
theorem scNames : FnScope ["_law_bag_here", "_law_count", "_law_names_here", "_law_k"] ["_law_bag_here", "_law_count"] (defScope sLawNames) := ⟨rfl, rfl, rfl, by decide +kernel, rfl, by decide +kernel, by decide +kernel⟩
theorem ok_names {f : Addr} {fd : FuncData} (F : Fun K "_law_names" "_law_names" sLawNames f fd) (T : TxtM mg) (gN : Dfn P w K mg base CX0 2 "_law_name" ["_law_bag_here", "_law_used"] spName) :
    FnOk P w K mg base CX0 3 f fd ["_law_bag_here", "_law_count"] spNames := by
  obtain ⟨fNm, dNm, mNm, kNm, bNm, GNm⟩ := gN
  refine F.ok scNames (fun vs H Q E h => ?_) (fun cdv A outer s H vs Q E hr h => ?_)
  · obtain ⟨a, L, n, rfl, _⟩ := h
    rfl
  · obtain ⟨b, L, n, rfl, hb, hok, hn0, hn1, k⟩ := h
    have hr2 : Room 2 _ := hr
    refine ⟨_, (pss_cons (ps_set (i := 2) scNames.nd rfl (Or.inl rfl) (pe_lst pa_nil))
        (pss_cons (ps_for PassesOwn.never rfl (pi_range1 (by rfl) T.range (pa_cons (pv 1) pa_nil)) (pg_name (i := 3) scNames.nd rfl (Or.inl rfl)) (pss_one (ps_expr (pe_bm PySem.F.plainAttrs_list PySem.F.slot_list_append PySem.F.type_list_append mt_append (pv 2) (pa_cons (pe_call GNm hr2 (by rfl) mNm kNm bNm .nil pass0 (pa_cons (pv 0) (pa_cons (pv 2) pa_nil))) pa_nil)))))
        (pss_one (ps_ret (pv 2))))), ?_⟩
    refine ⟨Nat.zero_le _, fun u hu => ?_⟩
    have nub : u ≠ b := fun e => by rw [e, hb] at hu; cases hu
    refine ⟨_, rfl, _, rfl, by omega, by omega, for_range (n := n.toNat) (lo := 0)
      (fun i σ H' => ∃ (zs : List Str) (x : Option V) (L2 : List Int), σ = [some (.ref b), some (.int n), some (.ref u), x] ∧ SameB b H H' ∧ H' b = some (.lst (L2.map V.int)) ∧ BagOk L2 ∧ H' u = some (.lst (zs.map V.str)) ∧ NamesOk zs ∧ zs.length = i)
      ⟨[], none, L, rfl, SameB.of (Same.upd_new hu), by rw [upd_ne nub.symm]; exact hb, hok, upd_same, ⟨fun i z h => by simp at h, by simp, by simp⟩, rfl⟩ ?_ ?_⟩
    · rintro i σ H2 hi ⟨zs, x, L2, rfl, s2, hb2, ok2, hu2, okz, hz⟩
      refine ⟨_, rfl, .inl ⟨rfl, _, SqL.of hu2⟩, _, rfl, _, rfl, b, u, L2, zs, rfl, hb2, ok2, nub, hu2, okz, by omega, fun L3 z ok3 hat hnz => ?_⟩
      refine ⟨u, _, _, rfl, rfl, by rw [upd_ne nub]; exact hu2, ?_, ?_⟩
      · rw [List.length_map]
        exact small1000 (by omega)
      · refine ⟨zs ++ [z], _, L3, rfl, fun c o n h => ?_, ?_, ok3, ?_, ⟨fun j y h => ?_, ?_, ?_⟩, ?_⟩
        · have ncu : c ≠ u := ne_of_none h hu
          rw [upd_ne ncu, upd_ne n]
          exact s2 c o n h
        · rw [upd_ne nub.symm, upd_same]
        · rw [upd_same, List.map_append]
          rfl
        · by_cases hj : j < zs.length
          · rw [List.getElem?_append_left hj] at h
            exact okz.at_ j y h
          · rw [List.getElem?_append_right (by omega)] at h
            have hj0 : j - zs.length = 0 := by
              have := (List.getElem?_eq_some_iff.mp h).1
              simp at this
              omega
            rw [hj0] at h
            obtain rfl : z = y := by simpa using h
            have : j = zs.length := by omega
            rw [this]
            exact hat
        · rw [List.nodup_append]
          refine ⟨okz.nd, by simp, fun a ha c hc => ?_⟩
          obtain rfl := List.mem_singleton.mp hc
          exact fun e => hnz (e ▸ ha)
        · rw [List.length_append]
          simp
          omega
        · rw [List.length_append, hz]
          rfl
    · rintro σ H2 ⟨zs, x, L2, rfl, s2, hb2, ok2, hu2, okz, hz⟩
      exact ⟨_, rfl, k H2 u L2 zs s2 hu hu2 hb2 ok2 okz hz⟩
end
end Dl

namespace Dl
open PySem PySem.Spec PyProof.Rows L2
/-! ### texts: what is a valid name -/
theorem len_pos {z : Str} (h : ¬ z = ("" : Str)) : 1 ≤ z.length := by
  have e0 : ("" : Str) = ⟨#[]⟩ := by decide +kernel
  cases z with
  | mk cps =>
    by_cases q : cps.size = 0
    · exfalso
      apply h
      rw [e0, Array.eq_empty_of_size_eq_zero q]
    · show 1 ≤ cps.size
      omega
theorem valid_of {z : Str} (h1 : 1 ≤ z.length) (h : ∀ c ∈ z.cps.toList, c ∈ SG.cps.toList) : validN z = decide (z.length ≤ 12) := by
  unfold validN
  rw [decide_eq_true h1, List.all_eq_true.mpr fun c hc => decide_eq_true (h c hc)]
  simp
theorem invalid_of {z : Str} {c : Nat} (hc : c ∈ z.cps.toList) (h : c ∉ SG.cps.toList) : validN z = false := by
  unfold validN
  have q : (z.cps.toList.all fun c => decide (c ∈ SG.cps.toList)) = false := by
    rw [List.all_eq_false]
    exact ⟨c, hc, by simpa using h⟩
  rw [q]
  simp
end Dl

namespace Dl
open PySem PySem.Spec PyProof.Rows L2
/-! ### names and texts as data -/
def canS (z : Str) : Prop := PyData.canLay0 (.str z) = true
theorem can_of {z : Str} (h : ∀ c ∈ z.cps.toList, c < 1114112) : canS z := by
  unfold canS PyData.canLay0 PyData.strOk
  rw [Array.all_eq_true]
  intro i hi
  exact decide_eq_true (h _ (by simp))
/-- a value that is passed as a name, as data -/
def NmD (H : Hp) : V → Prop
  | .str z => canS z ∧ z.length ≤ 1000
  | .int _ => True
  | .non => True
  | .ref p => ∃ zs : List Str, H p = some (.lst (zs.map V.str)) ∧ ∀ z ∈ zs, canS z
  | _ => False
theorem NmD.ok {H : Hp} {v : V} (h : NmD H v) : NmOk H v := by
  cases v with
  | str z => exact Nat.le_of_lt (small1000 h.2)
  | int i => trivial
  | non => trivial
  | ref p => obtain ⟨zs, e, _⟩ := h; exact ⟨_, e⟩
  | bl _ => exact h.elim
  | byt _ => exact h.elim
  | flt _ => exact h.elim
  | ty _ => exact h.elim
theorem NmD.of {H H' : Hp} {v : V} (s : Same H H') (h : NmD H v) : NmD H' v := by
  cases v with
  | str z => exact h
  | int i => trivial
  | non => trivial
  | ref p => obtain ⟨zs, e, q⟩ := h; exact ⟨zs, s _ _ e, q⟩
  | bl _ => exact h.elim
  | byt _ => exact h.elim
  | flt _ => exact h.elim
  | ty _ => exact h.elim
theorem any_str (es : List Str) (y : Str) : (es.map PyData.str).any (fun z => PyData.eqv z (.str y)) = decide (y ∈ es) := by
  rw [List.any_map]
  induction es with
  | nil => simp
  | cons a r ih =>
    rw [List.any_cons, ih]
    show (PyData.eqv (.str a) (.str y) || decide (y ∈ r)) = _
    rw [PyData.eqv]
    by_cases h : a = y
    · subst h; simp
    · have h2 : ¬ y = a := fun q => h q.symm
      simp [h, h2]
theorem any_no (es : List Str) {d : PyData} (h : ∀ z : Str, PyData.eqv (.str z) d = false) : (es.map PyData.str).any (fun z => PyData.eqv z d) = false := by
  rw [List.any_map, List.any_eq_false]
  intro z _
  show ¬ PyData.eqv (.str z) d = true
  rw [h z]
  decide
/-- the data of a name -/
theorem NmD.dat (K : PySem.W.Frag) {H : Hp} {v : V} (h : NmD H v) : ∃ d, Dp K H v d ∧ PyData.canLay0 d = true ∧ d.depth ≤ 1 ∧ ∀ es : List Str, (es.map PyData.str).any (fun z => PyData.eqv z d) = knows v es := by
  cases v with
  | str z => exact ⟨.str z, .str z, h.1, by simp [PyData.depth], fun es => any_str es z⟩
  | int i => exact ⟨.int i, .int i, by simp [PyData.canLay0], by simp [PyData.depth], fun es => any_no es fun z => by rw [PyData.eqv]⟩
  | non => exact ⟨.none, .non, by simp [PyData.canLay0], by simp [PyData.depth], fun es => any_no es fun z => by rw [PyData.eqv]⟩
  | ref p =>
    obtain ⟨zs, e, q⟩ := h
    refine ⟨.list (zs.map PyData.str), .lst (SqL.of e) (dpAll_strs zs), ?_, ?_, fun es => any_no es fun z => by rw [PyData.eqv]⟩
    · rw [PyData.canLay0]; exact canAll_strs q
    · rw [PyData.depth, depthAll_strs]; decide
  | bl _ => exact h.elim
  | byt _ => exact h.elim
  | flt _ => exact h.elim
  | ty _ => exact h.elim
theorem shaped_of {d : PyData} (h : PyData.canLay0 d = true) (h2 : d.depth ≤ 1) : SeqAt.shaped d = true := by
  unfold SeqAt.shaped
  rw [h, Bool.true_and]
  exact decide_eq_true (by omega)
theorem room65 {k : Nat} {A : Around} (r : Room k A) : A.units + 65 < cLine := by
  have := r.un
  omega
theorem valid_can {z : Str} (h : validN z = true) : canS z := can_of (valid_small h).2
end Dl

namespace Dl
open PySem L2
/-! ### a table of good names is made -/
theorem chosen_sub {sh ls : List Str} (h : sh.Sublist ls) (nd : ls.Nodup) : chosen ls sh = sh := by
  unfold chosen
  induction h with
  | slnil => rfl
  | @cons sh ls a h ih =>
    rw [List.nodup_cons] at nd
    have na : ¬ a ∈ sh := fun m => nd.1 (h.subset m)
    rw [List.filter_cons_of_neg (by simpa using na)]
    exact ih nd.2
  | @cons_cons sh ls a h ih =>
    rw [List.nodup_cons] at nd
    rw [List.filter_cons_of_pos (by simp)]
    congr 1
    rw [← ih nd.2]
    apply List.filter_congr
    intro z hz
    have nz : z ≠ a := fun e => nd.1 (e ▸ hz)
    rw [ih nd.2]
    simp [nz]
theorem names_ok' : ∀ {zs acc : List Str}, zs.Nodup → (∀ z ∈ zs, validN z = true ∧ z ∉ acc) → chkNames (zs.map V.str) acc = .ok (acc ++ zs)
  | [], acc, _, _ => by simp [chkNames]
  | z :: r, acc, nd, h => by
    rw [List.nodup_cons] at nd
    have hz := h z (List.mem_cons_self ..)
    have e : chkNew (.str z) acc = none := by simp [chkNew, hz.1, hz.2]
    rw [List.map_cons, chkNames, e]
    show chkNames (r.map V.str) (acc ++ [z]) = _
    rw [names_ok' nd.2 fun y hy => ⟨(h y (List.mem_cons_of_mem _ hy)).1, fun m => by
      rcases List.mem_append.mp m with m | m
      · exact (h y (List.mem_cons_of_mem _ hy)).2 m
      · obtain rfl := List.mem_singleton.mp m
        exact nd.1 hy⟩]
    simp
theorem names_ok {zs : List Str} (nd : zs.Nodup) (h : ∀ z ∈ zs, validN z = true) : chkNames (zs.map V.str) [] = .ok zs := by
  rw [names_ok' nd fun z hz => ⟨h z hz, by simp⟩]
  simp
theorem shown_ok' : ∀ {zs ls prev : List Str}, zs.Nodup → (∀ z ∈ zs, z ∈ ls ∧ z ∉ prev) → chkShown (zs.map V.str) ls prev = none
  | [], _, _, _, _ => by simp [chkShown]
  | z :: r, ls, prev, nd, h => by
    rw [List.nodup_cons] at nd
    have hz := h z (List.mem_cons_self ..)
    rw [List.map_cons, chkShown, if_pos (show knows (.str z) ls = true by simp [knows, hz.1]), if_neg (show ¬ strOf (.str z) ∈ prev from hz.2)]
    refine shown_ok' nd.2 fun y hy => ⟨(h y (List.mem_cons_of_mem _ hy)).1, fun m => ?_⟩
    rcases List.mem_append.mp m with m | m
    · exact (h y (List.mem_cons_of_mem _ hy)).2 m
    · have e : y = z := List.mem_singleton.mp m
      exact nd.1 (e ▸ hy)
theorem rows_ok' {ls : List Str} (lnd : ls.Nodup) : ∀ {xs acc : List (Str × List Str)}, (xs.map (·.1)).Nodup → (∀ x ∈ xs, validN x.1 = true ∧ x.2.Sublist ls ∧ x.1 ∉ acc.map (·.1)) → initRows ls (xs.map fun x => (V.str x.1, x.2.map V.str)) acc = .ok (acc ++ xs)
  | [], acc, _, _ => by simp [initRows]
  | x :: r, acc, nd, h => by
    rw [List.map_cons, List.nodup_cons] at nd
    obtain ⟨h1, h2, h3⟩ := h x (List.mem_cons_self ..)
    have e : chkNew (.str x.1) (acc.map (·.1)) = none := by simp only [chkNew, h1, if_true]; rw [if_neg h3]
    have e2 : chkShown (x.2.map V.str) ls [] = none := shown_ok' (h2.nodup lnd) fun z hz => ⟨h2.subset hz, by simp⟩
    have e3 : (x.2.map V.str).map strOf = x.2 := by rw [List.map_map]; exact List.map_id _
    rw [List.map_cons, initRows, e, e2]
    show initRows ls _ (acc ++ [(x.1, chosen ls ((x.2.map V.str).map strOf))]) = _
    rw [e3, chosen_sub h2 lnd, rows_ok' lnd nd.2 fun y hy => ⟨(h y (List.mem_cons_of_mem _ hy)).1, (h y (List.mem_cons_of_mem _ hy)).2.1, fun m => by
      rw [List.map_append] at m
      rcases List.mem_append.mp m with m | m
      · exact (h y (List.mem_cons_of_mem _ hy)).2.2 m
      · have q : y.1 = x.1 := by simpa using m
        exact nd.1 (by rw [← q]; exact List.mem_map.mpr ⟨y, hy, rfl⟩)⟩]
    simp
theorem init_ok {ls : List Str} {rs : List (Str × List Str)} (ok : TabOk ls rs) : initT (ls.map V.str) (rs.map rdat) = .ok (ls, rs) := by
  unfold initT
  rw [if_neg (by rw [List.length_map, List.length_map]; have := ok.lfew; have := ok.kfew; omega), names_ok ok.lnd ok.lval]
  have e : initRows ls (rs.map rdat) [] = .ok rs := by
    have q := rows_ok' ok.lnd (xs := rs) (acc := []) ok.knd fun x hx => ⟨ok.kval x hx, ok.sub x hx, by simp⟩
    rw [List.nil_append] at q
    exact q
  simp only [e]
end Dl

namespace Dl
open PySem PySem.Spec PyProof.Rows L2
theorem TabOk.lampsNm {ls : List Str} {rs : List (Str × List Str)} (ok : TabOk ls rs) {H : Hp} : ∀ v ∈ ls.map V.str, NmOk H v := fun v hv => by
  obtain ⟨z, hz, rfl⟩ := List.mem_map.mp hv
  have h := ok.lval z hz
  unfold validN at h
  simp only [Bool.and_eq_true, decide_eq_true_eq] at h
  exact Nat.le_of_lt (small1000 (by have := h.2.1; omega))
theorem validN_nm {z : Str} (h : validN z = true) {H : Hp} : NmOk H (.str z) := by
  unfold validN at h
  simp only [Bool.and_eq_true, decide_eq_true_eq] at h
  exact Nat.le_of_lt (small1000 (by have := h.2.1; omega))
theorem TableAt.of {CT : Addr} {H H' : Hp} {p : Addr} {ls : List Str} {rs : List (Str × List Str)} (s : Same H H') (h : TableAt CT H p ls rs) : TableAt CT H' p ls rs := by
  obtain ⟨dx, lt, sd, kt, kvs, hp, hlt, hsd, hkt, hrs⟩ := h
  exact ⟨dx, lt, sd, kt, kvs, s _ _ hp, s _ _ hlt, s _ _ hsd, s _ _ hkt, hrs.of fun b ys e => s _ _ e⟩
theorem strs_back (zs : List Str) : (zs.map V.str).map strOf = zs := by rw [List.map_map]; exact List.map_id _
theorem strs_nm {zs : List Str} (h : ∀ z ∈ zs, validN z = true) {H : Hp} : ∀ v ∈ zs.map V.str, NmOk H v := fun v hv => by
  obtain ⟨z, hz, rfl⟩ := List.mem_map.mp hv
  exact validN_nm (h z hz)
end Dl

namespace Dl
open PySem PySem.Spec PyProof.Rows L2
theorem int_nd {i j : Int} (h : i ≠ j) : decide (V.int i = V.int j) = false := decide_eq_false fun q => h (V.int.inj q)
theorem int_yd {i : Int} : decide (V.int i = V.int i) = true := decide_eq_true rfl
theorem iteY {c : Bool} {A B : Prop} (e : c = true) (h : A) : if c = true then A else B := by rw [if_pos e]; exact h
theorem iteZ {c : Bool} {A B : Prop} (e : c = false) (h : B) : if c = true then A else B := by rw [if_neg (by rw [e]; decide)]; exact h
end Dl

/-! == of two dicts of tuples of texts with the same keys; == by an own __eq__, both ways -/
namespace Dl
open PySem PySem.Spec PyProof.Rows L2
theorem eqAllS (xs ys : List Str) : PyData.eqvAll (xs.map PyData.str) (ys.map PyData.str) = decide (xs = ys) := eqvAll_strs xs ys
theorem eqv_tups (xs ys : List Str) : PyData.eqv (.tuple (xs.map PyData.str)) (.tuple (ys.map PyData.str)) = decide (xs = ys) := by
  rw [PyData.eqv]
  exact eqAllS xs ys
theorem eqv_lists (xs ys : List Str) : PyData.eqv (.list (xs.map PyData.str)) (.list (ys.map PyData.str)) = decide (xs = ys) := by
  rw [PyData.eqv]
  exact eqAllS xs ys
theorem shaped_tups {zs : List Str} (h : ∀ z ∈ zs, PyData.canLay0 (.str z) = true) : SeqAt.shaped (.tuple (zs.map PyData.str)) = true := by
  unfold SeqAt.shaped
  rw [Bool.and_eq_true, PyData.canLay0, PyData.depth, depthAll_strs]
  exact ⟨canAll_strs h, by decide⟩
theorem room66 {k : Nat} {A : Around} (r : Room k A) : A.units + 66 < cLine := by
  have := r.un
  omega
section
variable {X : Cx}
def rEqRows : R2 := fun x y H Q => ∃ a b ks ls rs ss, x = .ref a ∧ y = .ref b ∧ H a = some (.dK ks) ∧ H b = some (.dK ls) ∧ RowsAt H rs ks ∧ RowsAt H ss ls ∧ rs.map Prod.fst = ss.map Prod.fst ∧ (rs.map Prod.fst).Nodup ∧
  (∀ x ∈ rs, ∀ z ∈ x.2, canS z) ∧ (∀ x ∈ ss, ∀ z ∈ x.2, canS z) ∧ Q (.bl (decide (rs = ss))) H
theorem hits_rows {P : Program} {w : World} {A : Around} {s : Shared} {H : Hp} (ih : ∀ a b (xs ys : List Str), H a = some (.tup (xs.map V.str)) → H b = some (.tup (ys.map V.str)) → (∀ z ∈ xs, canS z) → (∀ z ∈ ys, canS z) → SeqAt.EqP P w A s (.ref a) (.ref b) (decide (xs = ys)))
    {vb : List (Key × Value)} : ∀ {rs ss : List (Str × List Str)} {ks ls : List (Key × V)} {va : List (Key × Value)}, RowsAt H rs ks → RowsAt H ss ls → KV ks va → rs.map Prod.fst = ss.map Prod.fst → (∀ x ∈ rs, ∀ z ∈ x.2, canS z) → (∀ x ∈ ss, ∀ z ∈ x.2, canS z) →
      (∀ p ∈ ls, ∃ u, valueAt vb p.1 = some u ∧ RelV p.2 u) → PySem.W.KeqHitsP P w A s vb va (decide (rs = ss))
  | [], ss, ks, ls, va, hr, hs, hk, e, _, _, _ => by
    cases ss with
    | cons _ _ => cases e
    | nil =>
      cases hr
      unfold KV at hk
      cases hk
      rw [decide_eq_true rfl]
      exact .nil
  | (k, xs) :: rs, ss, ks, ls, va, hr, hs, hk, e, c1, c2, hv => by
    cases ss with
    | nil => cases e
    | cons y ss =>
      obtain ⟨k2, ys⟩ := y
      rw [List.map_cons, List.map_cons] at e
      injection e with e1 e2
      have e1' : k = k2 := e1
      subst e1'
      cases hr with
      | @cons _ _ a _ kvs ha hr =>
      cases hs with
      | @cons _ _ b _ lvs hb hs =>
      unfold KV at hk
      cases hk with
      | @cons p q ps qs h t =>
      obtain ⟨h1, h2⟩ := h
      obtain ⟨key, v⟩ := q
      have h1' : Sum.inr k = key := h1
      subst h1'
      cases h2
      obtain ⟨u, hu, ru⟩ := hv _ (List.mem_cons_self ..)
      cases ru
      have d : decide ((k, xs) :: rs = (k, ys) :: ss) = (decide (xs = ys) && decide (rs = ss)) := by
        by_cases q1 : xs = ys <;> by_cases q2 : rs = ss <;> simp [q1, q2]
      rw [d]
      exact .hit hu (ih a b xs ys ha hb (c1 _ (List.mem_cons_self ..)) (c2 _ (List.mem_cons_self ..)))
        (hits_rows ih hr hs t e2 (fun x hx => c1 x (List.mem_cons_of_mem _ hx)) (fun x hx => c2 x (List.mem_cons_of_mem _ hx)) (fun p hp => hv p (List.mem_cons_of_mem _ hp)))
theorem vals_rows {H : Hp} {ls : List (Key × V)} {vb : List (Key × Value)} (rb : KV ls vb) {ss : List (Str × List Str)} (hs : RowsAt H ss ls) (nd : (ss.map Prod.fst).Nodup) : ∀ p ∈ ls, ∃ u, valueAt vb p.1 = some u ∧ RelV p.2 u := fun p hp => by
  have nk : (ls.map (·.1)).Nodup := by
    rw [hs.keys]
    exact List.Pairwise.map Sum.inr (fun a b h e => h (Sum.inr.inj e)) nd
  have hv : valV ls p.1 = some p.2 := by
    clear hs rb
    unfold valV
    induction ls with
    | nil => cases hp
    | cons q r ih =>
      rw [List.map_cons, List.nodup_cons] at nk
      rcases List.mem_cons.mp hp with h | h
      · subst h
        simp
      · have ne : ¬ q.1 = p.1 := fun e => nk.1 (by rw [e]; exact List.mem_map.mpr ⟨p, h, rfl⟩)
        rw [List.find?_cons_of_neg (by simpa using ne)]
        exact ih h nk.2
  have rr : RelO (some p.2) (valueAt vb p.1) := by rw [← hv]; exact rb.val p.1
  obtain ⟨y, hy, ry⟩ := rr.some_of
  exact ⟨y, hy, ry⟩
theorem op_eqRows (hu : X.A.units + 66 < cLine) : OpR X (compareOp .Eq) rEqRows := by
  intro pins s σ H x y v u Q I rx ry h
  obtain ⟨a, b, ks, ls, rs, ss, rfl, rfl, ha, hb, hr, hs, e, nd, c1, c2, q⟩ := h
  cases rx
  cases ry
  obtain ⟨_, ya, va, ra, da⟩ := (show ObjOk X.prog X.w H s.heap a (.dK ks) from I.hok a _ ha)
  obtain ⟨_, yb, vb, rb, db⟩ := (show ObjOk X.prog X.w H s.heap b (.dK ls) from I.hok b _ hb)
  have hl : va.length = vb.length := by
    rw [← ra.length, ← rb.length, hr.length, hs.length]
    have := congrArg List.length e
    rw [List.length_map, List.length_map] at this
    exact this
  have ih : ∀ a b (xs ys : List Str), H a = some (.tup (xs.map V.str)) → H b = some (.tup (ys.map V.str)) → (∀ z ∈ xs, canS z) → (∀ z ∈ ys, canS z) → SeqAt.EqP X.prog X.w X.A.in1 s (.ref a) (.ref b) (decide (xs = ys)) := fun a b xs ys ha hb ca cb => by
    by_cases ab : a = b
    · subst ab
      rw [ha] at hb
      have exy : xs = ys := by
        have e : xs.map V.str = ys.map V.str := by
          injection hb with h1
          injection h1
        exact (List.map_inj_right (f := V.str) fun _ _ h => by cases h; rfl).mp e
      rw [decide_eq_true exy]
      exact (SeqAt.EqAt.same _).eqP
    · refine SeqAt.eqP_refs ab fun E Q q => ?_
      obtain ⟨as, r1⟩ := Dp.reads I (.tuple (xs.map PyData.str)) (.ref a) (.ref a) (.tup (SqT.of ha) (dpAll_strs xs)) rfl
      obtain ⟨bs, r2⟩ := Dp.reads I (.tuple (ys.map PyData.str)) (.ref b) (.ref b) (.tup (SqT.of hb) (dpAll_strs ys)) rfl
      exact SeqAt.compareEq_shaped r1 r2 (shaped_tups ca) (shaped_tups cb) (by show X.A.units + 1 + 64 < cLine; omega) (by rw [eqv_tups]; exact q)
  show wpAny (model X.prog X.w) X.A (richCompare .Eq (.ref a) (.ref b)) _ _ s
  refine PySem.W.rcP_dicts (knd := mixKind X.prog X.w) (r := decide (rs = ss)) ya yb da db (by omega) (fun _ => hits_rows ih hr hs ra e c1 c2 (vals_rows rb hs (by rw [← e]; exact nd))) _ _ ?_
  rw [show (va.length == vb.length && decide (rs = ss)) = decide (rs = ss) from by rw [hl]; simp]
  exact ⟨.bl _, H, I, rfl, q⟩
/-- a == b by the own __eq__ of a's class -/
def rEqOwn (C : Addr) (sp : Sp) (E : XK) : R2 := fun x y H Q => ∃ a b dx dy fs gs, x = .ref a ∧ y = .ref b ∧ H a = some (.ins C dx fs) ∧ H b = some (.ins C dy gs) ∧ sp [.ref a, .ref b] H (fun v H' => ∃ t, v = .bl t ∧ Q (.bl t) H') E
theorem op_eqOwn {CX : CXT} {k : Nat} {C f : Addr} {fd : FuncData} {ps : List Str} {sp : Sp} {E : XK} (F : FnOk X.prog X.w X.K X.mg X.base CX k f fd ps sp) (hs : PySem.W.findIn X.K (.ref C) "__eq__" = some (some (.ref f))) (hf : PySem.W.isFn X.K (.ref f) = true)
    (hr : Room k X.A) (hb : Binds X.K fd ps []) (hx : Passes CX X E) : OpR X (compareOp .Eq) (rEqOwn C sp E) := by
  intro pins s σ H x y v u Q I rx ry h
  obtain ⟨a, b, dx, dy, fs, gs, rfl, rfl, ha, hb', hsp⟩ := h
  cases rx
  cases ry
  obtain ⟨mA, J, _⟩ := ins_get I.hok ha
  obtain ⟨mB, J', _⟩ := ins_get I.hok hb'
  obtain ⟨od, J, _⟩ := J.look
  obtain ⟨od', J', _⟩ := J'.look
  obtain ⟨m, hF⟩ := I.fr
  show wpAny (model X.prog X.w) X.A (richCompare .Eq (.ref a) (.ref b)) (EP X pins σ Q) X.xe s
  refine PySem.W.cmp_K (op := .Eq) (tb := .ref C) hr.units0 hF I.ok.mod.kin J J'.type (by simp [PySem.W.notFirst]) hs hf ?_
  refine wpAny_mono (run_at (A := X.A) rfl F hr hb hx I (show Vals [V.ref a, V.ref b] [Value.ref a, Value.ref b] from .cons rfl (.cons rfl .nil)) hsp) (fun v s' hv => ?_) fun _ _ y => y
  obtain ⟨z, H', I', rz, t, ez, q⟩ := hv
  subst ez
  cases rz
  exact ⟨.bl t, H', I', rfl, q⟩
end
end Dl

namespace Dl
open PySem PySem.Spec PyProof.Rows L2
/-! Table: shown, alike, [..], len -/
structure TabT (P : Program) (w : World) (K : PySem.W.Frag) (mg : Str → Option Value) (base : Heap) (CT : Addr) (C : Cs) : Prop where
  cl : Cls K CT
  nL : NoAttr K CT "lamps"
  nK : NoAttr K CT "looks"
  nS : NoAttr K CT "_shown"
  tuple : mg "tuple" = none
  len : mg "len" = none
  known : Dfn P w K mg base (L2.CX P w) 4 "check_known" ["name", "names"] (spKnown K C)
def keysOf (rs : List (Str × List Str)) : List Str := rs.map fun x : Str × List Str => x.1
theorem knows_row {v : V} {rs : List (Str × List Str)} (h : knows v (keysOf rs) = true) : ∃ x ∈ rs, v = .str x.1 := by
  cases v <;> simp only [knows] at h <;> first | cases h; done | skip
  rename_i z
  obtain ⟨x, hx, e⟩ := List.mem_map.mp (of_decide_eq_true h)
  exact ⟨x, hx, by rw [← e]⟩
def seenOf (rs : List (Str × List Str)) (z : Str) : List Str := (rs.filter fun x : Str × List Str => decide (z ∈ x.2)).map fun x : Str × List Str => x.1
theorem seen_step {rs : List (Str × List Str)} {z : Str} {i : Nat} {x : Str × List Str} (h : rs[i]? = some x) : seenOf (rs.take (i + 1)) z = seenOf (rs.take i) z ++ (if decide (z ∈ x.2) = true then [x.1] else []) := by
  unfold seenOf
  have e : rs.take (i + 1) = rs.take i ++ [x] := by rw [List.take_succ, h]; rfl
  rw [e, List.filter_append, List.map_append]
  by_cases q : z ∈ x.2 <;> simp [q]
theorem seen_len {rs : List (Str × List Str)} {z : Str} {i : Nat} : (seenOf (rs.take i) z).length ≤ i := by
  unfold seenOf
  rw [List.length_map]
  exact Nat.le_trans (List.length_filter_le _ _) (by rw [List.length_take]; omega)
def spTShown (K : PySem.W.Frag) (CT : Addr) (C : Cs) : Sp := fun vs H Q E => ∃ (p : Addr) (v : V) (ls : List Str) (rs : List (Str × List Str)), vs = [.ref p, v] ∧ TableAt CT H p ls rs ∧ TabOk ls rs ∧ NmOk H v ∧
  (∀ x ∈ rs, v = .str x.1 → ∀ a, H a = some (.tup (x.2.map V.str)) → Q (.ref a) H) ∧ (knows v (keysOf rs) = false → Out1 C.unk "name" v H E)
def spTAlike (K : PySem.W.Frag) (CT : Addr) (C : Cs) : Sp := fun vs H Q E => ∃ (p : Addr) (v u : V) (ls : List Str) (rs : List (Str × List Str)), vs = [.ref p, v, u] ∧ TableAt CT H p ls rs ∧ TabOk ls rs ∧ NmOk H v ∧ NmOk H u ∧
  (∀ x ∈ rs, ∀ y ∈ rs, v = .str x.1 → u = .str y.1 → Q (.bl (decide (x.2 = y.2))) H) ∧ (knows v (keysOf rs) = false → Out1 C.unk "name" v H E) ∧ (knows v (keysOf rs) = true → knows u (keysOf rs) = false → Out1 C.unk "name" u H E)
def spTGet (K : PySem.W.Frag) (CT : Addr) (C : Cs) : Sp := fun vs H Q E => ∃ (p q : Addr) (v u : V) (ls : List Str) (rs : List (Str × List Str)), vs = [.ref p, .ref q] ∧ TableAt CT H p ls rs ∧ TabOk ls rs ∧ H q = some (.tup [v, u]) ∧ NmOk H v ∧ NmOk H u ∧
  (∀ z ∈ ls, ∀ x ∈ rs, v = .str z → u = .str x.1 → Q (.bl (decide (z ∈ x.2))) H) ∧ (knows v ls = false → Out1 C.unk "name" v H E) ∧ (knows v ls = true → knows u (keysOf rs) = false → Out1 C.unk "name" u H E)
def spTSeen (K : PySem.W.Frag) (CT : Addr) (C : Cs) : Sp := fun vs H Q E => ∃ (p : Addr) (v : V) (ls : List Str) (rs : List (Str × List Str)), vs = [.ref p, v] ∧ TableAt CT H p ls rs ∧ TabOk ls rs ∧ NmOk H v ∧
  (∀ z ∈ ls, v = .str z → ∀ H' a, Same H H' → H a = none → H' a = some (.tup ((seenOf rs z).map V.str)) → Q (.ref a) H') ∧ (knows v ls = false → Out1 C.unk "name" v H E)
def spTLen (CT : Addr) : Sp := fun vs H Q _ => ∃ (p : Addr) (ls : List Str) (rs : List (Str × List Str)), vs = [.ref p] ∧ TableAt CT H p ls rs ∧ Q (.int (rs.length : Int)) H
section
variable {P : Program} {w : World} {K : PySem.W.Frag} {mg : Str → Option Value} {base : Heap} {C : Cs} {CT : Addr}
theorem scTShown : FnScope ["self", "look"] ["self", "look"] (defScope sTableShown) := ⟨rfl, rfl, rfl, by decide +kernel, rfl, by decide +kernel, by decide +kernel⟩
theorem ok_tshown {f : Addr} {fd : FuncData} (F : Fun K "shown" "Table.shown" sTableShown f fd) (T : TabT P w K mg base CT C) : FnOk P w K mg base (L2.CX P w) 5 f fd ["self", "look"] (spTShown K CT C) := by
  obtain ⟨fK, dK, mK, kK, bK, GK⟩ := T.known
  refine F.okX scTShown (fun vs H Q E h => ?_) (fun cdv A outer s H vs Q E hr h => ?_)
  · obtain ⟨p, v, ls, rs, rfl, _⟩ := h
    rfl
  · obtain ⟨p, v, ls, rs, rfl, ⟨dx, lt, sd, kt, kvs, hp, hlt, hsd, hkt, hrs⟩, ok, hv, k, kx⟩ := h
    have hr4 : Room 4 _ := hr
    refine ⟨_, (pss_cons (ps_expr (pe_call GK hr4 (by rfl) mK kK bK .nil (passes_call (takes_of rfl rfl rfl rfl) (fun _ _ _ _ h => h)) (pa_cons (pv 1) (pa_cons (pe_fld (pv 0) rfl) pa_nil))))
        (pss_one (ps_ret (pe_dget (hu_of hr) (pe_fld (pv 0) rfl) (pv 1) (fun _ _ => rfl))))), ?_⟩
    refine ⟨_, rfl, _, rfl, p, CT, dx, _, _, rfl, hp, T.cl, T.nK, pf3_looks _ _ _, v, kt, keysOf rs, rfl, hv, SqT.of hkt, fun hk => ?_, fun hk => kx hk⟩
    obtain ⟨x, hx, rfl⟩ := knows_row hk
    obtain ⟨a, hval, ha⟩ := hrs.val ok.knd hx
    have dg : DGet H sd (kV (Sum.inr x.1)) (some (.ref a)) := by rw [← hval]; exact DGet.k hsd
    exact ⟨_, rfl, p, CT, dx, _, _, rfl, hp, T.cl, T.nS, pf3_shown _ _ _, _, rfl, sd, _, rfl, dg, k x hx rfl a ha⟩
theorem scTGet : FnScope ["self", "at", "lamp", "look"] ["self", "at"] (defScope sTableGetitem) := ⟨rfl, rfl, rfl, by decide +kernel, rfl, by decide +kernel, by decide +kernel⟩
theorem ok_tget {f : Addr} {fd : FuncData} (F : Fun K "__getitem__" "Table.__getitem__" sTableGetitem f fd) (T : TabT P w K mg base CT C) : FnOk P w K mg base (L2.CX P w) 5 f fd ["self", "at"] (spTGet K CT C) := by
  obtain ⟨fK, dK, mK, kK, bK, GK⟩ := T.known
  refine F.okX scTGet (fun vs H Q E h => ?_) (fun cdv A outer s H vs Q E hr h => ?_)
  · obtain ⟨p, q, v, u, ls, rs, rfl, _⟩ := h
    rfl
  · obtain ⟨p, q, v, u, ls, rs, rfl, ⟨dx, lt, sd, kt, kvs, hp, hlt, hsd, hkt, hrs⟩, ok, hq, hv, hu, k, kx, ky⟩ := h
    have hr4 : Room 4 _ := hr
    refine ⟨_, (pss_cons (ps_asg (pv 1) (pg_tup rfl (pgs_cons (pg_name (i := 2) scTGet.nd rfl (Or.inl rfl)) (pgs_cons (pg_name (i := 3) scTGet.nd rfl (Or.inl rfl)) pgs_nil))))
        (pss_cons (ps_expr (pe_call GK hr4 (by rfl) mK kK bK .nil (passes_call (takes_of rfl rfl rfl rfl) (fun _ _ _ _ h => h)) (pa_cons (pv 2) (pa_cons (pe_fld (pv 0) rfl) pa_nil))))
        (pss_cons (ps_expr (pe_call GK hr4 (by rfl) mK kK bK .nil (passes_call (takes_of rfl rfl rfl rfl) (fun _ _ _ _ h => h)) (pa_cons (pv 3) (pa_cons (pe_fld (pv 0) rfl) pa_nil))))
        (pss_one (ps_ret (pe_cmpR op_in_seq (pv 2) (pe_dget (hu_of hr) (pe_fld (pv 0) rfl) (pv 3) (fun _ _ => rfl)) (by rfl))))))), ?_⟩
    refine ⟨_, rfl, q, _, rfl, SqT.of hq, rfl, _, _, rfl, _, _, rfl, rfl, ?_⟩
    refine ⟨_, rfl, _, rfl, p, CT, dx, _, _, rfl, hp, T.cl, T.nL, pf3_lamps _ _ _, v, lt, ls, rfl, hv, SqT.of hlt, fun hk => ?_, fun hk => kx hk⟩
    refine ⟨_, rfl, _, rfl, p, CT, dx, _, _, rfl, hp, T.cl, T.nK, pf3_looks _ _ _, u, kt, keysOf rs, rfl, hu, SqT.of hkt, fun hk2 => ?_, fun hk2 => ky hk hk2⟩
    obtain ⟨z, rfl, hz⟩ := knows_str hk
    obtain ⟨x, hx, rfl⟩ := knows_row hk2
    obtain ⟨a, hval, ha⟩ := hrs.val ok.knd hx
    have dg : DGet H sd (kV (Sum.inr x.1)) (some (.ref a)) := by rw [← hval]; exact DGet.k hsd
    refine ⟨_, rfl, _, rfl, p, CT, dx, _, _, rfl, hp, T.cl, T.nS, pf3_shown _ _ _, _, rfl, sd, _, rfl, dg, a, _, rfl, .inr (SqT.of ha), rfl, flat_strs _, ?_⟩
    rw [inV_str]
    exact k z hz x hx rfl rfl
theorem scTSeen : FnScope ["self", "lamp", "look"] ["self", "lamp"] (defScope sTableSeen) := ⟨rfl, rfl, rfl, by decide +kernel, rfl, by decide +kernel, by decide +kernel⟩
theorem ok_tseen {f : Addr} {fd : FuncData} (F : Fun K "seen" "Table.seen" sTableSeen f fd) (T : TabT P w K mg base CT C) : FnOk P w K mg base (L2.CX P w) 5 f fd ["self", "lamp"] (spTSeen K CT C) := by
  obtain ⟨fK, dK, mK, kK, bK, GK⟩ := T.known
  refine F.okX scTSeen (fun vs H Q E h => ?_) (fun cdv A outer s H vs Q E hr h => ?_)
  · obtain ⟨p, v, ls, rs, rfl, _⟩ := h
    rfl
  · obtain ⟨p, v, ls, rs, rfl, ⟨dx, lt, sd, kt, kvs, hp, hlt, hsd, hkt, hrs⟩, ok, hv, k, kx⟩ := h
    have hr4 : Room 4 _ := hr
    refine ⟨_, (pss_cons (ps_expr (pe_call GK hr4 (by rfl) mK kK bK .nil (passes_call (takes_of rfl rfl rfl rfl) (fun _ _ _ _ h => h)) (pa_cons (pv 1) (pa_cons (pe_fld (pv 0) rfl) pa_nil))))
        (pss_one (ps_ret (pe_callTy call_tuple_of (by rfl) T.tuple (by decide +kernel) (pa_cons (pe_lc (own := [("look", 2)]) (g := gName 2) (tt := tTest (tOp (rIn K false) (tVar 1) (tDGet (tFld K (tVar 0) "_shown") (tVar 2)))) rfl scTSeen.nd (pi_tup (pe_fld (pv 0) rfl)) (blkOk_by (N := ["self", "lamp", "look"]) (sc := defScope sTableSeen) (by decide +kernel)) (fun _ _ _ _ _ => (pg_name (i := 2) scTSeen.nd rfl (Or.inl rfl))) (fun _ _ _ _ _ => (pts_one (pt_cmpR (by exact op_in_seq : OpR _ _ (rIn K false)) (pv 1) (pe_dget (hu_of hr) (pe_fld (pv 0) rfl) (pv 2) (fun _ _ => rfl)) (by rfl)))) (fun _ _ _ _ _ => (pv 2))) pa_nil))))), ?_⟩
    refine ⟨_, rfl, _, rfl, p, CT, dx, _, _, rfl, hp, T.cl, T.nL, pf3_lamps _ _ _, v, lt, ls, rfl, hv, SqT.of hlt, fun hk => ?_, fun hk => kx hk⟩
    obtain ⟨z, rfl, hz⟩ := knows_str hk
    refine ⟨_, rfl, p, CT, dx, _, _, rfl, hp, T.cl, T.nK, pf3_looks _ _ _, kt, rfl, ⟨_, SqT.of hkt⟩, fun D hD => lc_it (walk_tup (K := K) (a := kt) (xs := (rs.map (·.1)).map V.str)) (fun i H' => H' = upd H D (.lst ((seenOf (rs.take i) z).map V.str))) rfl (fun i H' _ e => by rw [e]; exact SqT.of (Same.upd_new hD _ _ hkt)) ?_ ?_⟩
    · rintro i v H1 H2 hi rfl ⟨rfl, hv2⟩
      have hv2 : ((rs.map (·.1)).map V.str)[i]? = some v := hv2
      rw [List.getElem?_map, List.getElem?_map] at hv2
      cases hri : rs[i]? with
      | none => rw [hri] at hv2; cases hv2
      | some x =>
      rw [hri] at hv2
      obtain rfl : V.str x.1 = v := Option.some.inj hv2
      have s1 : Same H (upd H D (.lst ((seenOf (rs.take i) z).map V.str))) := Same.upd_new hD
      obtain ⟨a, hval, ha⟩ := hrs.val ok.knd (List.mem_of_getElem? hri)
      have hsd1 := s1 _ _ hsd
      have dg : DGet (upd H D (.lst ((seenOf (rs.take i) z).map V.str))) sd (kV (Sum.inr x.1)) (some (.ref a)) := by rw [← hval]; exact DGet.k hsd1
      refine ⟨rfl, _, rfl, _, rfl, p, CT, dx, _, _, rfl, s1 _ _ hp, T.cl, T.nS, pf3_shown _ _ _, _, rfl, sd, _, rfl, dg, a, _, rfl, .inr (SqT.of (s1 _ _ ha)), rfl, flat_strs _, _, rfl, ?_⟩
      rw [inV_str]
      by_cases q : z ∈ x.2
      · rw [decide_eq_true q]
        refine iteT ⟨_, rfl, _, upd_same, ?_, ?_⟩
        · have q1 := seen_len (rs := rs) (z := z) (i := i)
          have q2 := (List.getElem?_eq_some_iff.mp hri).1
          have q3 := ok.kfew
          rw [List.length_map]
          exact small1000 (by omega)
        · rw [upd_upd, seen_step hri, decide_eq_true q, if_pos rfl, List.map_append]
          rfl
      · rw [decide_eq_false q]
        refine iteF ?_
        rw [seen_step hri, decide_eq_false q, if_neg (by decide), List.append_nil]
    · rintro H1 rfl
      rw [List.length_map, List.length_map, List.take_length]
      refine ⟨D, _, rfl, .inl ⟨SqL.of upd_same, fun t ht => ?_⟩⟩
      have ht' : (upd H D (.lst ((seenOf rs z).map V.str))) t = none := ht
      exact k z hz rfl _ t ((Same.upd_new hD).trans (Same.upd_new ht')) ((Same.upd_new hD).free ht') upd_same
theorem scTLen : FnScope ["self"] ["self"] (defScope sTableLen) := ⟨rfl, rfl, rfl, by decide +kernel, rfl, by decide +kernel, by decide +kernel⟩
theorem ok_tlen {f : Addr} {fd : FuncData} (F : Fun K "__len__" "Table.__len__" sTableLen f fd) (T : TabT P w K mg base CT C) : FnOk P w K mg base CX0 1 f fd ["self"] (spTLen CT) := by
  refine F.ok scTLen (fun vs H Q E h => ?_) (fun cdv A outer s H vs Q E hr h => ?_)
  · obtain ⟨p, ls, rs, rfl, _⟩ := h
    rfl
  · obtain ⟨p, ls, rs, rfl, ⟨dx, lt, sd, kt, kvs, hp, hlt, hsd, hkt, hrs⟩, k⟩ := h
    refine ⟨_, (pss_one (ps_ret (pe_callB call_len_seq (by rfl) T.len PySem.boot_len (pa_cons (pe_fld (pv 0) rfl) pa_nil)))), ?_⟩
    refine ⟨_, rfl, p, CT, dx, _, _, rfl, hp, T.cl, T.nK, pf3_looks _ _ _, kt, _, rfl, .inr (SqT.of hkt), ?_⟩
    rw [List.length_map, List.length_map]
    exact k
end
end Dl

namespace Dl
open PySem PySem.Spec PyProof.Rows L2
/-! ### drawn rows: a list of pairs of a look and a list of some of the lamps -/
def BagIn (H : Hp) (b : Addr) : Prop := ∃ L : List Int, H b = some (.lst (L.map V.int)) ∧ BagOk L
theorem BagIn.lst {H : Hp} {b : Addr} (h : BagIn H b) : ∃ xs, H b = some (.lst xs) := let ⟨L, e, _⟩ := h; ⟨_, e⟩
theorem BagIn.upd {H : Hp} {b : Addr} {L : List Int} (h : BagOk L) : BagIn (upd H b (.lst (L.map V.int))) b := ⟨L, upd_same, h⟩
theorem BagIn.of {H H' : Hp} {b : Addr} (s : Same H H') (h : BagIn H b) : BagIn H' b := let ⟨L, e, o⟩ := h; ⟨L, s _ _ e, o⟩
structure RowD (b : Addr) (lamps : List Str) (H : Hp) (r : RowIn) : Prop where
  look : ∃ k, r.look = .str k
  pair : H r.t = some (.tup [r.look, .ref r.s])
  ns : r.s ≠ b
  lst : H r.s = some (.lst r.xs)
  sub : ∃ sh : List Str, r.xs = sh.map V.str ∧ sh.Sublist lamps
theorem ne_tup_lst {H : Hp} {a c : Addr} {xs ys : List V} (h1 : H a = some (.tup xs)) (h2 : H c = some (.lst ys)) : a ≠ c := fun e => by
  rw [e, h2] at h1; cases h1
theorem RowD.of {b : Addr} {lamps : List Str} {H H' : Hp} {r : RowIn} (hb : ∃ xs, H b = some (.lst xs)) (s : SameB b H H') (h : RowD b lamps H r) : RowD b lamps H' r :=
  ⟨h.look, s _ _ (let ⟨_, e⟩ := hb; ne_tup_lst h.pair e) h.pair, h.ns, s _ _ h.ns h.lst, h.sub⟩
def refsOf (rows : List RowIn) : List V := rows.map fun r => V.ref r.t
/-- the rows stand at R -/
structure RowsD (b : Addr) (lamps ks : List Str) (H : Hp) (R : Addr) (rows : List RowIn) : Prop where
  nR : R ≠ b
  lst : H R = some (.lst (refsOf rows))
  all : ∀ r ∈ rows, RowD b lamps H r
  looks : rows.map (·.look) = ks.map V.str
theorem RowsD.of {b : Addr} {lamps ks : List Str} {H H' : Hp} {R : Addr} {rows : List RowIn} (hb : ∃ xs, H b = some (.lst xs)) (s : SameB b H H') (h : RowsD b lamps ks H R rows) : RowsD b lamps ks H' R rows :=
  ⟨h.nR, s _ _ h.nR h.lst, fun r hr => (h.all r hr).of hb s, h.looks⟩
theorem RowsD.length {b : Addr} {lamps ks : List Str} {H : Hp} {R : Addr} {rows : List RowIn} (h : RowsD b lamps ks H R rows) : rows.length = ks.length := by
  have q := congrArg List.length h.looks
  rw [List.length_map, List.length_map] at q
  exact q
/-- a draw keeps everything but the bag -/
theorem draw_same {b : Addr} {H : Hp} {L : List Int} : SameB b H (upd H b (.lst (L.map V.int))) := SameB.upd
def spRows3 : Sp := fun vs H Q _ => ∃ (b a c : Addr) (ls ks : List Str), vs = [.ref b, .ref a, .ref c] ∧ BagIn H b ∧ a ≠ b ∧ c ≠ b ∧ H a = some (.lst (ls.map V.str)) ∧ H c = some (.lst (ks.map V.str)) ∧ ls.length ≤ 24 ∧ ks.length ≤ 24 ∧
  ∀ (H' : Hp) (R : Addr) (rows : List RowIn), SameB b H H' → BagIn H' b → RowsD b ls ks H' R rows → Q (.ref R) H'
theorem map_at {α β : Type} {l : List α} {f : α → β} {i : Nat} {v : β} (h : (l.map f)[i]? = some v) : ∃ x, l[i]? = some x ∧ v = f x := by
  rw [List.getElem?_map] at h
  cases e : l[i]? with
  | none => rw [e] at h; cases h
  | some x => rw [e] at h; exact ⟨x, rfl, (Option.some.inj h).symm⟩
theorem take_at {α : Type} {l : List α} {i : Nat} {x : α} (h : l[i]? = some x) : l.take (i + 1) = l.take i ++ [x] := by
  rw [List.take_succ, h]
  rfl
theorem sub_short {b : Addr} {lamps : List Str} {H : Hp} {r : RowIn} (h : RowD b lamps H r) (n : Nat) (hn : lamps.length ≤ n) : r.xs.length ≤ n := by
  obtain ⟨sh, e, s⟩ := h.sub
  rw [e, List.length_map]
  exact Nat.le_trans s.length_le hn
end Dl

namespace Dl
open PySem PySem.Spec PyProof.Rows L2
structure TxtR (mg : Str → Option Value) : Prop where
  range : mg "range" = none
  len : mg "len" = none
  list : mg "list" = none
theorem atI0 {α : Type} {xs : List α} {i : Nat} {v : α} (h : xs[i]? = some v) : atI xs (0 + (i : Int)) = some v := by
  rw [Int.zero_add]
  exact atI_nat h
structure EndsD (H : Hp) (e : Addr × Int × Int) : Prop where
  at_ : H e.1 = some (.tup [.int e.2.1, .int e.2.2])
section
variable {P : Program} {w : World} {K : PySem.W.Frag} {mg : Str → Option Value} {base : Heap}
theorem scPlanted : FnScope ["_law_bag_here", "_law_lamps", "_law_looks", "_law_settings", "_law_look", "_law_ends", "_law_lamp", "_law_low", "_law_rows", "_law_k", "_law_shown", "_law_j"] ["_law_bag_here", "_law_lamps", "_law_looks"] (defScope sLawPlantedRows) := ⟨rfl, rfl, rfl, by decide +kernel, rfl, by decide +kernel, by decide +kernel⟩
theorem ok_planted {f : Addr} {fd : FuncData} (F : Fun K "_law_planted_rows" "_law_planted_rows" sLawPlantedRows f fd) (T : TxtR mg) (gT : Dfn P w K mg base CX0 1 "_law_take" ["_law_bag_here", "_law_size"] spTake) :
    FnOk P w K mg base CX0 2 f fd ["_law_bag_here", "_law_lamps", "_law_looks"] spRows3 := by
  obtain ⟨fT, dT, mT, kT, bT, GT⟩ := gT
  refine F.ok scPlanted (fun vs H Q E h => ?_) (fun cdv A outer s H vs Q E hr h => ?_)
  · obtain ⟨a, b, c, ls, ks, rfl, _⟩ := h
    rfl
  · obtain ⟨b, a, c, ls, ks, rfl, hb, hab, hcb, ha, hc, hll, hkl, k⟩ := h
    have hr1 : Room 1 _ := hr
    refine ⟨_, (pss_cons (ps_set (i := 3) scPlanted.nd rfl (Or.inr rfl) (pe_lst pa_nil))
        (pss_cons (ps_for PassesOwn.never rfl (pi_list (pv 2)) (pg_name (i := 4) scPlanted.nd rfl (Or.inl rfl)) (pss_one (ps_expr (pe_bm PySem.F.plainAttrs_list PySem.F.slot_list_append PySem.F.type_list_append mt_append (pv 3) (pa_cons (pe_call GT hr1 (by rfl) mT kT bT .nil pass0 (pa_cons (pv 0) (pa_cons pe_int pa_nil))) pa_nil)))))
        (pss_cons (ps_set (i := 5) scPlanted.nd rfl (Or.inr rfl) (pe_lst pa_nil))
        (pss_cons (ps_for PassesOwn.never rfl (pi_list (pv 1)) (pg_name (i := 6) scPlanted.nd rfl (Or.inl rfl)) (pss_cons (ps_set (i := 7) scPlanted.nd rfl (Or.inl rfl) (pe_call GT hr1 (by rfl) mT kT bT .nil pass0 (pa_cons (pv 0) (pa_cons pe_int pa_nil))))
        (pss_one (ps_expr (pe_bm PySem.F.plainAttrs_list PySem.F.slot_list_append PySem.F.type_list_append mt_append (pv 5) (pa_cons (pe_tup (pa_cons (pv 7) (pa_cons (pe_op op_sub (pe_op op_add (pv 7) (pe_call GT hr1 (by rfl) mT kT bT .nil pass0 (pa_cons (pv 0) (pa_cons pe_int pa_nil)))) pe_int) pa_nil))) pa_nil))))))
        (pss_cons (ps_set (i := 8) scPlanted.nd rfl (Or.inl rfl) (pe_lst pa_nil))
        (pss_cons (ps_for PassesOwn.never rfl (pi_range1 (by rfl) T.range (pa_cons (pe_callB call_len_seq (by rfl) T.len PySem.boot_len (pa_cons (pv 2) pa_nil)) pa_nil)) (pg_name (i := 9) scPlanted.nd rfl (Or.inr rfl)) (pss_cons (ps_setLc (i := 10) (own := [("_law_j", 11)]) (g := gName 11) rfl scPlanted.nd rfl rfl (sw_true rfl rfl rfl (by decide +kernel)) (pi_range1 (by rfl) T.range (pa_cons (pe_callB call_len_seq (by rfl) T.len PySem.boot_len (pa_cons (pv 1) pa_nil)) pa_nil)) (blkOk_by (N := ["_law_bag_here", "_law_lamps", "_law_looks", "_law_settings", "_law_look", "_law_ends", "_law_lamp", "_law_low", "_law_rows", "_law_k", "_law_shown", "_law_j"]) (sc := defScope sLawPlantedRows) (by decide +kernel)) (fun _ _ _ _ _ => (pg_name (i := 11) scPlanted.nd rfl (Or.inl rfl))) (fun _ _ _ _ _ => (pts_one (PW.pt (pw_and (pt_cmpR op_le (pe_ix (by exact ix_tup : IxR _ (rIxT K)) (pe_ix (by exact ix_list : IxR _ (rIxL K)) (pv 5) (pv 11) (fun _ _ => rfl)) pe_int (fun _ _ => rfl)) (pe_ix (by exact ix_list : IxR _ (rIxL K)) (pv 3) (pv 9) (fun _ _ => rfl)) (nomark _)) (pw_and1 (pt_cmpR op_le (pe_ix (by exact ix_list : IxR _ (rIxL K)) (pv 3) (pv 9) (fun _ _ => rfl)) (pe_ix (by exact ix_tup : IxR _ (rIxT K)) (pe_ix (by exact ix_list : IxR _ (rIxL K)) (pv 5) (pv 11) (fun _ _ => rfl)) pe_int (fun _ _ => rfl)) (nomark _))))))) (fun _ _ _ _ _ => (pe_ix (by exact ix_list : IxR _ (rIxL K)) (pv 1) (pv 11) (fun _ _ => rfl))))
        (pss_one (ps_expr (pe_bm PySem.F.plainAttrs_list PySem.F.slot_list_append PySem.F.type_list_append mt_append (pv 8) (pa_cons (pe_tup (pa_cons (pe_ix ix_list (pv 2) (pv 9) (fun _ _ => rfl)) (pa_cons (pv 10) pa_nil))) pa_nil))))))
        (pss_one (ps_ret (pv 8))))))))), ?_⟩
    -- settings
    refine ⟨Nat.zero_le _, fun st hst => ?_⟩
    obtain ⟨xb, hxb⟩ := hb.lst
    have nsb : st ≠ b := fun e => by rw [e, hxb] at hst; cases hst
    have s0 : Same H (upd H st (.lst [])) := Same.upd_new hst
    refine ⟨_, rfl, c, rfl, ⟨_, SqL.of (s0 _ _ hc)⟩, for_it (walk_list (K := K) (a := c) (xs := ks.map V.str)) (fun i σ H' => ∃ (x4 : Option V) (S : List Int), σ = [some (.ref b), some (.ref a), some (.ref c), some (.ref st), x4, none, none, none, none, none, none, none] ∧
        SameB b H H' ∧ BagIn H' b ∧ H' st = some (.lst (S.map V.int)) ∧ S.length = i)
      ⟨none, [], rfl, SameB.of s0, hb.of s0, upd_same, rfl⟩ (fun i σ H' _ ⟨_, _, _, s1, _⟩ => SqL.of (s1 _ _ hcb hc)) ?_ ?_⟩
    · rintro i v σ H1 H2 hi ⟨x4, S, rfl, s1, ⟨L1, hb1, ok1⟩, hS, hlS⟩ ⟨rfl, hv⟩
      rw [List.length_map] at hi
      refine ⟨_, rfl, .inl ⟨rfl, _, SqL.of hS⟩, _, rfl, b, L1, 9, rfl, hb1, ok1, by decide, by decide, fun L2 r ok2 r0 r1 => ?_⟩
      refine ⟨st, _, _, rfl, rfl, by rw [upd_ne nsb]; exact hS, ?_, ?_⟩
      · rw [List.length_map]
        exact small1000 (by omega)
      · refine ⟨_, S ++ [r], rfl, fun d o n h => ?_, ⟨L2, by rw [upd_ne nsb.symm, upd_same], ok2⟩, by rw [upd_same, List.map_append]; rfl, by rw [List.length_append, hlS]; rfl⟩
        rw [upd_ne (ne_of_none h hst), upd_ne n]
        exact s1 d o n h
    rintro σ H1 ⟨x4, S, rfl, s1, hb1, hS, hlS⟩
    rw [List.length_map] at hlS
    -- ends
    refine ⟨Nat.zero_le _, fun en hen => ?_⟩
    obtain ⟨xb1, hxb1⟩ := hb1.lst
    have neb : en ≠ b := fun e => by rw [e, hxb1] at hen; cases hen
    have s2 : Same H1 (upd H1 en (.lst [])) := Same.upd_new hen
    refine ⟨_, rfl, a, rfl, ⟨_, SqL.of (s2 _ _ (s1 _ _ hab ha))⟩, for_it (walk_list (K := K) (a := a) (xs := ls.map V.str)) (fun i σ H' => ∃ (x6 x7 : Option V) (es : List (Addr × Int × Int)),
        σ = [some (.ref b), some (.ref a), some (.ref c), some (.ref st), x4, some (.ref en), x6, x7, none, none, none, none] ∧
        SameB b H1 H' ∧ BagIn H' b ∧ H' en = some (.lst (es.map fun e => V.ref e.1)) ∧ (∀ e ∈ es, EndsD H' e) ∧ es.length = i)
      ⟨none, none, [], rfl, SameB.of s2, hb1.of s2, upd_same, fun e he => absurd he (by simp), rfl⟩ (fun i σ H' _ ⟨_, _, _, _, s3, _⟩ => SqL.of (s3 _ _ hab (s1 _ _ hab ha))) ?_ ?_⟩
    · rintro i v σ H2 H3 hi ⟨x6, x7, es, rfl, s3, ⟨L3, hb3, ok3⟩, hE, hes, hle⟩ ⟨rfl, hv⟩
      rw [List.length_map] at hi
      refine ⟨_, rfl, b, L3, 9, rfl, hb3, ok3, by decide, by decide, fun L4 lo ok4 lo0 lo1 => ?_⟩
      refine ⟨_, rfl, .inl ⟨rfl, _, SqL.of (by rw [upd_ne neb]; exact hE)⟩, _, rfl, _, rfl, _, rfl, b, L4, 7, rfl, upd_same, ok4, by decide, by decide, fun L5 q ok5 q0 q1 => ?_⟩
      refine ⟨_, _, rfl, rfl, _, _, rfl, rfl, by show 2 ≤ sizeLine; decide, fun t ht => ?_⟩
      obtain ⟨ht0, ntb⟩ := upd_none ht
      have ht1 : H3 t = none := (upd_none ht0).1
      have net : en ≠ t := ne_of_none hE ht1
      refine ⟨en, _, _, rfl, rfl, by rw [upd_ne net, upd_ne neb, upd_ne neb]; exact hE, ?_, ?_⟩
      · rw [List.length_map]
        exact small1000 (by omega)
      · have keep : ∀ {d : Addr} {o : HO}, d ≠ b → d ≠ en → H3 d = some o → upd (upd (upd (upd H3 b (.lst (L4.map V.int))) b (.lst (L5.map V.int))) t (.tup [.int lo, .int (lo + q - 1)])) en (.lst ((es.map fun e => V.ref e.1) ++ [.ref t])) d = some o := fun nb ne h => by
          rw [upd_ne ne, upd_ne (ne_of_none h ht1), upd_ne nb, upd_ne nb]; exact h
        refine ⟨_, _, es ++ [(t, lo, lo + q - 1)], rfl, fun d o n h => ?_, ⟨L5, ?_, ok5⟩, ?_, fun e he => ?_, by rw [List.length_append, hle]; rfl⟩
        · exact keep n (ne_of_none h hen) (s3 d o n h)
        · rw [upd_ne neb.symm, upd_ne ntb.symm, upd_same]
        · rw [upd_same, List.map_append]; rfl
        · rcases List.mem_append.mp he with h | h
          · have q := (hes e h).at_
            exact ⟨keep (ne_tup_lst q hb3) (ne_tup_lst q hE) q⟩
          · obtain rfl := List.mem_singleton.mp h
            exact ⟨by rw [upd_ne net.symm, upd_same]⟩
    rintro σ H2 ⟨x6, x7, es, rfl, s3, hb3, hE, hes, hle⟩
    rw [List.length_map] at hle
    have s13 : SameB b H H2 := s1.trans s3
    have ha2 := s13 _ _ hab ha
    have hc2 := s13 _ _ hcb hc
    have hS2 := s3 _ _ nsb hS
    -- rows
    refine ⟨Nat.zero_le _, fun R hR => ?_⟩
    obtain ⟨xb3, hxb3⟩ := hb3.lst
    have nRb : R ≠ b := fun e => by rw [e, hxb3] at hR; cases hR
    have s4 : Same H2 (upd H2 R (.lst [])) := Same.upd_new hR
    refine ⟨_, rfl, c, _, rfl, .inl (SqL.of (s4 _ _ hc2)), _, rfl, by omega, by rw [List.length_map]; omega, for_range (n := (((ks.map V.str).length : Nat) : Int).toNat) (lo := 0) (fun i σ H' => ∃ (x9 x10 : Option V) (rows : List RowIn),
        σ = [some (.ref b), some (.ref a), some (.ref c), some (.ref st), x4, some (.ref en), x6, x7, some (.ref R), x9, x10, none] ∧
        Same H2 H' ∧ H' R = some (.lst (refsOf rows)) ∧ (∀ r ∈ rows, RowD b ls H' r ∧ r.s ≠ R) ∧ rows.map (·.look) = (ks.take i).map V.str)
      ⟨none, none, [], rfl, s4, upd_same, fun r hr => absurd hr (by simp), rfl⟩ ?_ ?_⟩
    · rintro i σ H3 hi ⟨x9, x10, rows, rfl, s5, hR3, hrs, hlk⟩
      have hik : i < ks.length := by
        rw [List.length_map] at hi
        omega
      have hSi : (S.map V.int)[i]? = some (.int S[i]) := by rw [List.getElem?_map, List.getElem?_eq_getElem (by omega)]; rfl
      have hki : (ks.map V.str)[i]? = some (.str ks[i]) := by rw [List.getElem?_map, List.getElem?_eq_getElem hik]; rfl
      refine ⟨_, rfl, a, _, rfl, .inl (SqL.of (s5 _ _ ha2)), _, rfl, by omega, by rw [List.length_map]; omega, fun D hD => lc_range (lo := 0) (n := (((ls.map V.str).length : Nat) : Int).toNat) (fun j H' => ∃ sh : List Str, H' = upd H3 D (.lst (sh.map V.str)) ∧ sh.Sublist (ls.take j)) ⟨[], rfl, List.nil_sublist _⟩ ?_ ?_⟩
      · rintro j H4 hj ⟨sh, rfl, hsub⟩
        have s6 : Same H3 (upd H3 D (.lst (sh.map V.str))) := Same.upd_new hD
        have s56 := s5.trans s6
        have hjl : j < ls.length := by
          rw [List.length_map] at hj
          omega
        have hje : j < es.length := by omega
        have hEj : (es.map fun e => V.ref e.1)[j]? = some (.ref es[j].1) := by rw [List.getElem?_map, List.getElem?_eq_getElem hje]; rfl
        have hEt := s56 _ _ (hes _ (List.getElem_mem hje)).at_
        have hlj : (ls.map V.str)[j]? = some (.str ls[j]) := by rw [List.getElem?_map, List.getElem?_eq_getElem hjl]; rfl
        have grow : sh.Sublist (ls.take (j + 1)) ∧ (sh ++ [ls[j]]).Sublist (ls.take (j + 1)) := by
          rw [take_at (List.getElem?_eq_getElem hjl)]
          exact ⟨hsub.trans (List.sublist_append_left _ _), hsub.append (List.Sublist.refl _)⟩
        have hlen : sh.length ≤ 24 := Nat.le_trans hsub.length_le (Nat.le_trans (by rw [List.length_take]; omega) hll)
        refine ⟨rfl, _, rfl, _, rfl, en, _, _, _, rfl, rfl, SqL.of (s56 _ _ hE), atI0 hEj, es[j].1, _, 0, _, rfl, rfl, SqT.of hEt, rfl, _, rfl, _, rfl, st, _, _, _, rfl, rfl, SqL.of (s56 _ _ hS2), atI0 hSi, _, _, rfl, rfl, _, rfl, ?_⟩
        refine ite2 (fun _ => ?_) (fun _ => ?_)
        · refine ⟨_, rfl, _, rfl, st, _, _, _, rfl, rfl, SqL.of (s56 _ _ hS2), atI0 hSi, _, rfl, _, rfl, en, _, _, _, rfl, rfl, SqL.of (s56 _ _ hE), atI0 hEj, es[j].1, _, 1, _, rfl, rfl, SqT.of hEt, rfl, _, _, rfl, rfl, _, rfl, ?_⟩
          refine ite2 (fun _ => ?_) (fun _ => ?_)
          · refine ⟨_, rfl, _, rfl, a, _, _, _, rfl, rfl, SqL.of (s56 _ _ ha2), atI0 hlj, _, upd_same, ?_, sh ++ [ls[j]], ?_, grow.2⟩
            · rw [List.length_map]
              exact small1000 (by omega)
            · rw [upd_upd, List.map_append]; rfl
          · exact ⟨sh, rfl, grow.1⟩
        · exact ⟨sh, rfl, grow.1⟩
      · rintro H4 ⟨sh, rfl, hsub⟩
        have hsub' : sh.Sublist ls := hsub.trans (List.take_sublist _ _)
        have s6 : Same H3 (upd H3 D (.lst (sh.map V.str))) := Same.upd_new hD
        have s56 := s5.trans s6
        have nRD : R ≠ D := ne_of_none hR3 hD
        refine ⟨_, rfl, .inl ⟨rfl, _, SqL.of (s6 _ _ hR3)⟩, _, rfl, _, rfl, c, _, _, _, rfl, rfl, SqL.of (s56 _ _ hc2), atI0 hki, _, rfl, by show 2 ≤ sizeLine; decide, fun t ht => ?_⟩
        have ht' : upd H3 D (.lst (sh.map V.str)) t = none := ht
        have s7 : Same (upd H3 D (.lst (sh.map V.str))) (upd (upd H3 D (.lst (sh.map V.str))) t (.tup [.str ks[i], .ref D])) := Same.upd_new ht'
        have ntR : R ≠ t := ne_of_none (s6 _ _ hR3) ht'
        have hrl : rows.length ≤ 24 := by
          have q := congrArg List.length hlk
          rw [List.length_map, List.length_map, List.length_take] at q
          omega
        refine ⟨R, _, _, rfl, rfl, s7 _ _ (s6 _ _ hR3), ?_, ?_⟩
        · unfold refsOf
          rw [List.length_map]
          exact small1000 (by omega)
        · have keepR : ∀ {d : Addr} {o : HO}, d ≠ R → upd (upd H3 D (.lst (sh.map V.str))) t (.tup [.str ks[i], .ref D]) d = some o → upd (upd (upd H3 D (.lst (sh.map V.str))) t (.tup [.str ks[i], .ref D])) R (.lst (refsOf rows ++ [.ref t])) d = some o := fun n h => by
            rw [upd_ne n]; exact h
          have nDb : D ≠ b := fun e => by rw [e, s5 _ _ hxb3] at hD; cases hD
          refine ⟨_, _, rows ++ [⟨t, .str ks[i], D, sh.map V.str⟩], rfl, fun d o h => ?_, ?_, fun r hr => ?_, ?_⟩
          · exact keepR (ne_of_none h hR) (s7 _ _ (s56 _ _ h))
          · rw [upd_same]
            unfold refsOf
            rw [List.map_append]
            rfl
          · rcases List.mem_append.mp hr with h | h
            · obtain ⟨Dr, nsR⟩ := hrs r h
              have s67 := s6.trans s7
              exact ⟨⟨Dr.look, keepR (ne_tup_lst Dr.pair hR3) (s67 _ _ Dr.pair), Dr.ns, keepR nsR (s67 _ _ Dr.lst), Dr.sub⟩, nsR⟩
            · obtain rfl := List.mem_singleton.mp h
              exact ⟨⟨⟨ks[i], rfl⟩, keepR ntR.symm upd_same, nDb, keepR nRD.symm (s7 _ _ upd_same), ⟨sh, rfl, hsub'⟩⟩, nRD.symm⟩
          · rw [List.map_append, hlk, take_at (List.getElem?_eq_getElem hik), List.map_append]
            rfl
    · rintro σ H3 ⟨x9, x10, rows, rfl, s5, hR3, hrs, hlk⟩
      have q : (((ks.map V.str).length : Nat) : Int).toNat = ks.length := by rw [List.length_map]; omega
      rw [q, List.take_length] at hlk
      exact ⟨_, rfl, k H3 R rows (s13.trans (SameB.of s5)) (hb3.of s5) ⟨nRb, hR3, fun r hr => (hrs r hr).1, hlk⟩⟩
end
end Dl

namespace Dl
open PySem PySem.Spec PyProof.Rows L2
theorem cut_drop (xs : List V) (i : Nat) : cutV xs (some (i : Int)) none = xs.drop i := by
  unfold cutV
  rw [HT.sIx_nat, HT.sIx_none]
  by_cases h : i ≤ xs.length
  · rw [Nat.min_eq_left h, List.take_of_length_le (by rw [List.length_drop]; omega)]
  · rw [Nat.min_eq_right (by omega), List.drop_eq_nil_of_le (Nat.le_refl _), List.drop_eq_nil_of_le (by omega)]
    simp
/-- the data of rows -/
theorem RowD.dat (K : PySem.W.Frag) {b : Addr} {ls : List Str} {H : Hp} {r : RowIn} (h : RowD b ls H r) (hl : ∀ z ∈ ls, canS z) (hk : ∀ k, r.look = .str k → canS k) : ∃ d, Dp K H (.ref r.t) d ∧ PyData.canLay0 d = true ∧ d.depth ≤ 2 := by
  obtain ⟨k, ek⟩ := h.look
  obtain ⟨sh, es, hs⟩ := h.sub
  have hsh : ∀ z ∈ sh, PyData.canLay0 (.str z) = true := fun z hz => hl z (hs.subset hz)
  refine ⟨.tuple [.str k, .list (sh.map PyData.str)], .tup (SqT.of h.pair) (.cons (by rw [ek]; exact .str k) (.cons (.lst (SqL.of h.lst) (by rw [es]; exact dpAll_strs sh)) .nil)), ?_, ?_⟩
  · rw [PyData.canLay0, PyData.canLayAll0, PyData.canLayAll0, PyData.canLayAll0, show PyData.canLay0 (.str k) = true from hk k ek, PyData.canLay0, canAll_strs hsh]
    rfl
  · simp only [PyData.depth, PyData.depthAll, depthAll_strs]
    decide
theorem rows_dat (K : PySem.W.Frag) {b : Addr} {ls : List Str} {H : Hp} (hl : ∀ z ∈ ls, canS z) : ∀ {rows : List RowIn}, (∀ r ∈ rows, RowD b ls H r ∧ ∀ k, r.look = .str k → canS k) →
    ∃ ds, DpAll K H (refsOf rows) ds ∧ ds.length = rows.length ∧ PyData.canLayAll0 ds = true ∧ PyData.depthAll ds ≤ 2
  | [], _ => ⟨[], .nil, rfl, by simp [PyData.canLayAll0], by simp [PyData.depthAll]⟩
  | r :: q, h => by
    obtain ⟨ds, h1, h2, h3, h4⟩ := rows_dat K hl (rows := q) fun x hx => h x (List.mem_cons_of_mem _ hx)
    obtain ⟨R, hk⟩ := h r (List.mem_cons_self ..)
    obtain ⟨d, d1, d2, d3⟩ := R.dat K hl hk
    refine ⟨d :: ds, .cons d1 h1, by rw [List.length_cons, List.length_cons, h2], ?_, ?_⟩
    · rw [PyData.canLayAll0, d2, h3]; rfl
    · rw [PyData.depthAll]; omega
theorem shaped_list {ds : List PyData} (h1 : PyData.canLayAll0 ds = true) (h2 : PyData.depthAll ds ≤ 2) : SeqAt.shaped (.list ds) = true := by
  unfold SeqAt.shaped
  rw [PyData.canLay0, h1, Bool.true_and, PyData.depth]
  exact decide_eq_true (by omega)
theorem eqv_nil {ds : List PyData} : PyData.eqv (.list ds) (.list []) = decide (ds = []) := by
  cases ds with
  | nil => simp [PyData.eqv, PyData.eqvAll]
  | cons _ _ => simp [PyData.eqv, PyData.eqvAll]
theorem looks_can {b : Addr} {ls ks : List Str} {H : Hp} {R : Addr} {rows : List RowIn} (h : RowsD b ls ks H R rows) (hk : ∀ z ∈ ks, canS z) {r : RowIn} (hr : r ∈ rows) : ∀ k, r.look = .str k → canS k := fun k e => by
  have m : r.look ∈ ks.map V.str := by rw [← h.looks]; exact List.mem_map_of_mem hr
  obtain ⟨z, hz, ez⟩ := List.mem_map.mp m
  rw [e] at ez
  cases ez
  exact hk _ hz
def spFlip : Sp := fun vs H Q _ => ∃ (b a R : Addr) (ls ks : List Str) (rows : List RowIn), vs = [.ref b, .ref a, .ref R] ∧ BagIn H b ∧ a ≠ b ∧ H a = some (.lst (ls.map V.str)) ∧ RowsD b ls ks H R rows ∧ (∀ z ∈ ls, canS z) ∧ (∀ z ∈ ks, canS z) ∧ ls.length ≤ 24 ∧ ks.length ≤ 24 ∧
  ∀ (H' : Hp) (R' : Addr) (rows' : List RowIn), SameB b H H' → BagIn H' b → RowsD b ls ks H' R' rows' → Q (.ref R') H'
def spRows3c : Sp := fun vs H Q _ => ∃ (b a c : Addr) (ls ks : List Str), vs = [.ref b, .ref a, .ref c] ∧ BagIn H b ∧ a ≠ b ∧ c ≠ b ∧ H a = some (.lst (ls.map V.str)) ∧ H c = some (.lst (ks.map V.str)) ∧ (∀ z ∈ ls, canS z) ∧ (∀ z ∈ ks, canS z) ∧ ls.length ≤ 24 ∧ ks.length ≤ 24 ∧
  ∀ (H' : Hp) (R : Addr) (rows : List RowIn), SameB b H H' → BagIn H' b → RowsD b ls ks H' R rows → Q (.ref R) H'
section
variable {P : Program} {w : World} {K : PySem.W.Frag} {mg : Str → Option Value} {base : Heap}
theorem scFlip : FnScope ["_law_bag_here", "_law_lamps", "_law_rows", "_law_spot", "_law_lamp", "_law_old", "_law_new", "_law_one"] ["_law_bag_here", "_law_lamps", "_law_rows"] (defScope sLawFlipped) := ⟨rfl, rfl, rfl, by decide +kernel, rfl, by decide +kernel, by decide +kernel⟩
theorem ok_flip {f : Addr} {fd : FuncData} (F : Fun K "_law_flipped" "_law_flipped" sLawFlipped f fd) (T : TxtR mg) (gT : Dfn P w K mg base CX0 1 "_law_take" ["_law_bag_here", "_law_size"] spTake) :
    FnOk P w K mg base CX0 2 f fd ["_law_bag_here", "_law_lamps", "_law_rows"] spFlip := by
  obtain ⟨fT, dT, mT, kT, bT, GT⟩ := gT
  refine F.ok scFlip (fun vs H Q E h => ?_) (fun cdv A outer s H vs Q E hr h => ?_)
  · obtain ⟨a, b, c, ls, ks, rows, rfl, _⟩ := h
    rfl
  · obtain ⟨b, a, R, ls, ks, rows, rfl, hb, hab, ha, hR, hlc, hkc, hll, hkl, k⟩ := h
    have hr1 : Room 1 _ := hr
    have hrl := hR.length
    refine ⟨_, (pss_cons (ps_if (PW.pt (pw_or (pt_cmpR (op_eqD hr.units) (pv 1) (pe_lst pa_nil) (nomark _)) (pw_or1 (pt_cmpR (op_eqD hr.units) (pv 2) (pe_lst pa_nil) (nomark _))))) (pss_one (ps_ret (pv 2))) pss_nil)
        (pss_cons (ps_set (i := 3) scFlip.nd rfl (Or.inl rfl) (pe_call GT hr1 (by rfl) mT kT bT .nil pass0 (pa_cons (pv 0) (pa_cons (pe_callB call_len_seq (by rfl) T.len PySem.boot_len (pa_cons (pv 2) pa_nil)) pa_nil))))
        (pss_cons (ps_set (i := 4) scFlip.nd rfl (Or.inr rfl) (pe_ix ix_list (pv 1) (pe_call GT hr1 (by rfl) mT kT bT .nil pass0 (pa_cons (pv 0) (pa_cons (pe_callB call_len_seq (by rfl) T.len PySem.boot_len (pa_cons (pv 1) pa_nil)) pa_nil))) (fun _ _ => rfl)))
        (pss_cons (ps_set (i := 5) scFlip.nd rfl (Or.inr rfl) (pe_ix ix_tup (pe_ix ix_list (pv 2) (pv 3) (fun _ _ => rfl)) pe_int (fun _ _ => rfl)))
        (pss_cons (ps_setLc (i := 6) (own := [("_law_one", 7)]) (g := gName 7) rfl scFlip.nd rfl rfl (sw_true rfl rfl rfl (by decide +kernel)) (pi_list (pv 1)) (blkOk_by (N := ["_law_bag_here", "_law_lamps", "_law_rows", "_law_spot", "_law_lamp", "_law_old", "_law_new", "_law_one"]) (sc := defScope sLawFlipped) (by decide +kernel)) (fun _ _ _ _ _ => (pg_name (i := 7) scFlip.nd rfl (Or.inl rfl))) (fun _ _ _ _ _ => (pts_one (pt_cmpR op_ne (pe_cmpR (by exact op_in_seq : OpR _ _ (rIn K false)) (pv 7) (pv 5) (by rfl)) (pe_cmpR op_eq (pv 7) (pv 4) (nomark _)) (nomark _)))) (fun _ _ _ _ _ => (pv 7)))
        (pss_one (ps_ret (pe_op op_cat (pe_op op_cat (pe_slice sl_list (pv 2) po_none (po_some (pv 3))) (pe_lst (pa_cons (pe_tup (pa_cons (pe_ix ix_tup (pe_ix ix_list (pv 2) (pv 3) (fun _ _ => rfl)) pe_int (fun _ _ => rfl)) (pa_cons (pv 6) pa_nil))) pa_nil))) (pe_slice sl_list (pv 2) (po_some (pe_op op_add (pv 3) pe_int)) po_none))))))))), ?_⟩
    refine ⟨_, rfl, Nat.zero_le _, fun e1 he1 => ?_⟩
    have s1 : Same H (upd H e1 (.lst [])) := Same.upd_new he1
    refine ⟨.list (ls.map PyData.str), .list [], .lst (SqL.of (s1 _ _ ha)) (dpAll_strs ls), .lst (SqL.of upd_same) .nil, shaped_strs hlc, shaped_list (by simp [PyData.canLayAll0]) (by simp [PyData.depthAll]), _, rfl, ?_⟩
    rw [eqv_nil]
    refine ite2 (fun _ => ⟨_, rfl, k _ R rows (SameB.of s1) (hb.of s1) (hR.of hb.lst (SameB.of s1))⟩) (fun c1 => ?_)
    have hls0 : ls ≠ [] := by simpa using c1
    have hlp : 1 ≤ ls.length := by cases ls with | nil => exact absurd rfl hls0 | cons _ _ => simp
    refine ⟨_, rfl, Nat.zero_le _, fun e2 he2 => ?_⟩
    have s2' : Same (upd H e1 (.lst [])) (upd (upd H e1 (.lst [])) e2 (.lst [])) := Same.upd_new he2
    have s2 := s1.trans s2'
    have hR2 := hR.of hb.lst (SameB.of s2)
    obtain ⟨ds, hd1, hd2, hd3, hd4⟩ := rows_dat K hlc (rows := rows) (H := upd (upd H e1 (.lst [])) e2 (.lst [])) fun r hr => ⟨hR2.all r hr, looks_can hR hkc hr⟩
    refine ⟨.list ds, .list [], .lst (SqL.of hR2.lst) hd1, .lst (SqL.of upd_same) .nil, shaped_list hd3 hd4, shaped_list (by simp [PyData.canLayAll0]) (by simp [PyData.depthAll]), _, rfl, ?_⟩
    rw [eqv_nil]
    refine ite2 (fun _ => ⟨_, rfl, k _ R rows (SameB.of s2) (hb.of s2) hR2⟩) (fun c2 => ?_)
    have hds0 : ds ≠ [] := by simpa using c2
    have hrp : 1 ≤ rows.length := by rw [← hd2]; cases ds with | nil => exact absurd rfl hds0 | cons _ _ => simp
    generalize upd (upd H e1 (.lst [])) e2 (.lst []) = H2 at *
    have ha2 := s2 _ _ ha
    have hb2 := hb.of s2
    obtain ⟨L2, hbl2, ok2⟩ := hb2
    have hlen : (refsOf rows).length = rows.length := by unfold refsOf; rw [List.length_map]
    refine ⟨_, rfl, _, rfl, R, _, rfl, .inl (SqL.of hR2.lst), b, L2, _, rfl, hbl2, ok2, by rw [hlen]; omega, by rw [hlen]; omega, fun L3 q ok3 q0 q1 => ?_⟩
    obtain ⟨q, rfl⟩ := Int.eq_ofNat_of_zero_le q0
    rw [hlen] at q1
    refine ⟨_, rfl, _, rfl, _, rfl, a, _, rfl, .inl (SqL.of (by rw [upd_ne hab]; exact ha2)), b, L3, _, rfl, upd_same, ok3, by rw [List.length_map]; omega, by rw [List.length_map]; omega, fun L4 p ok4 p0 p1 => ?_⟩
    obtain ⟨p, rfl⟩ := Int.eq_ofNat_of_zero_le p0
    rw [List.length_map] at p1
    rw [upd_upd]
    have hpl : p < ls.length := by omega
    have hqr : q < rows.length := by omega
    have s4 : SameB b H2 (upd H2 b (.lst (L4.map V.int))) := draw_same
    have hb4 : BagIn (upd H2 b (.lst (L4.map V.int))) b := BagIn.upd ok4
    have hR4 := hR2.of ⟨_, hbl2⟩ s4
    have ha4 := s4 _ _ hab ha2
    have s04 : SameB b H (upd H2 b (.lst (L4.map V.int))) := (SameB.of s2).trans s4
    generalize upd H2 b (.lst (L4.map V.int)) = H4 at *
    have hRq : (refsOf rows)[q]? = some (.ref rows[q].t) := by unfold refsOf; rw [List.getElem?_map, List.getElem?_eq_getElem hqr]; rfl
    have Dq := hR4.all _ (List.getElem_mem hqr)
    refine ⟨a, _, (p : Int), _, rfl, rfl, SqL.of ha4, atI_nat (by rw [List.getElem?_map, List.getElem?_eq_getElem hpl]; rfl), ?_⟩
    refine ⟨_, rfl, _, rfl, R, _, (q : Int), _, rfl, rfl, SqL.of hR4.lst, atI_nat hRq, rows[q].t, _, 1, _, rfl, rfl, SqT.of Dq.pair, rfl, ?_⟩
    obtain ⟨sho, esho, hsho⟩ := Dq.sub
    refine ⟨_, rfl, a, rfl, ⟨_, SqL.of ha4⟩, fun D hD => lc_it (walk_list (K := K) (a := a) (xs := ls.map V.str)) (fun j H' => ∃ sh : List Str, H' = upd H4 D (.lst (sh.map V.str)) ∧ sh.Sublist (ls.take j)) ⟨[], rfl, List.nil_sublist _⟩ (fun j H' _ ⟨sh, e, _⟩ => SqL.of (by rw [e]; exact Same.upd_new hD _ _ ha4)) ?_ ?_⟩
    · rintro j y H5 H6 hj ⟨sh, rfl, hsub⟩ ⟨rfl, hy⟩
      obtain ⟨l, hl, rfl⟩ := map_at hy
      have s6 : Same H4 (upd H4 D (.lst (sh.map V.str))) := Same.upd_new hD
      have hshl : sh.length ≤ 24 := Nat.le_trans hsub.length_le (Nat.le_trans (by rw [List.length_take]; omega) hll)
      refine ⟨rfl, _, rfl, _, rfl, rows[q].s, _, rfl, .inl (SqL.of (s6 _ _ Dq.lst)), rfl, by rw [esho]; exact flat_strs sho, _, rfl, _, rfl, rfl, rfl, _, rfl, ?_⟩
      refine ite2 (fun _ => ?_) (fun _ => ?_)
      · refine ⟨_, rfl, _, upd_same, by rw [List.length_map]; exact small1000 (by omega), sh ++ [l], by rw [upd_upd, List.map_append]; rfl, ?_⟩
        rw [take_at hl]
        exact hsub.append (List.Sublist.refl _)
      · refine ⟨sh, rfl, ?_⟩
        rw [take_at hl]
        exact hsub.trans (List.sublist_append_left _ _)
    rintro H5 ⟨sh, rfl, hsub⟩
    have hsub' : sh.Sublist ls := hsub.trans (List.take_sublist _ _)
    have s5 : Same H4 (upd H4 D (.lst (sh.map V.str))) := Same.upd_new hD
    have hD5 : upd H4 D (.lst (sh.map V.str)) D = some (.lst (sh.map V.str)) := upd_same
    have nDb : D ≠ b := fun e => by obtain ⟨x, hx⟩ := hb4.lst; rw [e, hx] at hD; cases hD
    have hR5 := hR4.of hb4.lst (SameB.of s5)
    have hb5 := hb4.of s5
    have s05 := s04.trans (SameB.of s5 (b := b))
    generalize upd H4 D (.lst (sh.map V.str)) = H5 at *
    have Dq5 := hR5.all _ (List.getElem_mem hqr)
    refine ⟨_, rfl, _, rfl, (q : Int), rfl, R, _, rfl, SqL.of hR5.lst, fun p1' hp1 => ?_⟩
    have t1 : Same H5 (upd H5 p1' (.lst (cutV (refsOf rows) none (some (q : Int))))) := Same.upd_new hp1
    refine ⟨_, rfl, _, rfl, R, _, (q : Int), _, rfl, rfl, SqL.of (t1 _ _ hR5.lst), atI_nat hRq, rows[q].t, _, 0, _, rfl, rfl, SqT.of (t1 _ _ Dq5.pair), rfl, _, rfl, by show 2 ≤ sizeLine; decide, fun t ht => ?_⟩
    have t2 : Same (upd H5 p1' (.lst (cutV (refsOf rows) none (some (q : Int))))) (upd (upd H5 p1' (.lst (cutV (refsOf rows) none (some (q : Int))))) t (.tup [rows[q].look, .ref D])) := Same.upd_new ht
    refine ⟨by show 1 ≤ sizeLine; decide, fun p2 hp2 => ?_⟩
    have t3 := Same.upd_new hp2 (o := .lst [.ref t])
    have lens : (cutV (refsOf rows) none (some (q : Int))).length ≤ 24 := Nat.le_trans (cutV_length _ _ _) (by rw [hlen, hrl]; exact hkl)
    refine ⟨p1', p2, _, _, rfl, rfl, t3 _ _ (t2 _ _ upd_same), upd_same, Nat.le_of_lt (small1000 (by simp; omega)), fun p3 hp3 => ?_⟩
    have t4 := Same.upd_new hp3 (o := .lst (cutV (refsOf rows) none (some (q : Int)) ++ [.ref t]))
    have tt := t1.trans (t2.trans (t3.trans t4))
    refine ⟨_, rfl, _, rfl, _, _, rfl, rfl, (q : Int) + 1, rfl, R, _, rfl, SqL.of (tt _ _ hR5.lst), fun p4 hp4 => ?_⟩
    have t5 := Same.upd_new hp4 (o := .lst (cutV (refsOf rows) (some ((q : Int) + 1)) none))
    have lens2 : (cutV (refsOf rows) (some ((q : Int) + 1)) none).length ≤ 24 := Nat.le_trans (cutV_length _ _ _) (by rw [hlen, hrl]; exact hkl)
    refine ⟨p3, p4, _, _, rfl, rfl, t5 _ _ upd_same, upd_same, Nat.le_of_lt (small1000 (by rw [List.length_append]; simp; omega)), fun p5 hp5 => ?_⟩
    have t6 := Same.upd_new hp5 (o := .lst (cutV (refsOf rows) none (some (q : Int)) ++ [.ref t] ++ cutV (refsOf rows) (some ((q : Int) + 1)) none))
    have all := tt.trans (t5.trans t6)
    have nb5 : p5 ≠ b := fun e => by
      obtain ⟨x, hx⟩ := hb5.lst
      have := (tt.trans t5) _ _ hx
      rw [e, this] at hp5
      cases hp5
    refine k _ p5 (rows.take q ++ [⟨t, rows[q].look, D, sh.map V.str⟩] ++ rows.drop (q + 1)) (s05.trans (SameB.of all)) (hb5.of all) ⟨nb5, ?_, fun r hr => ?_, ?_⟩
    · have e2 : ((q : Nat) : Int) + 1 = ((q + 1 : Nat) : Int) := by omega
      rw [upd_same, cut_take, e2, cut_drop]
      unfold refsOf
      rw [List.map_append, List.map_append, List.map_take, List.map_drop]
      rfl
    · have old : ∀ r ∈ rows, RowD b ls _ r := fun r hr => (hR5.all r hr).of hb5.lst (SameB.of all)
      rcases List.mem_append.mp hr with h | h
      · rcases List.mem_append.mp h with h | h
        · exact old r (List.mem_of_mem_take h)
        · obtain rfl := List.mem_singleton.mp h
          exact ⟨Dq5.look, (t3.trans (t4.trans (t5.trans t6))) _ _ upd_same, nDb, all _ _ hD5, ⟨sh, rfl, hsub'⟩⟩
      · exact old r (List.mem_of_mem_drop h)
    · rw [← hR5.looks, List.map_append, List.map_append]
      have hsplit : rows = rows.take q ++ [rows[q]] ++ rows.drop (q + 1) := by
        rw [← take_at (List.getElem?_eq_getElem hqr), List.take_append_drop]
      conv => rhs; rw [hsplit]
      rw [List.map_append, List.map_append]
      rfl
end
end Dl

namespace Dl
open PySem PySem.Spec PyProof.Rows L2
/-- a row as it stands, whatever it holds -/
structure RowG (H : Hp) (r : RowIn) : Prop where
  pair : H r.t = some (.tup [r.look, .ref r.s])
  lst : H r.s = some (.lst r.xs)
theorem RowG.of {H H' : Hp} {r : RowIn} (s : Same H H') (h : RowG H r) : RowG H' r := ⟨s _ _ h.pair, s _ _ h.lst⟩
theorem RowD.g {b : Addr} {ls : List Str} {H : Hp} {r : RowIn} (h : RowD b ls H r) : RowG H r := ⟨h.pair, h.lst⟩
def turned (way : Int) (r : RowIn) : V × List V := (r.look, if way = 1 then r.xs.reverse else r.xs)
def spGiven : Sp := fun vs H Q _ => ∃ (R : Addr) (way : Int) (rows : List RowIn), vs = [.ref R, .int way] ∧ (way = 0 ∨ way = 1) ∧ H R = some (.lst (refsOf rows)) ∧ (∀ r ∈ rows, RowG H r) ∧ rows.length ≤ 900 ∧
  ∀ (H' : Hp) (R' : Addr) (rows' : List RowIn), Same H H' → H R' = none → H' R' = some (.lst (refsOf rows')) → (∀ r ∈ rows', RowG H' r ∧ r.s ≠ R' ∧ H r.s = none) → rows'.map RowIn.dat = rows.map (turned way) → Q (.ref R') H'
section
variable {P : Program} {w : World} {K : PySem.W.Frag} {mg : Str → Option Value} {base : Heap}
theorem scGiven : FnScope ["_law_rows", "_law_way", "_law_given_here", "_law_row", "_law_shown"] ["_law_rows", "_law_way"] (defScope sLawGiven) := ⟨rfl, rfl, rfl, by decide +kernel, rfl, by decide +kernel, by decide +kernel⟩
theorem ok_given {f : Addr} {fd : FuncData} (F : Fun K "_law_given" "_law_given" sLawGiven f fd) (T : TxtR mg) : FnOk P w K mg base CX0 1 f fd ["_law_rows", "_law_way"] spGiven := by
  refine F.ok scGiven (fun vs H Q E h => ?_) (fun cdv A outer s H vs Q E hr h => ?_)
  · obtain ⟨a, b, rows, rfl, _⟩ := h
    rfl
  · obtain ⟨R, way, rows, rfl, hw, hR, hrw, hrl, k⟩ := h
    refine ⟨_, (pss_cons (ps_set (i := 2) scGiven.nd rfl (Or.inl rfl) (pe_lst pa_nil))
        (pss_cons (ps_for PassesOwn.never rfl (pi_list (pv 0)) (pg_name (i := 3) scGiven.nd rfl (Or.inl rfl)) (pss_cons (ps_set (i := 4) scGiven.nd rfl (Or.inl rfl) (pe_callTy call_list_of (by rfl) T.list (by decide +kernel) (pa_cons (pe_ix ix_tup (pv 3) pe_int (fun _ _ => rfl)) pa_nil)))
        (pss_cons (ps_if (pt_cmpR op_eq (pv 1) pe_int (nomark _)) (pss_one (ps_expr (pe_bm0 PySem.F.plainAttrs_list PySem.F.slot_list_reverse PySem.F.type_list_reverse mt_reverse (pv 4)))) pss_nil)
        (pss_one (ps_expr (pe_bm PySem.F.plainAttrs_list PySem.F.slot_list_append PySem.F.type_list_append mt_append (pv 2) (pa_cons (pe_tup (pa_cons (pe_ix ix_tup (pv 3) pe_int (fun _ _ => rfl)) (pa_cons (pv 4) pa_nil))) pa_nil)))))))
        (pss_one (ps_ret (pv 2))))), ?_⟩
    refine ⟨Nat.zero_le _, fun G hG0 => ?_⟩
    have s0 : Same H (upd H G (.lst [])) := Same.upd_new hG0
    refine ⟨_, rfl, R, rfl, ⟨_, SqL.of (s0 _ _ hR)⟩, for_it (walk_list (K := K) (a := R) (xs := refsOf rows)) (fun i σ H' => ∃ (x3 x4 : Option V) (rows' : List RowIn), σ = [some (.ref R), some (.int way), some (.ref G), x3, x4] ∧ Same H H' ∧ H' G = some (.lst (refsOf rows')) ∧
        (∀ r ∈ rows', RowG H' r ∧ r.s ≠ G ∧ H r.s = none) ∧ rows'.map RowIn.dat = (rows.take i).map (turned way) ∧ rows'.length = i)
      ⟨none, none, [], rfl, s0, upd_same, fun r hr => absurd hr (by simp), rfl, rfl⟩ (fun i σ H' _ ⟨_, _, _, _, s1, _⟩ => SqL.of (s1 _ _ hR)) ?_ ?_⟩
    · rintro i v σ H2 H3 hi ⟨x3, x4, rows', rfl, s2, hG2, hrs, hdat, hlen'⟩ ⟨rfl, hv⟩
      obtain ⟨r, hr', rfl⟩ := map_at (show (rows.map fun r => V.ref r.t)[i]? = some v from hv)
      have hlt : i < rows.length := (List.getElem?_eq_some_iff.mp hr').1
      have hg := hrw r (List.mem_of_getElem? hr')
      refine ⟨_, rfl, r.t, _, 1, .ref r.s, rfl, rfl, SqT.of (hg.of s2).pair, rfl, r.s, _, rfl, .inl (SqL.of (hg.of s2).lst), fun D hD => ?_⟩
      rcases hw with rfl | rfl
      ·
        refine ⟨_, rfl, rfl, _, rfl, ?_⟩
        rw [decide_eq_false (show ¬ V.int 0 = V.int 1 from fun e => by cases e)]
        refine iteF ?_
        have nGD : G ≠ D := ne_of_none hG2 hD
        have hD0 : H D = none := s2.free hD
        refine ⟨_, rfl, .inl ⟨rfl, _, SqL.of (by rw [upd_ne nGD]; exact hG2)⟩, _, rfl, r.t, _, 0, r.look, rfl, rfl, SqT.of ((Same.upd_new hD) _ _ (hg.of s2).pair), rfl, _, rfl, by show 2 ≤ sizeLine; decide, fun t ht => ?_⟩
        have ht0 : H3 t = none := (upd_none ht).1
        have ntG : G ≠ t := ne_of_none hG2 ht0
        have ntD : D ≠ t := (upd_none ht).2.symm
        refine ⟨G, _, _, rfl, rfl, by rw [upd_ne ntG]; rw [upd_ne nGD]; exact hG2, ?_, ?_⟩
        · unfold refsOf
          rw [List.length_map]
          exact small1000 (by omega)
        · have keep : ∀ {d : Addr} {o : HO}, d ≠ G → H3 d = some o → upd (upd (upd H3 D (.lst r.xs)) t (.tup [r.look, .ref D])) G (.lst (refsOf rows' ++ [.ref t])) d = some o := fun n h => by
            rw [upd_ne n, upd_ne (ne_of_none h ht0), upd_ne (ne_of_none h hD)]; exact h
          refine ⟨_, _, rows' ++ [⟨t, r.look, D, r.xs⟩], rfl, fun d o h => keep (ne_of_none h hG0) (s2 _ _ h), by rw [upd_same]; unfold refsOf; rw [List.map_append]; rfl, fun x hx => ?_, ?_, ?_⟩
          · rcases List.mem_append.mp hx with h | h
            · obtain ⟨g, ng, nf⟩ := hrs x h
              exact ⟨⟨keep (ne_tup_lst g.pair hG2) g.pair, keep ng g.lst⟩, ng, nf⟩
            · obtain rfl := List.mem_singleton.mp h
              exact ⟨⟨by rw [upd_ne ntG.symm, upd_same], by rw [upd_ne nGD.symm, upd_ne ntD]; exact upd_same⟩, nGD.symm, hD0⟩
          · rw [List.map_append, hdat, take_at hr', List.map_append]
            rfl
          · rw [List.length_append, hlen']
            rfl
      ·
        refine ⟨_, rfl, rfl, _, rfl, ?_⟩
        rw [decide_eq_true (rfl : V.int 1 = V.int 1)]
        refine iteT ⟨_, rfl, .inl ⟨rfl, _, SqL.of upd_same⟩, D, _, rfl, rfl, upd_same, ?_⟩
        have nGD : G ≠ D := ne_of_none hG2 hD
        have hD0 : H D = none := s2.free hD
        refine ⟨_, rfl, .inl ⟨rfl, _, SqL.of (by rw [upd_upd, upd_ne nGD]; exact hG2)⟩, _, rfl, r.t, _, 0, r.look, rfl, rfl, SqT.of (by rw [upd_upd]; exact (Same.upd_new hD) _ _ (hg.of s2).pair), rfl, _, rfl, by show 2 ≤ sizeLine; decide, fun t ht => ?_⟩
        rw [upd_upd] at ht
        have ht0 : H3 t = none := (upd_none ht).1
        have ntG : G ≠ t := ne_of_none hG2 ht0
        have ntD : D ≠ t := (upd_none ht).2.symm
        refine ⟨G, _, _, rfl, rfl, by rw [upd_ne ntG]; rw [upd_upd, upd_ne nGD]; exact hG2, ?_, ?_⟩
        · unfold refsOf
          rw [List.length_map]
          exact small1000 (by omega)
        · have keep : ∀ {d : Addr} {o : HO}, d ≠ G → H3 d = some o → upd (upd (upd (upd H3 D (.lst r.xs)) D (.lst r.xs.reverse)) t (.tup [r.look, .ref D])) G (.lst (refsOf rows' ++ [.ref t])) d = some o := fun n h => by
            rw [upd_ne n, upd_ne (ne_of_none h ht0), upd_ne (ne_of_none h hD), upd_ne (ne_of_none h hD)]; exact h
          refine ⟨_, _, rows' ++ [⟨t, r.look, D, r.xs.reverse⟩], rfl, fun d o h => keep (ne_of_none h hG0) (s2 _ _ h), by rw [upd_same]; unfold refsOf; rw [List.map_append]; rfl, fun x hx => ?_, ?_, ?_⟩
          · rcases List.mem_append.mp hx with h | h
            · obtain ⟨g, ng, nf⟩ := hrs x h
              exact ⟨⟨keep (ne_tup_lst g.pair hG2) g.pair, keep ng g.lst⟩, ng, nf⟩
            · obtain rfl := List.mem_singleton.mp h
              exact ⟨⟨by rw [upd_ne ntG.symm, upd_same], by rw [upd_ne nGD.symm, upd_ne ntD]; exact upd_same⟩, nGD.symm, hD0⟩
          · rw [List.map_append, hdat, take_at hr', List.map_append]
            rfl
          · rw [List.length_append, hlen']
            rfl
    · rintro σ H2 ⟨x3, x4, rows', rfl, s2, hG2, hrs, hdat, hlen'⟩
      have hlen2 : (refsOf rows).length = rows.length := by unfold refsOf; rw [List.length_map]
      rw [hlen2, List.take_length] at hdat
      exact ⟨_, rfl, k H2 G rows' s2 hG0 hG2 hrs hdat⟩
end
end Dl

namespace Dl
open PySem PySem.Spec PyProof.Rows L2
/-! ### one more look -/
def LN : Str := "longername12"
theorem ln_valid : validN LN = true := by decide +kernel
theorem ln_len : LN.cps.toList.length = 12 := by decide +kernel
theorem rowsApp {ls : List Str} : ∀ {xs ys : List (V × List V)} {acc acc' : List (Str × List Str)}, initRows ls xs acc = .ok acc' → initRows ls (xs ++ ys) acc = initRows ls ys acc'
  | [], ys, acc, acc', h => by cases h; rfl
  | (k, sh) :: r, ys, acc, acc', h => by
    rw [List.cons_append]
    unfold initRows at h
    cases e1 : chkNew k (acc.map (·.1)) with
    | some e => rw [e1] at h; cases h
    | none =>
      rw [e1] at h
      simp only at h
      cases e2 : chkShown sh ls [] with
      | some e => rw [e2] at h; cases h
      | none =>
        rw [e2] at h
        have q := rowsApp (ys := ys) h
        rw [← q]
        rw [initRows, e1, e2]
/-- the word of Table for a table's rows and one more -/
def moreT (ls : List Str) (rs : List (Str × List Str)) (nm : V) (xs : List V) : Except Er (List Str × List (Str × List Str)) :=
  if 24 < rs.length + 1 then .error .many else
  match chkNew nm (rs.map (·.1)) with
  | some e => .error e
  | none => match chkShown xs ls [] with
    | some e => .error e
    | none => .ok (ls, rs ++ [(strOf nm, chosen ls (xs.map strOf))])
theorem init_more {ls : List Str} {rs : List (Str × List Str)} (ok : TabOk ls rs) (nm : V) (xs : List V) : initT (ls.map V.str) (rs.map rdat ++ [(nm, xs)]) = moreT ls rs nm xs := by
  unfold initT moreT
  have e : initRows ls (rs.map rdat) [] = .ok rs := by
    have q := rows_ok' ok.lnd (xs := rs) (acc := []) ok.knd fun x hx => ⟨ok.kval x hx, ok.sub x hx, by simp⟩
    rw [List.nil_append] at q
    exact q
  have lf := ok.lfew
  by_cases h : 24 < rs.length + 1
  · rw [if_pos h, if_pos (by simp only [List.length_append, List.length_map, List.length_cons, List.length_nil]; omega)]
  · rw [if_neg h, if_neg (by rw [List.length_append, List.length_map, List.length_map]; simp only [List.length_cons, List.length_nil]; omega), names_ok ok.lnd ok.lval]
    simp only [rowsApp e]
    rw [initRows]
    cases chkNew nm (rs.map (·.1)) with
    | some er => rfl
    | none =>
      simp only
      cases chkShown xs ls [] with
      | some er => rfl
      | none => rfl
end Dl

namespace Dl
open PySem PySem.Spec PyProof.Rows L2
/-! ### what the laws over drawn tables share -/
def turnOf (way : Int) (x : Str × List Str) : Str × List Str := (x.1, if way = 1 then x.2.reverse else x.2)
def dataOf (x : Str × List Str) : PyData := .tuple [.str x.1, .list (x.2.map PyData.str)]
theorem rows_rs' {b : Addr} {ls : List Str} {H : Hp} : ∀ {rows : List RowIn} {ks : List Str}, (∀ r ∈ rows, RowD b ls H r) → rows.map (·.look) = ks.map V.str → ∃ rs : List (Str × List Str), rows.map RowIn.dat = rs.map rdat ∧ (rs.map fun x : Str × List Str => x.1) = ks ∧ ∀ x ∈ rs, x.2.Sublist ls
  | [], ks, _, e => by
    cases ks with
    | nil => exact ⟨[], rfl, rfl, fun x h => absurd h (by simp)⟩
    | cons _ _ => cases e
  | r :: q, ks, h, e => by
    cases ks with
    | nil => cases e
    | cons k ks =>
      rw [List.map_cons, List.map_cons] at e
      injection e with e1 e2
      obtain ⟨rs, q1, q2, q3⟩ := rows_rs' (rows := q) (ks := ks) (fun x hx => h x (List.mem_cons_of_mem _ hx)) e2
      obtain ⟨sh, s1, s2⟩ := (h r (List.mem_cons_self ..)).sub
      refine ⟨(k, sh) :: rs, ?_, ?_, fun x hx => ?_⟩
      · rw [List.map_cons, List.map_cons, q1]
        have : RowIn.dat r = rdat (k, sh) := by unfold RowIn.dat rdat; rw [e1, s1]
        rw [this]
      · rw [List.map_cons, q2]
      · rcases List.mem_cons.mp hx with h | h
        · rw [h]; exact s2
        · exact q3 x h
theorem NamesOk.bag {zs : List Str} (ok : NamesOk zs) : ∀ z ∈ zs, canS z := fun z h => valid_can (ok.valid h)
theorem tabok_of {ls ks : List Str} {rs : List (Str × List Str)} (okl : NamesOk ls) (okk : NamesOk ks) (e : (rs.map fun x : Str × List Str => x.1) = ks) (sub : ∀ x ∈ rs, x.2.Sublist ls) : TabOk ls rs :=
  ⟨okl.nd, fun z h => okl.valid h, okl.few, by rw [e]; exact okk.nd, fun x h => okk.valid (by rw [← e]; exact List.mem_map_of_mem h), by rw [← List.length_map (f := fun x : Str × List Str => x.1), e]; exact okk.few, sub⟩
theorem turned_map {rows : List RowIn} {rs : List (Str × List Str)} {way : Int} (e : rows.map RowIn.dat = rs.map rdat) : rows.map (turned way) = (rs.map (turnOf way)).map rdat := by
  induction rows generalizing rs with
  | nil => cases rs with
    | nil => rfl
    | cons _ _ => cases e
  | cons r q ih => cases rs with
    | nil => cases e
    | cons x rs =>
      rw [List.map_cons, List.map_cons] at e
      injection e with e1 e2
      rw [List.map_cons, List.map_cons, List.map_cons, ih e2]
      have h1 : r.look = .str x.1 := congrArg Prod.fst e1
      have h2 : r.xs = x.2.map V.str := congrArg Prod.snd e1
      have : turned way r = rdat (turnOf way x) := by
        unfold turned turnOf rdat
        rw [h1, h2]
        by_cases w : way = 1
        · rw [if_pos w, if_pos w, List.map_reverse]
        · rw [if_neg w, if_neg w]
      rw [this]
theorem chosen_turn {ls : List Str} {x : Str × List Str} {way : Int} (h : x.2.Sublist ls) (nd : ls.Nodup) : chosen ls (turnOf way x).2 = x.2 := by
  unfold turnOf
  by_cases w : way = 1
  · simp only [if_pos w]
    have : chosen ls x.2.reverse = chosen ls x.2 := by
      unfold chosen
      apply List.filter_congr
      intro z _
      simp
    rw [this, chosen_sub h nd]
  · simp only [if_neg w]
    exact chosen_sub h nd
theorem turn_rows {ls : List Str} (lnd : ls.Nodup) (way : Int) : ∀ {xs acc : List (Str × List Str)}, (xs.map (·.1)).Nodup → (∀ x ∈ xs, validN x.1 = true ∧ x.2.Sublist ls ∧ x.1 ∉ acc.map (·.1)) → initRows ls ((xs.map (turnOf way)).map rdat) acc = .ok (acc ++ xs)
  | [], acc, _, _ => by rw [List.map_nil, List.map_nil, initRows, List.append_nil]
  | x :: r, acc, nd, h => by
    obtain ⟨h1, h2, h3⟩ := h x (List.mem_cons_self ..)
    rw [List.map_cons, List.nodup_cons] at nd
    have e1 : chkNew (.str x.1) (acc.map (·.1)) = none := by simp only [chkNew, h1, if_true]; rw [if_neg h3]
    have snd : (turnOf way x).2.Nodup := by
      unfold turnOf
      by_cases w : way = 1
      · simp only [if_pos w]; exact List.pairwise_reverse.mpr (List.Pairwise.imp (fun h => Ne.symm h) (h2.nodup lnd))
      · simp only [if_neg w]; exact h2.nodup lnd
    have smem : ∀ z ∈ (turnOf way x).2, z ∈ ls ∧ z ∉ ([] : List Str) := fun z hz => ⟨h2.subset (by
      unfold turnOf at hz
      by_cases w : way = 1
      · simp only [if_pos w] at hz; exact List.mem_reverse.mp hz
      · simp only [if_neg w] at hz; exact hz), by simp⟩
    have e2 : chkShown ((turnOf way x).2.map V.str) ls [] = none := shown_ok' snd smem
    rw [List.map_cons, List.map_cons]
    show initRows ls ((V.str x.1, (turnOf way x).2.map V.str) :: (r.map (turnOf way)).map rdat) acc = _
    rw [initRows, e1, e2]
    show initRows ls ((r.map (turnOf way)).map rdat) (acc ++ [(x.1, chosen ls (((turnOf way x).2.map V.str).map strOf))]) = _
    rw [strs_back, chosen_turn h2 lnd, turn_rows lnd way nd.2 fun y hy => ⟨(h y (List.mem_cons_of_mem _ hy)).1, (h y (List.mem_cons_of_mem _ hy)).2.1, fun m => by
      rw [List.map_append] at m
      rcases List.mem_append.mp m with m | m
      · exact (h y (List.mem_cons_of_mem _ hy)).2.2 m
      · have e : y.1 = x.1 := by simpa using m
        exact nd.1 (by rw [← e]; exact List.mem_map.mpr ⟨y, hy, rfl⟩)⟩, List.append_assoc]
    rfl
theorem init_turn {ls : List Str} {rs : List (Str × List Str)} (ok : TabOk ls rs) (way : Int) : initT (ls.map V.str) ((rs.map (turnOf way)).map rdat) = .ok (ls, rs) := by
  unfold initT
  rw [if_neg (by rw [List.length_map, List.length_map, List.length_map]; have := ok.lfew; have := ok.kfew; omega), names_ok ok.lnd ok.lval]
  have q := turn_rows ok.lnd way (xs := rs) (acc := []) ok.knd fun x hx => ⟨ok.kval x hx, ok.sub x hx, by simp⟩
  rw [List.nil_append] at q
  simp only [q]
theorem dp_rows {K : PySem.W.Frag} {H : Hp} : ∀ {rows : List RowIn} {ts : List (Str × List Str)}, (∀ r ∈ rows, RowG H r) → rows.map RowIn.dat = ts.map rdat → DpAll K H (refsOf rows) (ts.map dataOf)
  | [], ts, _, e => by
    cases ts with
    | nil => exact .nil
    | cons _ _ => cases e
  | r :: q, ts, h, e => by
    cases ts with
    | nil => cases e
    | cons x ts =>
      rw [List.map_cons, List.map_cons] at e
      injection e with e1 e2
      have h1 : r.look = .str x.1 := congrArg Prod.fst e1
      have h2 : r.xs = x.2.map V.str := congrArg Prod.snd e1
      have G := h r (List.mem_cons_self ..)
      have pg := G.pair
      have qg := G.lst
      rw [h1] at pg
      rw [h2] at qg
      exact .cons (.tup (SqT.of pg) (.cons (.str _) (.cons (.lst (SqL.of qg) (dpAll_strs _)) .nil))) (dp_rows (fun y hy => h y (List.mem_cons_of_mem _ hy)) e2)
theorem shaped_rows {ts : List (Str × List Str)} (h : ∀ x ∈ ts, canS x.1 ∧ ∀ z ∈ x.2, canS z) : SeqAt.shaped (.list (ts.map dataOf)) = true := by
  have both : PyData.canLayAll0 (ts.map dataOf) = true ∧ PyData.depthAll (ts.map dataOf) ≤ 2 := by
    induction ts with
    | nil => exact ⟨by simp [PyData.canLayAll0], by simp [PyData.depthAll]⟩
    | cons x r ih =>
      obtain ⟨i1, i2⟩ := ih fun y hy => h y (List.mem_cons_of_mem _ hy)
      obtain ⟨c1, c2⟩ := h x (List.mem_cons_self ..)
      have d1 : PyData.canLay0 (dataOf x) = true := by
        unfold dataOf
        unfold canS at c1
        simp only [PyData.canLay0] at c1
        simp only [PyData.canLay0, PyData.canLayAll0, canAll_strs c2, c1, Bool.and_true]
      have d2 : (dataOf x).depth ≤ 2 := by
        unfold dataOf
        simp only [PyData.depth, PyData.depthAll, depthAll_strs]
        decide
      refine ⟨?_, ?_⟩
      · rw [List.map_cons, PyData.canLayAll0, d1, i1]; rfl
      · rw [List.map_cons, PyData.depthAll]; omega
  exact shaped_list both.1 both.2
theorem ln_len' : LN.length = 12 := by decide +kernel
theorem ln_no {ks : List Str} (ok : NamesOk ks) : LN ∉ ks := fun h => by
  obtain ⟨i, hi, e⟩ := List.getElem_of_mem h
  have q := ((ok.at_ i LN (by rw [List.getElem?_eq_getElem hi, e])).sg (by have := ok.few; omega)).2.2
  rw [ln_len'] at q
  omega
theorem shaped_ofn {d : PyData} (h : PyData.canLay0 d = true) (h2 : d.depth ≤ 4) : SeqAt.shaped d = true := by
  unfold SeqAt.shaped
  rw [h, Bool.true_and]
  exact decide_eq_true (by omega)
theorem eqv_same {d : PyData} (h : SeqAt.shaped d = true) : PyData.eqv d d = true := SeqAt.eqv_refl _ (by
  unfold SeqAt.shaped at h
  exact (Bool.and_eq_true_iff.mp h).1)
section
variable {P : Program} {w : World} {K : PySem.W.Frag} {mg : Str → Option Value} {base : Heap} {C : Cs} {CT : Addr}
/-- Table(list of lamps, list of rows): what the rows as given make -/
theorem make_ok {H7 : Hp} {l R : Addr} {ls : List Str} {ts rs : List (Str × List Str)} {rows : List RowIn} {Q : Hp → Prop} {E : XK} {x dx : Addr} (nx : H7 x = none) (ndx : H7 dx = none) (nex : dx ≠ x) (hl : H7 l = some (.lst (ls.map V.str))) (hR : H7 R = some (.lst (refsOf rows))) (hrw : ∀ r ∈ rows, RowG H7 r) (hd : rows.map RowIn.dat = ts.map rdat)
    (hts : ∀ y ∈ ts, validN y.1 = true ∧ (∀ z ∈ y.2, z ∈ ls) ∧ y.2.length ≤ 24) (hini : initT (ls.map V.str) (ts.map rdat) = .ok (ls, rs)) (lval : ∀ z ∈ ls, validN z = true) (lfew : ls.length ≤ 25) (tfew : ts.length ≤ 25)
    (k : ∀ H8, Same H7 H8 → TableAt CT H8 x ls rs → Q H8) :
    spTabInit2 K CT C (.ref x :: ([.ref l, .ref R] ++ [])) (upd (upd H7 dx (.own x)) x (.ins CT dx [])) (fun v H2 => v = .non ∧ Q H2) E := by
  have sm : Same H7 (upd (upd H7 dx (.own x)) x (.ins CT dx [])) := fun c o e => by
    rw [upd_ne (ne_of_none e nx), upd_ne (ne_of_none e ndx)]; exact e
  have hlen : rows.length = ts.length := by
    have e := congrArg List.length hd
    rw [List.length_map, List.length_map] at e
    exact e
  refine ⟨H7, x, dx, l, R, ls.map V.str, rows, rfl, sm, nx, upd_same, .inl (SqL.of hl), strs_nm lval, by rw [List.length_map]; omega, .inl (SqL.of hR), fun r hr => ?_, by omega, fun ls' rs' e H8 s8 hT8 => ⟨rfl, ?_⟩, fun e he => ?_⟩
  · obtain ⟨i, hi, ei⟩ := List.getElem_of_mem hr
    have hir : i < ts.length := by omega
    have ed : r.dat = rdat ts[i] := by
      have e := congrArg (fun l => l[i]?) hd
      simp only [List.getElem?_map, List.getElem?_eq_getElem hi, List.getElem?_eq_getElem hir, Option.map_some, ei] at e
      exact Option.some.inj e
    obtain ⟨v1, v2, v3⟩ := hts _ (List.getElem_mem hir)
    generalize ts[i] = y at *
    have e1 : r.look = .str y.1 := congrArg Prod.fst ed
    have e2 : r.xs = y.2.map V.str := congrArg Prod.snd ed
    have G := hrw r hr
    refine ⟨SqT.of G.pair, by rw [e1]; exact validN_nm v1, .inl (SqL.of G.lst), by rw [e2]; exact strs_nm fun z hz => lval z (v2 z hz), ?_⟩
    rw [e2, List.length_map]
    omega
  · rw [hd, hini] at e
    cases e
    exact k H8 s8 hT8
  · rw [hd, hini] at he
    cases he
theorem TableAt.ofB {b : Addr} {H H' : Hp} {x : Addr} {ls : List Str} {rs : List (Str × List Str)} (h : TableAt CT H x ls rs) (hb : ∃ xs, H b = some (.lst xs)) (s : SameB b H H') : TableAt CT H' x ls rs := by
  obtain ⟨ys, hb⟩ := hb
  obtain ⟨dx, lt, sd, kt, kvs, hp, hlt, hsd, hkt, hrs⟩ := h
  have ne : ∀ {c : Addr} {o : HO}, H c = some o → (∀ xs, o ≠ .lst xs) → H' c = some o := fun {c o} e n => s _ _ (fun q => by rw [q, hb] at e; cases e; exact n _ rfl) e
  exact ⟨dx, lt, sd, kt, kvs, ne hp (fun _ e => by cases e), ne hlt (fun _ e => by cases e), ne hsd (fun _ e => by cases e), ne hkt (fun _ e => by cases e), hrs.of fun b ys e => ne e (fun _ e => by cases e)⟩
theorem turn_mem {ls : List Str} {rs : List (Str × List Str)} (ok : TabOk ls rs) (way : Int) : ∀ y ∈ rs.map (turnOf way), validN y.1 = true ∧ (∀ z ∈ y.2, z ∈ ls) ∧ y.2.length ≤ 24 := fun y hy => by
  obtain ⟨x, hx, rfl⟩ := List.mem_map.mp hy
  refine ⟨ok.kval x hx, fun z hz => (ok.sub x hx).subset ?_, ?_⟩
  · unfold turnOf at hz
    by_cases w : way = 1
    · simp only [if_pos w] at hz; exact List.mem_reverse.mp hz
    · simp only [if_neg w] at hz; exact hz
  · have := (ok.sub x hx).length_le
    have := ok.lfew
    unfold turnOf
    by_cases w : way = 1
    · simp only [if_pos w, List.length_reverse]; omega
    · simp only [if_neg w]; omega
end
end Dl

/-! sets of tuples of texts: my own rule. First: what such a tuple is asked -/
namespace Dl
open PySem PySem.Spec PyProof.Rows L2
/-- the tuple at a has the texts k -/
abbrev Tx (P : Program) (w : World) (h : Heap) (k : List Str) (a : Addr) : Prop := IsTupleKey (strKind P w) h k a
abbrev txHash (P : Program) (w : World) (k : List Str) : Int := tupleKeyHash (strKind P w) k
section
variable {P : Program} {w : World} {A : Around} {E : Value → Shared → Prop} {s : Shared}
theorem texts_of {k : List Str} {vs : List Value} (h : ItemsAre (strKind P w) k vs) : ∀ v ∈ vs, ∃ z t, v = Value.str z t := by
  induction h with
  | nil => exact fun v hv => absurd hv (by simp)
  | @cons z u ks us one _ rest =>
    intro v hv
    cases hv with
    | head => exact ⟨z, Value.isStrOf_shape one⟩
    | tail _ hv => exact rest v hv
theorem text_class (n : Nat) (z : Str) (t : Tok) : ofAClassStatement n (.str z t) = pure false := by cases n <;> rfl
theorem text_hash (n : Nat) (z : Str) (t : Tok) : hashByValue n (.str z t) = pure false := by cases n <;> rfl
/-- it is of no class statement -/
theorem tx_class {k : List Str} {b : Addr} {Q : Bool → Shared → Prop} (tx : Tx P w s.heap k b) (q : Q false s) : wpAny (model P w) A (ofAClassStatement 8 (.ref b)) Q E s := by
  obtain ⟨o, items, n, at_, cls, dat, its⟩ := id tx
  have texts := texts_of its
  unfold ofAClassStatement
  apply wpAny_bind
  apply wpAny_typeOf tx.typeIs
  dsimp only
  simp only [show ((("tuple" : String) == "tuple") = true) from by decide, if_true, Bool.not_true, Bool.false_eq_true, if_false]
  try apply wpAny_bind (wpAny_pure _)
  try simp only [Bool.not_true, Bool.false_eq_true, if_false]
  change wpAny _ _ (seqItems? (.ref b) >>= _) _ _ s
  apply wpAny_bind
  apply wpAny_seqItems at_ dat
  dsimp only
  apply wpAny_bind
  change wpAny _ _ (forIn items _ _) _ _ s
  rw [← Array.forIn_toList]
  apply wpAny_forIn_list _ (fun left r s1 => (r.1 = none ∧ s1 = s) ∧ ∀ v ∈ left, ∃ z t, v = Value.str z t) _ _ _ _ _ ⟨⟨rfl, rfl⟩, texts⟩
  · rintro v left r s1 ⟨⟨r0, rfl⟩, all⟩
    obtain ⟨z, t, rfl⟩ := all v (List.mem_cons_self ..)
    rw [text_class]
    apply wpAny_bind
    apply wpAny_pure
    exact wpAny_pure ⟨⟨rfl, rfl⟩, fun u hu => all u (List.mem_cons_of_mem _ hu)⟩
  · rintro ⟨r1, r2⟩ s1 ⟨⟨r0, rfl⟩, _⟩
    cases r0
    exact wpAny_pure q
/-- whether its hash goes by its value: some answer -/
theorem tx_byvalue {k : List Str} {b : Addr} {Q : Bool → Shared → Prop} (tx : Tx P w s.heap k b) (q : ∀ c, Q c s) : wpAny (model P w) A (hashByValue 8 (.ref b)) Q E s := by
  obtain ⟨o, items, n, at_, cls, dat, its⟩ := id tx
  have texts := texts_of its
  unfold hashByValue
  apply wpAny_bind
  apply wpAny_specialOf tx.typeIs F.slot_tuple_hash.lookup
  change wpAny _ _ (seqItems? (.ref b) >>= _) _ _ s
  apply wpAny_bind
  apply wpAny_seqItems at_ dat
  apply wpAny_bind
  change wpAny _ _ (forIn items _ _) _ _ s
  rw [← Array.forIn_toList]
  apply wpAny_forIn_list _ (fun left r s1 => s1 = s ∧ ∀ v ∈ left, ∃ z t, v = Value.str z t) _ _ _ _ _ ⟨rfl, texts⟩
  · rintro v left r s1 ⟨rfl, all⟩
    obtain ⟨z, t, rfl⟩ := all v (List.mem_cons_self ..)
    rw [text_hash]
    apply wpAny_bind
    apply wpAny_pure
    exact wpAny_pure (wpAny_pure (q false))
  · rintro ⟨r1, r2⟩ s1 ⟨rfl, _⟩
    cases r1 with
    | none => exact wpAny_pure (q true)
    | some c => exact wpAny_pure (q c)
/-- a search among such tuples shows nothing -/
theorem tx_unseen {k : List Str} {b : Addr} {Q : Bool → Shared → Prop} (tx : Tx P w s.heap k b) {ys : List Value} (hy : ∀ y ∈ ys, ∃ k2 c, y = Value.ref c ∧ Tx P w s.heap k2 c) (q : Q false s) : wpAny (model P w) A (searchCouldBeSeen (.ref b) ys) Q E s := by
  unfold searchCouldBeSeen
  apply wpAny_bind
  apply wpAny_forIn_list _ (fun left r s1 => (r.1 = none ∧ s1 = s) ∧ ∀ y ∈ left, ∃ k2 c, y = Value.ref c ∧ Tx P w s.heap k2 c) _ _ _ _ _ ⟨⟨rfl, rfl⟩, hy⟩
  · rintro v left r s1 ⟨⟨r0, rfl⟩, all⟩
    obtain ⟨k2, c, rfl, tc⟩ := all v (List.mem_cons_self ..)
    have more := fun u (hu : u ∈ left) => all u (List.mem_cons_of_mem _ hu)
    by_cases known : (b == c || (carriedByValue (.ref b) && carriedByValue (.ref c))) = true
    · exact wp_if_pos known (wpAny_pure ⟨⟨rfl, rfl⟩, more⟩)
    · apply wp_if_neg known
      apply wpAny_bind
      apply wpAny_eqIsQuiet_tuple tx
      simp only [Bool.not_true, Bool.false_eq_true, if_false]
      apply wpAny_bind
      apply wpAny_eqIsQuiet_tuple tc
      simp only [Bool.not_true, Bool.false_eq_true, if_false]
      apply wpAny_bind
      apply tx_class tx
      simp only [Bool.false_eq_true, if_false]
      apply wpAny_bind
      apply tx_class tc
      simp only [Bool.false_eq_true, if_false]
      exact wpAny_pure ⟨⟨rfl, rfl⟩, more⟩
  · rintro ⟨r1, r2⟩ s1 ⟨⟨r0, rfl⟩, _⟩
    cases r0
    exact wpAny_pure q
end
end Dl

/-! sets of tuples of texts: the set, the search -/
namespace Dl
open PySem PySem.Spec PyProof.Rows L2
abbrev Keyed := List (Addr × List Str)
def hashes (P : Program) (w : World) (L : Keyed) : List Int := L.map fun p => txHash P w p.2
def entries (P : Program) (w : World) (L : Keyed) : List (Int × Value) := L.map fun p => (txHash P w p.2, Value.ref p.1)
/-- the set at a has the tuples L -/
structure Held (P : Program) (w : World) (h : Heap) (a : Addr) (L : Keyed) (es : Array (Int × Value)) (ep : Nat) (t : SetTable) : Prop where
  obj : ∃ o, h.get? a = some o ∧ o.ExactSet ∧ o.data = .set es ep t
  ent : es.toList = entries P w L
  tab : _root_.L2.TabOk t (hashes P w L)
  once : (L.map (·.2)).Nodup
  txt : ∀ p ∈ L, Tx P w h p.2 p.1
  led : w.params.followText "set-order" = true ∨ t.led = true
  room : L.length * 5 < t.mask * 3
  few : L.length < 64
/-- where the walk of a hash begins -/
def begin_ (m : Nat) (h : Int) : SetTable.Probe := runAt m (SetTable.bits h % (m + 1)) (SetTable.bits h)
theorem no_dummy (m : Nat) : ∀ (n : Nat) (p : SetTable.Probe), p.dummy = none → (nth m p n).dummy = none
  | 0, _, h => h
  | n + 1, p, h => no_dummy m n (adv m p) (by unfold adv; split <;> exact h)
section
variable {P : Program} {w : World} {A : Around} {E : Value → Shared → Prop} {s : Shared} {a : Addr} {L : Keyed} {es : Array (Int × Value)} {ep : Nat} {t : SetTable}
theorem entries_len (es : Array (Int × Value)) (L : Keyed) (h : es.toList = entries P w L) : es.size = L.length := by
  rw [← Array.length_toList, h]
  exact List.length_map _
theorem hashes_len : (hashes P w L).length = L.length := List.length_map _
theorem Held.size {h : Heap} (R : Held P w h a L es ep t) : es.size = L.length := entries_len es L R.ent
theorem Held.placed {h : Heap} (R : Held P w h a L es ep t) : t.place.size = L.length := by rw [R.tab.sz, hashes_len]
theorem Held.fits {h : Heap} (R : Held P w h a L es ep t) : t.fits es.size = true := by
  have e1 := R.placed
  have e2 := R.size
  have e3 := R.room
  have e4 : t.dummies.size = 0 := by rw [R.tab.dm]; rfl
  have e5 : t.place.size + t.dummies.size ≤ t.mask := by omega
  have e6 : t.place.size = es.size := by omega
  unfold SetTable.fits
  rw [e6, beq_self_eq_true, Bool.true_and]
  exact decide_eq_true e5
theorem Held.at_ {h : Heap} (R : Held P w h a L es ep t) {i : Nat} {p : Addr × List Str} (e : L[i]? = some p) : es[i]? = some (txHash P w p.2, Value.ref p.1) := by
  have q : es.toList[i]? = some (txHash P w p.2, Value.ref p.1) := by
    rw [R.ent]
    unfold entries
    rw [List.getElem?_map, e]
    rfl
  rwa [Array.getElem?_toList] at q
theorem Held.stays {h : Heap} (R : Held P w h a L es ep t) : t.gaveWay = false := by
  have q := mask_odd R.tab.mok
  unfold SetTable.gaveWay
  rw [q]
  rfl
theorem tx_search (R : Held P w s.heap a L es ep t) {x : Addr} {k : List Str} (tx : Tx P w s.heap k x) (hu : A.units < cLine) {K : Nat} (bound : K < 10 * SetTable.turns t.mask)
    (free : way t.mask (txHash P w k) K ∉ t.place.toList) (taken : ∀ c, c < K → way t.mask (txHash P w k) c ∈ t.place.toList) {Q : SetFound → Shared → Prop}
    (yes : k ∈ L.map (·.2) → Q (.there none) s) (no : k ∉ L.map (·.2) → Q (.free (way t.mask (txHash P w k) K) false) s) (f : Nat) :
    ∀ (c : Nat) (stand : Option SetTable.Probe), stand.getD (t.probeStart (txHash P w k)) = nth t.mask (begin_ t.mask (txHash P w k)) c → c ≤ K → K - c < f →
      (∀ (i : Nat) p, L[i]? = some p → p.2 = k → ∃ c2, c ≤ c2 ∧ c2 < K ∧ t.place.toList[i]? = some (way t.mask (txHash P w k) c2)) →
      wpAny (model P w) A (setSearchFrom a (.ref x) (txHash P w k) true f stand) Q E s := by
  induction f with
  | zero => exact fun c stand _ _ less => absurd less (Nat.not_lt_zero _)
  | succ f ih =>
    intro c stand from_ le less ahead
    obtain ⟨o, obj, exact_, dat⟩ := R.obj
    have go : ∀ q, nth t.mask (nth t.mask (begin_ t.mask (txHash P w k)) c) q = nth t.mask (begin_ t.mask (txHash P w k)) (c + q) := fun q => (nth_add t.mask c _ q).symm
    have spot : ∀ q, (nth t.mask (nth t.mask (begin_ t.mask (txHash P w k)) c) q).j = way t.mask (txHash P w k) (c + q) := fun q => congrArg (fun z => SetTable.Probe.j z) (go q)
    have last : way t.mask (txHash P w k) (c + (K - c)) = way t.mask (txHash P w k) K := by rw [show c + (K - c) = K by omega]
    have stored : ∀ (i : Nat) p, L[i]? = some p → (es[i]?.map (·.1)).getD 0 = txHash P w p.2 := fun i p e => by rw [R.at_ e]; rfl
    have told := go_spec t R.tab.ris R.tab.dm (fun i => (es[i]?.map (·.1)).getD 0) (txHash P w k) (10 * SetTable.turns t.mask) (K - c) (nth t.mask (begin_ t.mask (txHash P w k)) c) (no_dummy _ _ _ rfl) (by omega)
      (fun q lq => by rw [spot]; exact taken _ (by omega)) (by rw [spot, last]; exact free)
    rw [setSearchFrom_succ]
    apply wpAny_bind
    apply wpAny_setState_of obj dat R.fits
    dsimp only
    apply wp_if_neg (by rw [R.stays]; decide)
    try apply wpAny_bind (wpAny_pure _)
    rw [from_]
    rcases told with ⟨q, i, lq, at_i, same, before, met⟩ | ⟨none_, met⟩
    case inr =>
      rw [spot, last] at met
      have met2 : t.probe (fun i => (es[i]?.map (·.1)).getD 0) (txHash P w k) (nth t.mask (begin_ t.mask (txHash P w k)) c) = some (.empty (way t.mask (txHash P w k) K) none) := met
      rw [met2]
      dsimp only
      refine wpAny_pure (no fun hm => ?_)
      obtain ⟨p, hp, e⟩ := List.mem_map.mp hm
      obtain ⟨i, hi, ei⟩ := List.getElem_of_mem hp
      have li : L[i]? = some p := by rw [List.getElem?_eq_getElem hi, ei]
      obtain ⟨c2, l1, l2, l3⟩ := ahead i p li e
      refine none_ (c2 - c) i (by omega) (by rw [spot, show c + (c2 - c) = c2 by omega]; exact l3) ?_
      rw [stored i p li, e]
    rw [spot, go] at met
    rw [spot] at at_i
    have met2 : t.probe (fun i => (es[i]?.map (·.1)).getD 0) (txHash P w k) (nth t.mask (begin_ t.mask (txHash P w k)) c) = some (.candidate (way t.mask (txHash P w k) (c + q)) i (nth t.mask (begin_ t.mask (txHash P w k)) (c + (q + 1)))) := met
    rw [met2]
    dsimp only
    have il : i < L.length := by
      have z := (List.getElem?_eq_some_iff.mp at_i).1
      rw [Array.length_toList, R.placed] at z
      exact z
    obtain ⟨p, li⟩ : ∃ p, L[i]? = some p := ⟨_, List.getElem?_eq_getElem il⟩
    have pm := List.mem_of_getElem? li
    have live : t.slot (way t.mask (txHash P w k) (c + q)) = .live i := slot_live R.tab.ris at_i
    have rest : wpAny (model P w) A (searchRest a (.ref x) (txHash P w k) true f es t (way t.mask (txHash P w k) (c + q)) i (nth t.mask (begin_ t.mask (txHash P w k)) (c + (q + 1)))) Q E s := by
      unfold searchRest
      rw [R.at_ li]
      dsimp only
      apply wpAny_bind
      apply wpAny_holding
      apply wpAny_eqBool_tuple hu (R.txt p pm) tx
      apply wpAny_bind
      apply wpAny_setState_of obj dat R.fits
      dsimp only
      by_cases eq_ : p.2 = k
      · exact wp_if_pos (by simp [eq_]) (wpAny_pure (yes (List.mem_map.mpr ⟨p, pm, eq_⟩)))
      apply wp_if_neg (by simp [eq_])
      try apply wpAny_bind (wpAny_pure _)
      rw [sameMem]
      dsimp only
      simp only [if_true, live, R.at_ li]
      apply wpAny_bind
      apply wpAny_isSame_ref_self
      apply wpAny_bind
      apply wpAny_pure
      simp only [if_true]
      apply wp_if_neg (by simp [eq_])
      refine ih (c + (q + 1)) _ rfl (by omega) (by omega) fun i2 p2 li2 e2 => ?_
      obtain ⟨c2, l1, l2, l3⟩ := ahead i2 p2 li2 e2
      refine ⟨c2, ?_, l2, l3⟩
      rcases Nat.lt_trichotomy c2 (c + q) with z | z | z
      · exact absurd ((stored i2 p2 li2).trans (by rw [e2])) (before (c2 - c) i2 (by omega) (by rw [spot, show c + (c2 - c) = c2 by omega]; exact l3))
      · rw [z] at l3
        have twice := slot_live R.tab.ris l3
        rw [live] at twice
        cases twice
        rw [li] at li2
        cases li2
        exact absurd e2 eq_
      · omega
    by_cases ld : t.led = true
    · apply wp_if_neg (by simp [ld])
      try apply wpAny_bind (wpAny_pure _)
      exact rest
    · apply wp_if_pos (by simp [ld])
      apply wpAny_bind
      refine tx_unseen tx (fun y hy => ?_) ?_
      · obtain ⟨e, he, rfl⟩ := List.mem_map.mp hy
        have he : e ∈ es := by simp at he; exact he.1
        have he : e ∈ es.toList := by simpa using he
        rw [R.ent] at he
        obtain ⟨p2, hp2, rfl⟩ := List.mem_map.mp he
        exact ⟨p2.2, p2.1, rfl, R.txt p2 hp2⟩
      · apply wp_if_neg (by decide)
        try apply wpAny_bind (wpAny_pure _)
        exact rest
end
end Dl

/-! sets of tuples of texts: one more -/
namespace Dl
open PySem PySem.Spec PyProof.Rows L2
theorem put_in_perm {α : Type} (l : List α) (n : Nat) (x : α) : (l.take n ++ x :: l.drop n).Perm (x :: l) := by
  have q : (l.take n ++ x :: l.drop n).Perm (x :: (l.take n ++ l.drop n)) := List.perm_middle
  rwa [List.take_append_drop] at q
section
variable {P : Program} {w : World} {A : Around} {E : Value → Shared → Prop} {s : Shared} {a : Addr} {L : Keyed} {es : Array (Int × Value)} {ep : Nat} {t : SetTable}
theorem Tx.but {h h' : Heap} {k : List Str} {b : Addr} {o : Obj} (tx : Tx P w h k b) (obj : h.get? a = some o) (dat : o.data = .set es ep t) (same : Heap.SameBut a h h') : Tx P w h' k b := by
  obtain ⟨o2, items, n, obj2, cls2, dat2, its⟩ := tx
  have ne : b ≠ a := fun e => by
    rw [e, obj] at obj2
    cases obj2
    rw [dat] at dat2
    cases dat2
  exact ⟨o2, items, n, (same.2 b ne).trans obj2, cls2, dat2, its⟩
/-- the entries in another order -/
theorem reorder (order : Array Nat) (ent : es.toList = entries P w L) (perm : order.toList.Perm (List.range L.length)) :
    ∃ L2 : Keyed, (order.filterMap (es[·]?)).toList = entries P w L2 ∧ L2.Perm L ∧ hashes P w L2 = order.toList.map fun i => (es.map (·.1)).getD i 0 := by
  have len := entries_len es L ent
  have at_ : ∀ (i : Nat) (p : Addr × List Str), L[i]? = some p → es[i]? = some (txHash P w p.2, Value.ref p.1) := fun i p e => by
    rw [← Array.getElem?_toList, ent]
    unfold entries
    rw [List.getElem?_map, e]
    rfl
  have step : ∀ l : List Nat, (∀ i ∈ l, i < L.length) → l.filterMap (fun i => es[i]?) = entries P w (l.filterMap fun i => L[i]?) ∧ hashes P w (l.filterMap fun i => L[i]?) = l.map fun i => (es.map (·.1)).getD i 0 := by
    intro l
    induction l with
    | nil => exact fun _ => ⟨rfl, rfl⟩
    | cons i l ih =>
      intro all
      have lt := all i (List.mem_cons_self ..)
      obtain ⟨i1, i2⟩ := ih fun j hj => all j (List.mem_cons_of_mem _ hj)
      have li : L[i]? = some L[i] := List.getElem?_eq_getElem lt
      have e := at_ i _ li
      rw [List.filterMap_cons_some e, List.filterMap_cons_some li, i1]
      refine ⟨rfl, ?_⟩
      show txHash P w (L[i]).2 :: hashes P w (l.filterMap fun i => L[i]?) = _
      rw [i2, List.map_cons]
      congr 1
      simp [Array.getD_eq_getD_getElem?, Array.getElem?_map, e]
  obtain ⟨s1, s2⟩ := step order.toList fun i hi => List.mem_range.mp (perm.mem_iff.mp hi)
  refine ⟨order.toList.filterMap fun i => L[i]?, by rw [Array.toList_filterMap]; exact s1, ?_, s2⟩
  have whole : ∀ n, n ≤ L.length → (List.range n).filterMap (fun i => L[i]?) = L.take n := by
    intro n
    induction n with
    | zero => exact fun _ => rfl
    | succ n ih =>
      intro le
      have lt : n < L.length := le
      have li : L[n]? = some L[n] := List.getElem?_eq_getElem lt
      rw [List.range_succ, List.filterMap_append, ih (Nat.le_of_lt lt), List.take_succ, li]
      rw [List.filterMap_cons_some li]
      rfl
  have q := perm.filterMap fun i => L[i]?
  rw [whole L.length (Nat.le_refl _), List.take_length] at q
  exact q
/-- a larger table -/
theorem tx_relay {o : Obj} (obj : s.heap.get? a = some o) (exact_ : o.ExactSet) (dat : o.data = .set es ep t) (ent : es.toList = entries P w L) (tab : _root_.L2.TabOk t (hashes P w L)) (fit : L.length ≤ t.mask) (once : (L.map (·.2)).Nodup) (txt : ∀ p ∈ L, Tx P w s.heap p.2 p.1)
    (led : w.params.followText "set-order" = true ∨ t.led = true) (few : L.length < 64) {wanted M : Nat} (size : SetTable.sizeAbove wanted - 1 = M) (ok : MaskOk M) (small : SetTable.sizeAbove wanted ≤ 128) (room : L.length * 5 < M * 3) {Q : Unit → Shared → Prop}
    (q : ∀ h' L' es' ep' t', Heap.SameBut a s.heap h' → Held P w h' a L' es' ep' t' → L'.Perm L → Q () { s with heap := h' }) : wpAny (model P w) A (setRelay a wanted) Q E s := by
  have len := entries_len es L ent
  have placed : t.place.size = L.length := by rw [tab.sz, hashes_len]
  have fits : t.fits es.size = true := by
    have e5 : t.place.size + t.dummies.size ≤ t.mask := by rw [tab.dm, placed]; exact fit
    unfold SetTable.fits
    rw [show t.place.size = es.size by omega, beq_self_eq_true, Bool.true_and]
    exact decide_eq_true e5
  have keys : (es.map (·.1)).size = L.length := by rw [Array.size_map, len]
  obtain ⟨t2, order, laid, perm, tab2, mask2, led2, plain2, dm2⟩ := relaid_ok t (hs := es.map (·.1)) (wanted := wanted) size ok (by rw [keys]; omega)
  rw [keys] at perm
  obtain ⟨L2, ent2, perm2, hash2⟩ := reorder order ent perm
  rw [← hash2] at tab2
  have len2 := entries_len _ L2 ent2
  have plen := perm2.length_eq
  rw [setRelay_eq]
  apply wpAny_bind
  apply wpAny_setState_of obj dat fits
  dsimp only
  apply wp_if_neg (by rw [sizeLine_eq]; omega)
  try apply wpAny_bind (wpAny_pure _)
  rw [laid]
  dsimp only
  apply wpAny_bind
  apply wp_if_neg (by rw [len2, len, plen]; simp)
  try apply wpAny_bind (wpAny_pure _)
  apply wpAny_pure
  dsimp only
  refine wpAny_storeSet_of obj dat ?_ (by rw [len2, plen, sizeLine_eq]; omega)
  have same : Heap.SameBut a s.heap (s.heap.update a (Obj.putSet (order.filterMap (es[·]?)) t2)) := Heap.SameBut.update ..
  exact q _ L2 _ (ep + 1) t2 same ⟨⟨_, store_at obj dat, ⟨exact_.1, exact_.2.1, exact_.2.2⟩, rfl⟩, ent2, tab2, (perm2.map (·.2)).nodup_iff.mpr once, fun p hp => (txt p (perm2.mem_iff.mp hp)).but obj dat same, by rw [led2]; exact led, by rw [plen, mask2]; exact room, by rw [plen]; exact few⟩ perm2
/-- the search as adding asks for it -/
theorem tx_find (R : Held P w s.heap a L es ep t) {x : Addr} {k : List Str} (tx : Tx P w s.heap k x) (hu : A.units < cLine) {Q : SetFound → Shared → Prop} (yes : k ∈ L.map (·.2) → Q (.there none) s)
    (no : ∀ K, k ∉ L.map (·.2) → way t.mask (txHash P w k) K ∉ t.place.toList → (∀ c, c < K → way t.mask (txHash P w k) c ∈ t.place.toList) → Q (.free (way t.mask (txHash P w k) K) false) s) :
    wpAny (model P w) A (setSearch a (.ref x) (txHash P w k) true) Q E s := by
  have len := R.size
  have room := R.room
  obtain ⟨K, bound, free, taken⟩ := R.tab.first (by rw [hashes_len]; omega) (txHash P w k)
  have small : K < 100000 := by
    have : 10 * SetTable.turns t.mask ≤ 1420 := by
      unfold SetTable.turns
      have := R.tab.mok
      rcases this with e | e | e <;> omega
    omega
  unfold setSearch
  refine tx_search R tx hu bound free taken yes (fun new => no K new free taken) 100000 0 none rfl (Nat.zero_le _) (by omega) fun i p li e => ?_
  have hi : (hashes P w L)[i]? = some (txHash P w k) := by
    unfold hashes
    rw [List.getElem?_map, li, ← e]
    rfl
  have lt : i < t.place.toList.length := by
    have := (List.getElem?_eq_some_iff.mp li).1
    rw [Array.length_toList, R.placed]
    exact this
  obtain ⟨c, l1, l2⟩ := R.tab.before free hi (List.getElem?_eq_getElem lt)
  exact ⟨c, Nat.zero_le _, l1, by rw [List.getElem?_eq_getElem lt, l2]⟩
/-- one more tuple -/
theorem tx_add (R : Held P w s.heap a L es ep t) {x : Addr} {k : List Str} (tx : Tx P w s.heap k x) (hu : A.units < cLine) (more : L.length + 1 < 64) {Q : Bool → Shared → Prop}
    (q : ∀ b h' L' es' ep' t', Heap.SameBut a s.heap h' → Held P w h' a L' es' ep' t' → (k ∈ L.map (·.2) → L' = L) → (k ∉ L.map (·.2) → L'.Perm ((x, k) :: L)) → Q b { s with heap := h' }) :
    wpAny (model P w) A (setAddHashed a (.ref x) (txHash P w k)) Q E s := by
  obtain ⟨o, obj, exact_, dat⟩ := R.obj
  have len := R.size
  have room := R.room
  unfold setAddHashed
  apply wpAny_holding
  rw [show (100000 : Nat) = 99999 + 1 from rfl, setAddHashedIn_succ]
  apply wpAny_bind
  apply wpAny_setState_of obj dat R.fits
  dsimp only
  apply wp_if_neg (by simp [byScan, Value.scannable])
  try refine wpAny_bind (wpAny_pure ?_)
  refine wpAny_bind (tx_find R tx hu (fun there => ?_) fun K new free taken => ?_)
  · dsimp only
    exact wpAny_pure (q false s.heap L es ep t (Heap.SameBut.refl a s.heap) R (fun _ => rfl) fun z => absurd there z)
  dsimp only
  apply wpAny_bind
  apply wpAny_setState_of obj dat R.fits
  dsimp only
  obtain ⟨q1, q2, q3, q4, q5, q6, q7, q8, q9⟩ := R.tab.put free taken
  generalize t.put (way t.mask (txHash P w k) K) = pt at q1 q3 q4 q5 q6 q7 q8 q9 ⊢
  obtain ⟨t1, n⟩ := pt
  dsimp only at q1 q3 q4 q5 q6 q7 q8 q9 ⊢
  subst q1
  have shut : _root_.L2.TabOk t1 ((hashes P w L).take (SetTable.below t.place (way t.mask (txHash P w k) K)) ++ txHash P w k :: (hashes P w L).drop (SetTable.below t.place (way t.mask (txHash P w k) K))) := q3
  generalize SetTable.below t.place (way t.mask (txHash P w k) K) = n at shut ⊢
  have perm := put_in_perm L n (x, k)
  have ent1 : (SetTable.insertAt es n (txHash P w k, Value.ref x)).toList = entries P w (L.take n ++ (x, k) :: L.drop n) := by
    rw [SetTable.toList_insertAt, R.ent]
    unfold entries
    rw [List.map_append, List.map_cons, List.map_take, List.map_drop]
  have hash1 : (hashes P w L).take n ++ txHash P w k :: (hashes P w L).drop n = hashes P w (L.take n ++ (x, k) :: L.drop n) := by
    unfold hashes
    rw [List.map_append, List.map_cons, List.map_take, List.map_drop]
  rw [hash1] at shut
  generalize SetTable.insertAt es n (txHash P w k, Value.ref x) = es1 at ent1 ⊢
  generalize L.take n ++ (x, k) :: L.drop n = L1 at perm ent1 shut
  have len1 := entries_len es1 L1 ent1
  have plen : L1.length = L.length + 1 := perm.length_eq
  have once1 : (L1.map (·.2)).Nodup := by
    refine (perm.map (·.2)).nodup_iff.mpr ?_
    rw [List.map_cons]
    exact List.nodup_cons.mpr ⟨new, R.once⟩
  rw [hashes_len] at q9
  have fin : ∀ t2 : SetTable, _root_.L2.TabOk t2 (hashes P w L1) → t2.mask = t.mask → t2.led = t.led → t2.fill = L.length + 1 → wpAny (model P w) A (do
      storeSet a es1 t2
      if (!false && t2.tooFull) = true then do
        setRelay a (SetTable.grown (es.size + 1))
        pure true
      else pure true) Q E s := by
    intro t2 tab2 mask2 led2 fill2
    refine wpAny_bind (wpAny_storeSet_of obj dat ?_ (by rw [len1, plen, sizeLine_eq]; omega))
    have same : Heap.SameBut a s.heap (s.heap.update a (Obj.putSet es1 t2)) := Heap.SameBut.update ..
    have obj1 := store_at (es' := es1) (t' := t2) obj dat
    generalize s.heap.update a (Obj.putSet es1 t2) = h1 at same obj1 ⊢
    have txt1 : ∀ p ∈ L1, Tx P w h1 p.2 p.1 := fun p hp => by
      rcases List.mem_cons.mp (perm.mem_iff.mp hp) with rfl | hp
      · exact tx.but obj dat same
      · exact (R.txt p hp).but obj dat same
    have led3 : w.params.followText "set-order" = true ∨ t2.led = true := by rw [led2]; exact R.led
    have full_iff : t2.tooFull = decide (t2.fill * 5 ≥ t2.mask * 3) := rfl
    by_cases full : t2.tooFull = true
    · apply wp_if_pos (by simp [full])
      rw [full_iff, decide_eq_true_eq, fill2, mask2] at full
      rw [len]
      have which : (t.mask = 7 ∧ L.length = 4) ∨ (t.mask = 31 ∧ L.length = 18) := by
        have := R.tab.mok
        rcases this with e | e | e <;> rw [e] at room full
        · exact .inl ⟨e, by omega⟩
        · exact .inr ⟨e, by omega⟩
        · omega
      have go : ∀ M, SetTable.sizeAbove (SetTable.grown (L.length + 1)) - 1 = M → MaskOk M → SetTable.sizeAbove (SetTable.grown (L.length + 1)) ≤ 128 → (L.length + 1) * 5 < M * 3 →
          wpAny (model P w) A (setRelay a (SetTable.grown (L.length + 1))) (fun _ s' => wpAny (model P w) A (pure true) Q E s') E { s with heap := h1 } := fun M z1 z2 z3 z4 => by
        refine tx_relay (s := { s with heap := h1 }) obj1 ⟨exact_.1, exact_.2.1, exact_.2.2⟩ rfl ent1 tab2 (by rw [plen, mask2]; omega) once1 txt1 led3 (by rw [plen]; exact more) z1 z2 z3 (by rw [plen]; exact z4) ?_
        intro h2 L2 es2 ep2 t3 same2 R2 perm2
        exact wpAny_pure (q true h2 L2 es2 ep2 t3 (same.trans same2) R2 (fun z => absurd z new) fun _ => perm2.trans perm)
      refine wpAny_bind ?_
      rcases which with ⟨_, e⟩ | ⟨_, e⟩
      · exact go 31 (by rw [e, size_20]) (.inr (.inl rfl)) (by rw [e, size_20]; decide) (by omega)
      · exact go 127 (by rw [e, size_76]) (.inr (.inr rfl)) (by rw [e, size_76]; decide) (by omega)
    · apply wp_if_neg (by simp [full])
      rw [full_iff, decide_eq_true_eq, fill2] at full
      exact wpAny_pure (q true h1 L1 es1 (ep + 1) t2 same ⟨⟨_, obj1, ⟨exact_.1, exact_.2.1, exact_.2.2⟩, rfl⟩, ent1, tab2, once1, txt1, led3, by rw [plen]; omega, by rw [plen]; exact more⟩ (fun z => absurd z new) fun _ => perm)
  by_cases pl : t1.plain = true
  · refine wp_if_pos pl (wpAny_bind (tx_byvalue tx fun c => ?_))
    cases c with
    | true => exact fin t1 shut q4 q5 q9
    | false => exact fin { t1 with plain := false } ⟨shut.ris, shut.dm, shut.sz, shut.mok, shut.bd, shut.reach⟩ q4 q5 q9
  · exact wp_if_neg pl (wpAny_bind (wpAny_pure (fin t1 shut q4 q5 q9)))
end
end Dl

/-! sets of tuples of texts: set(xs) of a list or a tuple of them -/
namespace Dl
open PySem PySem.Spec PyProof.Rows L2
/-- what the set has of the first i -/
structure Met (ks : Keyed) (i : Nat) (L : Keyed) : Prop where
  sub : ∀ p ∈ L, p ∈ ks.take i
  all : ∀ p ∈ ks.take i, p.2 ∈ L.map (·.2)
  len : L.length ≤ i
theorem take_plus {α : Type} {l : List α} {i : Nat} {x : α} (h : l[i]? = some x) : l.take (i + 1) = l.take i ++ [x] := by
  rw [List.take_succ, h]
  rfl
theorem Met.next {ks L L2 : Keyed} {i : Nat} {p : Addr × List Str} (m : Met ks i L) (at_ : ks[i]? = some p) (old : p.2 ∈ L.map (·.2) → L2 = L) (new : p.2 ∉ L.map (·.2) → L2.Perm (p :: L)) : Met ks (i + 1) L2 := by
  have t := take_plus at_
  by_cases c : p.2 ∈ L.map (·.2)
  · rw [old c]
    refine ⟨fun q hq => by rw [t]; exact List.mem_append_left _ (m.sub q hq), fun q hq => ?_, Nat.le_succ_of_le m.len⟩
    rw [t] at hq
    rcases List.mem_append.mp hq with h | h
    · exact m.all q h
    · obtain rfl := List.mem_singleton.mp h
      exact c
  · have perm := new c
    refine ⟨fun q hq => ?_, fun q hq => ?_, ?_⟩
    · rw [t]
      rcases List.mem_cons.mp (perm.mem_iff.mp hq) with rfl | h
      · exact List.mem_append_right _ (List.mem_singleton_self _)
      · exact List.mem_append_left _ (m.sub q h)
    · rw [(perm.map (·.2)).mem_iff, List.map_cons]
      rw [t] at hq
      rcases List.mem_append.mp hq with h | h
      · exact List.mem_cons_of_mem _ (m.all q h)
      · obtain rfl := List.mem_singleton.mp h
        exact List.mem_cons_self ..
    · rw [perm.length_eq]
      exact Nat.succ_le_succ m.len
section
variable {P : Program} {w : World} {A : Around} {E : Value → Shared → Prop} {s : Shared}
theorem Tx.kept {h h' : Heap} {k : List Str} {b : Addr} (tx : Tx P w h k b) (keep : ∀ c o, h.get? c = some o → h'.get? c = some o) : Tx P w h' k b := by
  obtain ⟨o, items, n, at_, rest⟩ := tx
  exact ⟨o, items, n, keep b o at_, rest⟩
theorem Held.moved {h h' : Heap} {a : Addr} {L : Keyed} {es : Array (Int × Value)} {ep : Nat} {t : SetTable} (R : Held P w h a L es ep t) (here : ∀ o, h.get? a = some o → h'.get? a = some o) (txt : ∀ p ∈ L, Tx P w h' p.2 p.1) : Held P w h' a L es ep t := by
  obtain ⟨o, at_, rest⟩ := R.obj
  exact ⟨⟨o, here o at_, rest⟩, R.ent, R.tab, R.once, txt, R.led, R.room, R.few⟩
/-- the object of a new set -/
abbrev newSet (w : World) : Obj := { cls := .type "set", dict := none, data := .set #[] 0 (.fresh 0 0 (!w.params.followText "set-order")) }
theorem held_new {h : Heap} {a : Addr} (obj : h.get? a = some (newSet w)) : Held P w h a [] #[] 0 (.fresh 0 0 (!w.params.followText "set-order")) := by
  refine ⟨⟨_, obj, ⟨rfl, rfl, rfl⟩, rfl⟩, rfl, ⟨List.Pairwise.nil, rfl, rfl, .inl rfl, fun x hx => (nomatch hx), fun i h j hi => ?_⟩, List.nodup_nil, fun p hp => (nomatch hp), ?_, (by show 0 * 5 < 7 * 3; decide), (by show 0 < 64; decide)⟩
  · simp [hashes] at hi
  · show _ ∨ (!w.params.followText "set-order") = true
    cases w.params.followText "set-order"
    · exact .inr rfl
    · exact .inl rfl
/-- the loop of set.update -/
theorem tx_loop {I S : Addr} {fp wr : List Addr} {G : Array GenState → Array GenState → Prop} {n : Nat} {Pv : Nat → Value → Prop} {St : Nat → Shared → Prop} {R : Result → Shared → Prop} (W : WalksS P w A.in1 I fp wr G n Pv St) (apart : S ∉ fp) (ks : Keyed) (size : n = ks.length) (few : ks.length < 64)
    (given : ∀ i v, Pv i v → ∃ p, ks[i]? = some p ∧ v = .ref p.1) (h0 : Heap) (txt : ∀ p ∈ ks, Tx P w h0 p.2 p.1) (newS : h0.get? S = none) (neww : ∀ b ∈ wr, h0.get? b = none) (hu : A.in1.units < cLine) (left : Nat) :
    ∀ (i : Nat) (s : Shared), n - i = left → i ≤ n → St i s → (∀ b o, h0.get? b = some o → s.heap.get? b = some o) → (∃ L es ep t, Held P w s.heap S L es ep t ∧ Met ks i L) →
      (∀ s' L es ep t, Moved (S :: wr) G s s' → Held P w s'.heap S L es ep t → Met ks n L → (∀ b o, h0.get? b = some o → s'.heap.get? b = some o) → R (.ok (.ret .none)) s') →
      codeAny (model P w) A (.builtin "set.update.loop" ⟨[.ref S, .ref I], []⟩) R s := by
  have apart2 : S ∉ wr := fun h => apart (W.sub _ h)
  have wider : ∀ b ∈ wr, b ∈ S :: wr := fun b hb => List.mem_cons_of_mem _ hb
  have over : ∀ {s1 s2 : Shared}, Moved wr G s1 s2 → (∀ b o, h0.get? b = some o → s1.heap.get? b = some o) → ∀ b o, h0.get? b = some o → s2.heap.get? b = some o := fun mv keep b o e =>
    mv.heap b o (fun hb => by rw [neww b hb] at e; cases e) (keep b o e)
  have inks : ∀ {i : Nat} {L : Keyed}, Met ks i L → ∀ p ∈ L, p ∈ ks := fun m p hp => List.mem_of_mem_take (m.sub p hp)
  induction left with
  | zero =>
    rintro i s left le st keep ⟨L, es, ep, t, held, met⟩ fin
    obtain rfl : i = n := by omega
    apply codeAny_builtin F.entry_set_update_loop
    rw [Around.under_plainId F.plain_set_update_loop _]
    change wpAny _ A.in1 (pyNext (.ref I) >>= _) _ _ s
    apply wpAny_bind
    refine W.done s _ _ st fun s2 mv => ?_
    change wpAny _ A.in1 (ret Value.none) _ _ s2
    have keep2 := over mv keep
    exact wpAny_pure (fin s2 L es ep t (mv.mono wider) (held.moved (fun o e => mv.heap S o apart2 e) fun p hp => (txt p (inks met p hp)).kept keep2) met keep2)
  | succ left ih =>
    rintro i s more le st keep ⟨L, es, ep, t, held, met⟩ fin
    have lt : i < n := by omega
    apply codeAny_builtin F.entry_set_update_loop
    rw [Around.under_plainId F.plain_set_update_loop _]
    change wpAny _ A.in1 (pyNext (.ref I) >>= _) _ _ s
    apply wpAny_bind
    refine W.item i s _ _ lt st fun v s2 hv st2 mv => ?_
    obtain ⟨p, at_, rfl⟩ := given i v hv
    have keep2 := over mv keep
    have held2 : Held P w s2.heap S L es ep t := held.moved (fun o e => mv.heap S o apart2 e) fun q hq => (txt q (inks met q hq)).kept keep2
    have tx : Tx P w s2.heap p.2 p.1 := (txt p (List.mem_of_getElem? at_)).kept keep2
    change wpAny _ A.in1 (holding [Value.ref p.1] (setAdd S (.ref p.1)) >>= _) _ _ s2
    apply wpAny_bind
    apply wpAny_holding
    unfold setAdd
    apply wpAny_holding
    apply wpAny_bind
    apply wpAny_pyHash_tuple hu tx
    refine tx_add (s := { s2 with toks := s2.toks + (p.2.length + 1) }) held2 tx hu (by have := met.len; omega) fun b h3 L3 es3 ep3 t3 same held3 old new => ?_
    have keep3 : ∀ b o, h0.get? b = some o → h3.get? b = some o := fun b o e => (same.2 b (fun z => by rw [z, newS] at e; cases e)).trans (keep2 b o e)
    refine wpAny_pure ⟨plainId_quiet F.plain_set_update_loop _, ih (i + 1) _ (by omega) lt (W.frame _ s2 _ _ st2 (Nat.le_add_right _ _) fun b hb o e => ?_) keep3 ⟨L3, es3, ep3, t3, held3, met.next at_ old new⟩ fun s4 L4 es4 ep4 t4 mv4 held4 met4 keep4 => ?_⟩
    · rw [same.2 b (fun h : b = S => apart (by rw [← h]; exact hb))]
      exact e
    · refine fin s4 L4 es4 ep4 t4 (Moved.trans W.gtrans ((mv.mono wider).then_heap (Nat.le_add_right _ _) fun b o hb e => ?_) mv4) held4 met4 keep4
      rw [same.2 b (fun h : b = S => hb (by rw [h]; exact List.mem_cons_self ..))]
      exact e
set_option maxRecDepth 100000 in
set_option maxHeartbeats 3200000 in
/-- set(xs), xs a list -/
theorem call_set_txlist {l : Addr} {items : Array Value} (ks : Keyed) {Q : Value → Shared → Prop} (calm : A.handled = none) (seq : s.heap.IsList l items) (its : items.toList = ks.map fun p => Value.ref p.1) (txt : ∀ p ∈ ks, Tx P w s.heap p.2 p.1) (few : ks.length < 64) (hu : A.units + 3 < cLine)
    (fin : ∀ (h' : Heap) (tk : Nat) L es ep t, Held P w h' s.heap.objs.size L es ep t → Met ks ks.length L → (∀ b o, s.heap.get? b = some o → h'.get? b = some o) → Q (.ref s.heap.objs.size) { s with heap := h', toks := tk }) :
    wpAny (model P w) A (call (.type "set") [.ref l]) Q E s := by
  have count : items.size = ks.length := by
    rw [← Array.length_toList, its]
    exact List.length_map _
  obtain ⟨c, tl, mro⟩ := F.called_set.mro
  have made_ := F.called_set.made
  have sub_ := F.called_set.sub
  apply wpAny_call
  apply codeAny_of_tree
  change wpAny _ _ (callAny (.type "set") _) _ _ _
  refine wpAny_pure ⟨Code.quiet_builtin _ (by decide +kernel), ?_⟩
  apply codeAny_builtin F.entry_type_call
  rw [Around.under_plain (weight_type_call_type "set" [.ref l] []) rfl]
  have k1 := F.called_set.notType
  have k2 := F.called_set.canCreate
  have k3 := F.typeCall_set_1 (.ref l)
  repeat any_goals first | assumption | wp_step
  refine codeAny_mono (code_set_led1 (.ref l) (E := E) (Q₁ := fun obj s1 => obj = .ref s.heap.objs.size ∧ s1 = { s with heap := s.heap.push (newSet w) }) ⟨rfl, rfl⟩) ?_
  intro r s1 hr
  match r, hr with
  | .error e, hr => exact hr
  | .ok (.ret obj), hr =>
    obtain ⟨rfl, rfl⟩ := hr
    have there : (s.heap.push (newSet w)).get? s.heap.objs.size = some (newSet w) := Heap.get?_push_size _ rfl
    have typ : Shared.TypeIs { s with heap := s.heap.push (newSet w) } (.ref s.heap.objs.size) "set" := ⟨_, there, rfl⟩
    have k4 := F.called_set.init.lookup
    have k5 := F.called_set.init.bind (.ref s.heap.objs.size)
    repeat any_goals first | assumption | wp_step
    refine codeAny_mono (codeAny_call_builtin (R := wants (fun r s2 => r = .none ∧ ∃ h' tk L es ep t, s2 = { s with heap := h', toks := tk } ∧ Held P w h' s.heap.objs.size L es ep t ∧ Met ks ks.length L ∧ ∀ b o, s.heap.get? b = some o → h'.get? b = some o) E) F.called_set.init.plain F.entry_set_init (check_set_init_1 typ ?_)) ?_
    · obtain ⟨⟨ocls, odict, odata, oslots⟩, at_, cls, nl, dat⟩ := seq
      simp only at cls dat
      subst cls
      subst dat
      have at2 : (s.heap.push (newSet w)).get? l = some { cls := .type "list", dict := odict, data := .seq items nl, slots := oslots } := Heap.get?_push_of_some _ at_
      have k6 := F.sub_list_set
      have k7 := F.sub_list_frozenset
      have k8 : (Value.type "list" == Value.type "dict") = false := by decide
      have seq2 : (s.heap.push (newSet w)).IsList l items := ⟨_, at2, rfl, nl, rfl⟩
      unfold Builtin.«set.__init__» noKeywords Builtin.Frozenset.updateFrom
      generalize hit : pyIter = it
      wp_walk
      subst hit
      apply wpAny_pyIter_list seq2
      apply wpAny_bind
      apply wpAny_runValue
      have old : l < s.heap.objs.size := Heap.lt_size at_
      have calm3 : A.in1.in1.in1.handled = none := by simp [calm]
      have size1 : (s.heap.push (newSet w)).objs.size = s.heap.objs.size + 1 := Heap.size_push ..
      have apart : s.heap.objs.size ∉ [(s.heap.push (newSet w)).objs.size, l] := by
        intro m
        rcases List.mem_cons.mp m with e | m
        · rw [size1] at e
          exact absurd e (Nat.ne_of_lt (Nat.lt_succ_self _))
        · rw [← List.mem_singleton.mp m] at old
          exact absurd old (Nat.lt_irrefl _)
      have given : ∀ (i : Nat) (v : Value), items[i]? = some v → ∃ p, ks[i]? = some p ∧ v = .ref p.1 := fun i v hv => by
        rw [← Array.getElem?_toList, its] at hv
        rw [List.getElem?_map] at hv
        cases q : ks[i]? with
        | none => rw [q] at hv; cases hv
        | some p => rw [q] at hv; exact ⟨p, rfl, (Option.some.inj hv).symm⟩
      have beyond : ∀ b, s.heap.objs.size ≤ b → s.heap.get? b = none := fun b hb => by
        cases q : s.heap.get? b with
        | none => rfl
        | some o => exact absurd (Heap.lt_size q) (Nat.not_lt.mpr hb)
      refine tx_loop ((Walks.list calm3 _ l (by rw [size1]; exact Nat.ne_of_lt (Nat.lt_succ_of_lt old)) items).toS) apart ks count few given s.heap txt (beyond _ (Nat.le_refl _)) (fun b hb => beyond b (by rw [List.mem_singleton.mp hb, size1]; exact Nat.le_succ _)) hu (items.size - 0) 0 _ rfl (Nat.zero_le _)
        ⟨⟨_, Heap.get?_push_size _ rfl, rfl, rfl⟩, seq2.push _⟩ (fun b o e => Heap.get?_push_of_some _ (Heap.get?_push_of_some _ e)) ⟨[], #[], 0, _, held_new (Heap.get?_push_of_some _ there), ⟨fun p hp => (nomatch hp), fun p hp => (by simp at hp), Nat.le_refl _⟩⟩ ?_
      intro s2 L es ep t mv held met keep
      obtain ⟨h2, g2, d2, tk2, os2⟩ := s2
      have e1 : g2 = s.gens := mv.gens
      have e2 : d2 = s.drawn := mv.drawn
      have e3 : os2 = s.os := mv.os
      subst e1 e2 e3
      rw [count] at met
      exact wpAny_pure (wpAny_pure ⟨rfl, h2, tk2, L, es, ep, t, rfl, held, met, keep⟩)
    · intro r2 s2 hr2
      match r2, hr2 with
      | .error e, hr2 => exact hr2
      | .ok (.ret r), hr2 =>
        obtain ⟨rfl, h2, tk2, L, es, ep, t, rfl, held, met, keep⟩ := hr2
        repeat any_goals first | assumption | wp_step
        exact fin _ _ _ _ _ _ held met keep
set_option maxRecDepth 100000 in
set_option maxHeartbeats 3200000 in
/-- set(xs), xs a tuple -/
theorem call_set_txtuple {l : Addr} {items : Array Value} (ks : Keyed) {Q : Value → Shared → Prop} (calm : A.handled = none) (seq : s.heap.IsTuple l items) (its : items.toList = ks.map fun p => Value.ref p.1) (txt : ∀ p ∈ ks, Tx P w s.heap p.2 p.1) (few : ks.length < 64) (hu : A.units + 3 < cLine)
    (fin : ∀ (h' : Heap) (tk : Nat) L es ep t, Held P w h' s.heap.objs.size L es ep t → Met ks ks.length L → (∀ b o, s.heap.get? b = some o → h'.get? b = some o) → Q (.ref s.heap.objs.size) { s with heap := h', toks := tk }) :
    wpAny (model P w) A (call (.type "set") [.ref l]) Q E s := by
  have count : items.size = ks.length := by
    rw [← Array.length_toList, its]
    exact List.length_map _
  obtain ⟨c, tl, mro⟩ := F.called_set.mro
  have made_ := F.called_set.made
  have sub_ := F.called_set.sub
  apply wpAny_call
  apply codeAny_of_tree
  change wpAny _ _ (callAny (.type "set") _) _ _ _
  refine wpAny_pure ⟨Code.quiet_builtin _ (by decide +kernel), ?_⟩
  apply codeAny_builtin F.entry_type_call
  rw [Around.under_plain (weight_type_call_type "set" [.ref l] []) rfl]
  have k1 := F.called_set.notType
  have k2 := F.called_set.canCreate
  have k3 := F.typeCall_set_1 (.ref l)
  repeat any_goals first | assumption | wp_step
  refine codeAny_mono (code_set_led1 (.ref l) (E := E) (Q₁ := fun obj s1 => obj = .ref s.heap.objs.size ∧ s1 = { s with heap := s.heap.push (newSet w) }) ⟨rfl, rfl⟩) ?_
  intro r s1 hr
  match r, hr with
  | .error e, hr => exact hr
  | .ok (.ret obj), hr =>
    obtain ⟨rfl, rfl⟩ := hr
    have there : (s.heap.push (newSet w)).get? s.heap.objs.size = some (newSet w) := Heap.get?_push_size _ rfl
    have typ : Shared.TypeIs { s with heap := s.heap.push (newSet w) } (.ref s.heap.objs.size) "set" := ⟨_, there, rfl⟩
    have k4 := F.called_set.init.lookup
    have k5 := F.called_set.init.bind (.ref s.heap.objs.size)
    repeat any_goals first | assumption | wp_step
    refine codeAny_mono (codeAny_call_builtin (R := wants (fun r s2 => r = .none ∧ ∃ h' tk L es ep t, s2 = { s with heap := h', toks := tk } ∧ Held P w h' s.heap.objs.size L es ep t ∧ Met ks ks.length L ∧ ∀ b o, s.heap.get? b = some o → h'.get? b = some o) E) F.called_set.init.plain F.entry_set_init (check_set_init_1 typ ?_)) ?_
    · obtain ⟨⟨ocls, odict, odata, oslots⟩, at_, cls, nl, dat⟩ := seq
      simp only at cls dat
      subst cls
      subst dat
      have at2 : (s.heap.push (newSet w)).get? l = some { cls := .type "tuple", dict := odict, data := .seq items nl, slots := oslots } := Heap.get?_push_of_some _ at_
      have k6 := F.sub_tuple_set
      have k7 := F.sub_tuple_frozenset
      have k8 : (Value.type "tuple" == Value.type "dict") = false := by decide
      have seq2 : (s.heap.push (newSet w)).IsTuple l items := ⟨_, at2, rfl, nl, rfl⟩
      unfold Builtin.«set.__init__» noKeywords Builtin.Frozenset.updateFrom
      generalize hit : pyIter = it
      wp_walk
      subst hit
      apply wpAny_pyIter_tuple seq2
      apply wpAny_bind
      apply wpAny_runValue
      have old : l < s.heap.objs.size := Heap.lt_size at_
      have calm3 : A.in1.in1.in1.handled = none := by simp [calm]
      have size1 : (s.heap.push (newSet w)).objs.size = s.heap.objs.size + 1 := Heap.size_push ..
      have apart : s.heap.objs.size ∉ [(s.heap.push (newSet w)).objs.size, l] := by
        intro m
        rcases List.mem_cons.mp m with e | m
        · rw [size1] at e
          exact absurd e (Nat.ne_of_lt (Nat.lt_succ_self _))
        · rw [← List.mem_singleton.mp m] at old
          exact absurd old (Nat.lt_irrefl _)
      have given : ∀ (i : Nat) (v : Value), items[i]? = some v → ∃ p, ks[i]? = some p ∧ v = .ref p.1 := fun i v hv => by
        rw [← Array.getElem?_toList, its] at hv
        rw [List.getElem?_map] at hv
        cases q : ks[i]? with
        | none => rw [q] at hv; cases hv
        | some p => rw [q] at hv; exact ⟨p, rfl, (Option.some.inj hv).symm⟩
      have beyond : ∀ b, s.heap.objs.size ≤ b → s.heap.get? b = none := fun b hb => by
        cases q : s.heap.get? b with
        | none => rfl
        | some o => exact absurd (Heap.lt_size q) (Nat.not_lt.mpr hb)
      refine tx_loop ((Walks.tuple calm3 _ l (by rw [size1]; exact Nat.ne_of_lt (Nat.lt_succ_of_lt old)) items).toS) apart ks count few given s.heap txt (beyond _ (Nat.le_refl _)) (fun b hb => beyond b (by rw [List.mem_singleton.mp hb, size1]; exact Nat.le_succ _)) hu (items.size - 0) 0 _ rfl (Nat.zero_le _)
        ⟨⟨_, Heap.get?_push_size _ rfl, rfl, rfl⟩, seq2.push _⟩ (fun b o e => Heap.get?_push_of_some _ (Heap.get?_push_of_some _ e)) ⟨[], #[], 0, _, held_new (Heap.get?_push_of_some _ there), ⟨fun p hp => (nomatch hp), fun p hp => (by simp at hp), Nat.le_refl _⟩⟩ ?_
      intro s2 L es ep t mv held met keep
      obtain ⟨h2, g2, d2, tk2, os2⟩ := s2
      have e1 : g2 = s.gens := mv.gens
      have e2 : d2 = s.drawn := mv.drawn
      have e3 : os2 = s.os := mv.os
      subst e1 e2 e3
      rw [count] at met
      exact wpAny_pure (wpAny_pure ⟨rfl, h2, tk2, L, es, ep, t, rfl, held, met, keep⟩)
    · intro r2 s2 hr2
      match r2, hr2 with
      | .error e, hr2 => exact hr2
      | .ok (.ret r), hr2 =>
        obtain ⟨rfl, h2, tk2, L, es, ep, t, rfl, held, met, keep⟩ := hr2
        repeat any_goals first | assumption | wp_step
        exact fin _ _ _ _ _ _ held met keep
end
end Dl

/-! sets of tuples of texts: sorted(set) -/
namespace Dl
open PySem PySem.Spec PyProof.Rows L2
/-- a tuple of texts as data -/
def txData (k : List Str) : PyData := .tuple (k.map PyData.str)
/-- Python's order of them -/
def txLe : List Str → List Str → Bool := PySem.W.dataLe false txData
/-- the one sorted list -/
def sortK (ks : List (List Str)) : List (List Str) := ks.mergeSort txLe
theorem toks_inj : ∀ {k l : List Str}, PySem.W.keyToksAll (k.map PyData.str) = PySem.W.keyToksAll (l.map PyData.str) → k = l
  | [], [], _ => rfl
  | [], y :: l, h => by
    rw [List.map_nil, List.map_cons, PySem.W.toks_all_cons] at h
    simp [PySem.W.keyToksAll] at h
  | x :: k, [], h => by
    rw [List.map_nil, List.map_cons, PySem.W.toks_all_cons] at h
    simp [PySem.W.keyToksAll] at h
  | x :: k, y :: l, h => by
    rw [List.map_cons, List.map_cons, PySem.W.toks_all_cons, PySem.W.toks_all_cons] at h
    simp only [PySem.W.keyToks, List.cons_append, List.nil_append, List.cons.injEq, true_and, Sum.inr.injEq] at h
    rw [Str.ext' (Array.toList_inj.mp h.1), toks_inj h.2]
theorem txLe_anti {k l : List Str} (h1 : txLe k l = true) (h2 : txLe l k = true) : k = l := by
  have e : ∀ a b : List Str, txLe a b = !PyProof.Rows.lexLt PyProof.Rows.itemOrd (PySem.W.keyToksAll (b.map PyData.str)) (PySem.W.keyToksAll (a.map PyData.str)) := fun a b => by
    show (!PyProof.Rows.lexLt PyProof.Rows.itemOrd (PySem.W.keyToks (txData b)) (PySem.W.keyToks (txData a))) = _
    simp only [txData, PySem.W.keyToks]
  rw [e, Bool.not_eq_true'] at h1 h2
  exact toks_inj (PyProof.Rows.lex_total _ _ h2 h1)
theorem txLe_trans (a b c : List Str) (h1 : txLe a b = true) (h2 : txLe b c = true) : txLe a c = true := (PySem.W.sortLe_total (PyProof.Rows.listOrd PyProof.Rows.itemOrd) false fun k => PySem.W.keyToks (txData k)).trans a b c h1 h2
theorem txLe_total (a b : List Str) : (txLe a b || txLe b a) = true := by
  rw [Bool.or_eq_true]
  exact (PySem.W.sortLe_total (PyProof.Rows.listOrd PyProof.Rows.itemOrd) false fun k => PySem.W.keyToks (txData k)).total a b
theorem sortK_perm {ks ls : List (List Str)} (h : ks.Perm ls) : sortK ks = sortK ls :=
  List.Perm.eq_of_pairwise (le := fun a b => txLe a b = true) (fun a b _ _ => txLe_anti) (List.pairwise_mergeSort txLe_trans txLe_total _) (List.pairwise_mergeSort txLe_trans txLe_total _) (((List.mergeSort_perm _ _).trans h).trans (List.mergeSort_perm _ _).symm)
/-- a permutation of a mapped list is a mapped permutation -/
theorem perm_back {α β : Type} {f : α → β} {vs ys : List β} (h : vs.Perm ys) : ∀ {L : List α}, ys = L.map f → ∃ L1 : List α, L1.Perm L ∧ vs = L1.map f := by
  induction h with
  | nil => exact fun {L} e => ⟨[], by rw [List.map_eq_nil_iff.mp e.symm], rfl⟩
  | cons x _ ih =>
    intro L e
    cases L with
    | nil => cases e
    | cons p L =>
      rw [List.map_cons] at e
      injection e with e1 e2
      obtain ⟨L1, q1, q2⟩ := ih e2
      exact ⟨p :: L1, q1.cons p, by rw [List.map_cons, e1, q2]⟩
  | swap x y l =>
    intro L e
    match L, e with
    | p :: q :: L, e =>
      rw [List.map_cons, List.map_cons] at e
      injection e with e1 e2
      injection e2 with e2 e3
      exact ⟨q :: p :: L, List.Perm.swap p q L, by rw [List.map_cons, List.map_cons, e1, e2, e3]⟩
    | [p], e => simp at e
    | [], e => cases e
  | trans _ _ ih1 ih2 =>
    intro L e
    obtain ⟨L2, q1, q2⟩ := ih2 e
    obtain ⟨L1, q3, q4⟩ := ih1 q2
    exact ⟨L1, q3.trans q1, q4⟩
theorem alike_texts : ∀ k l : List Str, PySem.W.alikeAll (k.map PyData.str) (l.map PyData.str) = true
  | [], _ => by simp [PySem.W.alikeAll]
  | _ :: _, [] => by simp [PySem.W.alikeAll]
  | x :: k, y :: l => by
    rw [List.map_cons, List.map_cons, PySem.W.alikeAll, alike_texts k l]
    simp [PySem.W.alike]
section
variable {P : Program} {w : World} {A : Around} {E : Value → Shared → Prop} {s : Shared}
theorem texts_read {h : Heap} : ∀ {k : List Str} {vs : List Value}, ItemsAre (strKind P w) k vs → ReadsAll h vs (k.map PyData.str) []
  | [], _, .nil => .nil
  | z :: k, _, .cons one rest => by
    obtain ⟨t, rfl⟩ := Value.isStrOf_shape one
    exact .cons (as := []) (bs := []) (.str z t) (texts_read rest)
theorem Tx.reads {h : Heap} {k : List Str} {b : Addr} (tx : Tx P w h k b) : Reads h (.ref b) (txData k) [] := by
  obtain ⟨o, items, n, at_, cls, dat, its⟩ := tx
  exact .tuple at_ cls dat (texts_read its)
/-- sorted(set) -/
theorem sorted_tx {a : Addr} {L : Keyed} {es : Array (Int × Value)} {ep : Nat} {t : SetTable} {Q : Value → Shared → Prop} (R : Held P w s.heap a L es ep t) (calm : A.handled = none) (hu : A.units + 10 < cLine) (full : ∀ p ∈ L, p.2 ≠ [])
    (fin : ∀ s' p (out : Array Value) (c : Nat) (L' : Keyed), (∀ b o, s.heap.get? b = some o → s'.heap.get? b = some o) → s'.gens = s.gens → s'.os = s.os → s.heap.objs.size ≤ p → s'.heap.get? p = some (seqObj "list" out c) → out.toList = L'.map (fun q => Value.ref q.1) → L'.Perm L → L'.map (·.2) = sortK (L.map (·.2)) → Q (.ref p) s') :
    wpAny (model P w) A (call (.builtin "sorted") [.ref a]) Q E s := by
  obtain ⟨o, obj, exact_, dat⟩ := R.obj
  have size := R.size
  have few := R.few
  apply Calls.call_function_entry kind_sorted plain_sorted entry_sorted (args_sorted1 _)
  unfold Builtin.«sorted»
  apply wpAny_bind (m := checkCount "sorted" 1 1 _)
  apply wpAny_pure
  apply wpAny_bind
  refine collect_set (A := A.in1) calm ⟨o, obj, exact_.1, dat⟩ R.fits (by unfold scanBound; omega) R.tab.ris R.led fun s1 vs keep grow gens1 os1 perm => ?_
  have vals : es.toList.map (·.2) = L.map fun q => Value.ref q.1 := by
    rw [R.ent]
    unfold entries
    rw [List.map_map]
    rfl
  rw [vals] at perm
  obtain ⟨L1, perm1, rfl⟩ := perm_back perm rfl
  have len1 : L1.length = L.length := perm1.length_eq
  apply wpAny_bind
  apply wpAny_newList _ (by rw [List.length_map, sizeLine_eq]; omega)
  have newL : (s1.heap.push (seqObj "list" (L1.map fun q => Value.ref q.1).toArray 0)).get? s1.heap.objs.size = some (seqObj "list" (L1.map fun q => Value.ref q.1).toArray 0) := Heap.get?_push_size _ rfl
  have reads : ∀ q ∈ L1, Reads (s1.heap.push (seqObj "list" (L1.map fun q => Value.ref q.1).toArray 0)) (.ref q.1) (txData q.2) [] := fun q hq => ((R.txt q (perm1.mem_iff.mp hq)).kept fun b u e => Heap.get?_push_of_some _ (keep b u e)).reads (P := P) (w := w)
  have each : ∀ {R1 : Value → Addr × List Str → Prop} {M : Keyed}, (∀ q ∈ M, R1 (.ref q.1) q) → PySem.W.EachIs R1 (M.map fun q => Value.ref q.1) M := by
    intro R1 M
    induction M with
    | nil => exact fun _ => .nil
    | cons q M ih => exact fun all => .cons (all q (List.mem_cons_self ..)) (ih fun r hr => all r (List.mem_cons_of_mem _ hr))
  have alikes : PySem.W.AllAlike (L1.map fun q : Addr × List Str => txData q.2) := PySem.W.AllAlike.of (enc := fun q : Addr × List Str => txData q.2) fun q r => by
    unfold txData
    rw [PySem.W.alike]
    exact alike_texts _ _
  have sortable : PySem.W.Sortable (L1.map fun q : Addr × List Str => txData q.2) := .inl fun d hd => by
    obtain ⟨q, hq, rfl⟩ := List.mem_map.mp hd
    have ne := full q (perm1.mem_iff.mp hq)
    cases e : q.2 with
    | nil => exact absurd e ne
    | cons z r => exact ⟨PyData.str z, r.map PyData.str, rfl⟩
  have flat : ∀ q : Addr × List Str, (txData q.2).depth = 1 := fun q => by
    have z : ∀ k : List Str, PyData.depthAll (k.map PyData.str) = 0 := by
      intro k
      induction k with
      | nil => simp [PyData.depthAll]
      | cons x k ih => rw [List.map_cons, PyData.depthAll, ih]; simp [PyData.depth]
    unfold txData
    rw [PyData.depth, z]
  apply wpAny_bind
  apply wpAny_holding
  refine PySem.W.list_sort_data (s := { s1 with heap := s1.heap.push (seqObj "list" (L1.map fun q => Value.ref q.1).toArray 0) }) (R := fun v (q : Addr × List Str) => v = .ref q.1) (enc := fun q => txData q.2) (bs := L1) newL (each fun q _ => rfl) (each fun q hq => ⟨[], reads q hq, by simp⟩) alikes sortable (by rw [sizeLine_eq]; omega) (fun q _ => by rw [flat]; show A.units + 1 + 1 + 1 < cLine; omega) fun out len outs => ?_
  obtain ⟨c, at_⟩ := sortedHeap_at (vs := L1.map fun q => Value.ref q.1) (out := out.toArray) newL
  have same : ∀ {us : List Value} {M : Keyed}, PySem.W.EachIs (fun v (q : Addr × List Str) => v = .ref q.1) us M → us = M.map fun q => Value.ref q.1 := by
    intro us M h
    induction h with
    | nil => rfl
    | cons e _ ih => rw [List.map_cons, e, ih]
  have sorted_ := same outs
  have keys : (L1.mergeSort (PySem.W.dataLe false fun q : Addr × List Str => txData q.2)).map (·.2) = sortK (L.map (·.2)) := by
    rw [← sortK_perm (perm1.map (·.2))]
    exact List.map_mergeSort fun _ _ _ _ => rfl
  refine wpAny_pure ⟨_, rfl, fin _ s1.heap.objs.size out.toArray c _ (fun b u e => ?_) gens1 os1 grow at_ (by simpa using sorted_) ((List.mergeSort_perm _ _).trans perm1) keys⟩
  have q := keep b u e
  have lt := Heap.lt_size q
  change (sortedHeap (s1.heap.push (seqObj "list" (L1.map fun q => Value.ref q.1).toArray 0)) s1.heap.objs.size (L1.map fun q => Value.ref q.1) out.toArray).get? b = some u
  rw [sortedHeap_old (Nat.ne_of_lt lt) (by rw [size_push']; exact Nat.lt_succ_of_lt lt)]
  exact Heap.get?_push_of_some _ q
end
end Dl

/-! sets of tuples of texts: the rules of the layer -/
namespace Dl
open PySem PySem.Spec PyProof.Rows L2
/-- the set at a, without its tuples -/
def Held0 (P : Program) (w : World) (h : Heap) (a : Addr) (L : Keyed) : Prop := ∃ (es : Array (Int × Value)) (ep : Nat) (t : SetTable), (∃ o, h.get? a = some o ∧ o.ExactSet ∧ o.data = .set es ep t) ∧ es.toList = entries P w L ∧ _root_.L2.TabOk t (hashes P w L) ∧ (L.map (·.2)).Nodup ∧
  (w.params.followText "set-order" = true ∨ t.led = true) ∧ L.length * 5 < t.mask * 3 ∧ L.length < 64
def SetTx (P : Program) (w : World) (a : Addr) (L : Keyed) : HO := .ext fun h => Held0 P w h a L
theorem Held.bare {P : Program} {w : World} {h : Heap} {a : Addr} {L : Keyed} {es : Array (Int × Value)} {ep : Nat} {t : SetTable} (R : Held P w h a L es ep t) : Held0 P w h a L := ⟨es, ep, t, R.obj, R.ent, R.tab, R.once, R.led, R.room, R.few⟩
theorem setTx_new {P : Program} {w : World} {H : Hp} {h : Heap} {a : Addr} {L : Keyed} (R : Held0 P w h a L) : ObjOk P w H h a (SetTx P w a L) := by
  have ⟨es, ep, t, ⟨o, at_, more⟩, rest⟩ := R
  refine ⟨R, ⟨o, at_⟩, fun h1 h2 R1 keep => ?_⟩
  have ⟨es1, ep1, t1, ⟨o1, at1, more1⟩, rest1⟩ := (R1 : Held0 P w h1 a L)
  exact ⟨es1, ep1, t1, ⟨o1, keep o1 at1, more1⟩, rest1⟩
theorem items_tx {P : Program} {w : World} : ∀ {k : List Str} {us : List Value}, Vals (k.map V.str) us → ItemsAre (strKind P w) k us
  | [], _, .nil => .nil
  | z :: k, _, .cons r t => by
    obtain ⟨tk, rfl⟩ := r
    refine .cons ?_ (items_tx t)
    show Value.isStrOf z (.str z tk) = true
    simp [Value.isStrOf]
theorem refs_tx : ∀ {ks : Keyed} {us : List Value}, Vals (ks.map fun p => V.ref p.1) us → us = ks.map fun p => Value.ref p.1
  | [], _, .nil => rfl
  | p :: ks, _, .cons r t => by
    cases r
    rw [refs_tx t]
    rfl
theorem vals_tx : ∀ ks : Keyed, Vals (ks.map fun p => V.ref p.1) (ks.map fun p => Value.ref p.1)
  | [] => .nil
  | _ :: ks => .cons rfl (vals_tx ks)
section
variable {X : Cx}
theorem tx_of {pins : List (Addr × Obj)} {σ : L2.St} {H : Hp} {s : Shared} {b : Addr} {k : List Str} (I : Inv X pins σ H s) (h : SqT X.K H b (k.map V.str)) : Tx X.prog X.w s.heap k b := by
  obtain ⟨its, r, ⟨o, at_, cls, n, dat⟩, _⟩ := I.tuple h
  exact ⟨o, its.toArray, n, at_, cls, dat, by simpa using items_tx r⟩
/-- set(xs), xs a list or a tuple of tuples of texts -/
def rSetTx (K : PySem.W.Frag) (P : Program) (w : World) : List V → Hp → VK → Prop := fun xs H Q => ∃ (l : Addr) (ks : Keyed), xs = [V.ref l] ∧ (SqL K H l (ks.map fun p => V.ref p.1) ∨ SqT K H l (ks.map fun p => V.ref p.1)) ∧ (∀ p ∈ ks, SqT K H p.1 (p.2.map V.str)) ∧ ks.length < 64 ∧
  ∀ a (L : Keyed), H a = none → (∀ p ∈ L, p ∈ ks) → (∀ p ∈ ks, p.2 ∈ L.map (·.2)) → (L.map (·.2)).Nodup → Q (.ref a) (upd H a (SetTx P w a L))
theorem cr_setTx (calm : X.calm = true) (hu : X.A.units + 64 < cLine) : CallR X (.type "set") (rSetTx X.K X.prog X.w) := by
  intro pins s σ H xs us Q I r h
  obtain ⟨l, ks, rfl, seq, txt, few, q⟩ := h
  rw [Vals.ref1 r]
  have new : H s.heap.objs.size = none := I.hok.fresh (Nat.le_refl _)
  have all := fun p (hp : p ∈ ks) => tx_of I (txt p hp)
  have fin : ∀ (h' : Heap) (tk : Nat) L es ep t, Held X.prog X.w h' s.heap.objs.size L es ep t → Met ks ks.length L → (∀ b o, s.heap.get? b = some o → h'.get? b = some o) → EP X pins σ Q (.ref s.heap.objs.size) { s with heap := h', toks := tk } := fun h' tk L es ep t R met keep =>
    ⟨.ref s.heap.objs.size, upd H s.heap.objs.size (SetTx X.prog X.w s.heap.objs.size L), I.laid (t' := tk) keep (Nat.le_refl _) (setTx_new R.bare), rfl, q _ L new (fun p hp => List.mem_of_mem_take (met.sub p hp)) (fun p hp => met.all p (by rw [List.take_length]; exact hp)) R.once⟩
  rcases seq with seq | seq
  · obtain ⟨its, rv, pl, hz⟩ := I.list seq
    exact call_set_txlist (P := X.prog) (w := X.w) ks (I.ok.hd calm) pl.isList (by simpa using refs_tx rv) all few (by omega) fin
  · obtain ⟨its, rv, pl, hz⟩ := I.tuple seq
    exact call_set_txtuple (P := X.prog) (w := X.w) ks (I.ok.hd calm) pl (by simpa using refs_tx rv) all few (by omega) fin
/-- sorted(set) -/
def rSortTx (K : PySem.W.Frag) (P : Program) (w : World) : List V → Hp → VK → Prop := fun vs H Q => ∃ (a : Addr) (L : Keyed), vs = [V.ref a] ∧ H a = some (SetTx P w a L) ∧ (∀ p ∈ L, SqT K H p.1 (p.2.map V.str)) ∧ (∀ p ∈ L, p.2 ≠ []) ∧
  ∀ (L' : Keyed) (p : Addr), L'.Perm L → L'.map (·.2) = sortK (L.map (·.2)) → L'.length < 64 → H p = none → Q (.ref p) (upd H p (.lst (L'.map fun q => V.ref q.1)))
theorem cr_sortTx (calm : X.calm = true) (hu : X.A.units + 64 < cLine) : CallR X (.builtin "sorted") (rSortTx X.K X.prog X.w) := by
  intro pins s σ H vs us Q I r h
  obtain ⟨a, L, rfl, here, txt, full, q⟩ := h
  obtain ⟨es, ep, t, h1, h2, h3, h4, h5, h6, h7⟩ := ((I.hok a _ here).1 : Held0 X.prog X.w s.heap a L)
  have R : Held X.prog X.w s.heap a L es ep t := ⟨h1, h2, h3, h4, fun p hp => tx_of I (txt p hp), h5, h6, h7⟩
  rw [Vals.ref1 r]
  refine sorted_tx R (I.ok.hd calm) (by omega) full fun s' p out c L' keep gens_ os_ up at_ outs perm keys => ?_
  have few : L'.length < 64 := by rw [perm.length_eq]; exact h7
  have new : H p = none := I.hok.fresh up
  have J : Inv X pins σ (upd H p (.lst (L'.map fun q => V.ref q.1))) { s with heap := s'.heap, gens := s'.gens, drawn := s'.drawn, toks := s'.toks } :=
    I.call (ch := []) (Un.laid keep up new) (I.hok.laid keep up ⟨by rw [List.length_map, sizeLine_eq]; omega, out.toList, c, by rw [outs]; exact vals_tx L', at_⟩) (by rw [gens_]; exact I.bare) (fun _ z => nomatch z)
  have whole : s' = { s with heap := s'.heap, gens := s'.gens, drawn := s'.drawn, toks := s'.toks } := by
    cases s'
    cases s
    cases os_
    rfl
  rw [whole]
  exact ⟨.ref p, _, J, rfl, q L' p perm keys few new⟩
end
/-- each once -/
def onceK : List (List Str) → List (List Str)
  | [] => []
  | k :: r => if k ∈ r then onceK r else k :: onceK r
theorem mem_once {k : List Str} : ∀ {ks : List (List Str)}, k ∈ onceK ks ↔ k ∈ ks
  | [] => Iff.rfl
  | l :: r => by
    unfold onceK
    by_cases h : l ∈ r
    · rw [if_pos h, mem_once, List.mem_cons]
      exact ⟨.inr, fun q => q.elim (fun e => e ▸ h) id⟩
    · rw [if_neg h, List.mem_cons, List.mem_cons, mem_once]
theorem nodup_once : ∀ {ks : List (List Str)}, (onceK ks).Nodup
  | [] => List.nodup_nil
  | l :: r => by
    unfold onceK
    by_cases h : l ∈ r
    · rw [if_pos h]
      exact nodup_once
    · rw [if_neg h]
      exact List.nodup_cons.mpr ⟨fun q => h (mem_once.mp q), nodup_once⟩
/-- what sorted(set(..)) gives, by the keys alone -/
def normK (ks : List (List Str)) : List (List Str) := sortK (onceK ks)
theorem norm_of {ks L : List (List Str)} (once : L.Nodup) (sub : ∀ k ∈ L, k ∈ ks) (all : ∀ k ∈ ks, k ∈ L) : sortK L = normK ks := by
  refine sortK_perm ((List.perm_ext_iff_of_nodup once nodup_once).mpr fun k => ?_)
  rw [mem_once]
  exact ⟨sub k, all k⟩
theorem norm_same {ks ls : List (List Str)} (h : ∀ k, k ∈ ks ↔ k ∈ ls) : normK ks = normK ls :=
  norm_of nodup_once (fun k hk => (h k).mp (mem_once.mp hk)) fun k hk => mem_once.mpr ((h k).mpr hk)
theorem mem_norm {k : List Str} {ks : List (List Str)} : k ∈ normK ks ↔ k ∈ ks := by
  unfold normK sortK
  rw [List.mem_mergeSort, mem_once]
theorem nodup_norm {ks : List (List Str)} : (normK ks).Nodup := (List.mergeSort_perm _ _).nodup_iff.mpr nodup_once
end Dl

/-! sorted(a list of tuples of texts): my own rule -/
namespace Dl
open PySem PySem.Spec PyProof.Rows L2
section
variable {X : Cx}
def rSortTxL (K : PySem.W.Frag) : List V → Hp → VK → Prop := fun vs H Q => ∃ (l : Addr) (ks : Keyed), vs = [V.ref l] ∧ SqL K H l (ks.map fun p => V.ref p.1) ∧ (∀ p ∈ ks, SqT K H p.1 (p.2.map V.str)) ∧ (∀ p ∈ ks, p.2 ≠ []) ∧ ks.length < 64 ∧
  ∀ (L' : Keyed) (p : Addr), L'.Perm ks → L'.map (·.2) = sortK (ks.map (·.2)) → H p = none → Q (.ref p) (upd H p (.lst (L'.map fun q => V.ref q.1)))
theorem each_of {R1 : Value → Addr × List Str → Prop} : ∀ {M : Keyed}, (∀ q ∈ M, R1 (.ref q.1) q) → PySem.W.EachIs R1 (M.map fun q => Value.ref q.1) M
  | [], _ => .nil
  | q :: M, all => .cons (all q (List.mem_cons_self ..)) (each_of fun r hr => all r (List.mem_cons_of_mem _ hr))
theorem each_back : ∀ {us : List Value} {M : Keyed}, PySem.W.EachIs (fun v (q : Addr × List Str) => v = Value.ref q.1) us M → us = M.map fun q => Value.ref q.1
  | _, _, .nil => rfl
  | _, _, .cons e r => by rw [List.map_cons, e, each_back r]
theorem cr_sortTxL (hu : X.A.units + 64 < cLine) : CallR X (.builtin "sorted") (rSortTxL X.K) := by
  intro pins s σ H vs us Q I r h
  obtain ⟨l, ks, rfl, seq, txt, full, few, q⟩ := h
  obtain ⟨its, rv, pl, hz⟩ := I.list seq
  have eits := refs_tx rv
  subst eits
  rw [Vals.ref1 r]
  have reads : ∀ p ∈ ks, Reads s.heap (.ref p.1) (txData p.2) [] := fun p hp => (tx_of I (txt p hp)).reads (P := X.prog) (w := X.w)
  have alikes : PySem.W.AllAlike (ks.map fun q : Addr × List Str => txData q.2) := PySem.W.AllAlike.of (enc := fun q : Addr × List Str => txData q.2) fun q r => by
    unfold txData
    rw [PySem.W.alike]
    exact alike_texts _ _
  have sortable : PySem.W.Sortable (ks.map fun q : Addr × List Str => txData q.2) := .inl fun d hd => by
    obtain ⟨q, hq, rfl⟩ := List.mem_map.mp hd
    have ne := full q hq
    cases e : q.2 with
    | nil => exact absurd e ne
    | cons z r => exact ⟨PyData.str z, r.map PyData.str, rfl⟩
  have flat : ∀ k : List Str, (txData k).depth ≤ 1 := fun k => by
    unfold txData
    rw [PyData.depth, depthAll_strs]
    omega
  refine PySem.W.sorted_data (R := fun v (q : Addr × List Str) => v = Value.ref q.1) (enc := fun q : Addr × List Str => txData q.2) (bs := ks) pl.isList (each_of fun q _ => rfl) (each_of fun p hp => ⟨[], reads p hp⟩) alikes sortable (by rw [sizeLine_eq]; omega) (fun b _ => by have := flat b.2; omega) fun out len outs => ?_
  obtain ⟨c, at_⟩ := sortedAll_at s.heap (ks.map fun p => Value.ref p.1) (List.toArray out)
  have eo := each_back outs
  have perm := List.mergeSort_perm ks (PySem.W.dataLe false fun q : Addr × List Str => txData q.2)
  have keys : (ks.mergeSort (PySem.W.dataLe false fun q : Addr × List Str => txData q.2)).map (·.2) = sortK (ks.map (·.2)) := List.map_mergeSort fun _ _ _ _ => rfl
  have new : H (s.heap.objs.size + 1) = none := I.hok.fresh (Nat.le_succ _)
  have J : Inv X pins σ (upd H (s.heap.objs.size + 1) (.lst ((ks.mergeSort (PySem.W.dataLe false fun q : Addr × List Str => txData q.2)).map fun q => V.ref q.1))) { s with heap := sortedAll s.heap (ks.map fun p => Value.ref p.1) (List.toArray out) } :=
    I.laid (t' := s.toks) (fun b o e => sortedAll_old e) (Nat.le_succ _) ⟨by rw [List.length_map, perm.length_eq, sizeLine_eq]; omega, out, c, by rw [eo]; exact vals_tx _, by simpa using at_⟩
  exact ⟨.ref (s.heap.objs.size + 1), _, J, rfl, q _ _ perm keys new⟩
end
end Dl

/-! dicts whose keys are tuples of texts: set in a display, setdefault, update: my own rules -/
namespace Dl
open PySem PySem.Spec PyProof.Rows L2
theorem dt_put {X : Cx} {pins : List (Addr × Obj)} {σ : L2.St} {H : Hp} {s : Shared} {D b : Addr} {kvs : List (List Key × V)} {k : List Key} {v : V} {r : Value} {h' : Heap} {t' : Nat} {xs : List (List Key × Addr × Value)} (I : Inv X pins σ H s) (hD : H D = some (.dT kvs)) (hb : H b = some (.tup (k.map kV))) (hd : (D == sysModules) = false) (rel : KT H kvs xs) (rv : RelV v r) (hl : (putK kvs k v).length ≤ sizeLine)
    (dd' : h'.DictOfH (tupleKind (mixKind X.prog X.w)) D (storedH xs k b r)) (hs : Heap.SameBut D s.heap h') : Inv X pins σ (upd H D (.dT (putK kvs k v))) { s with heap := h', toks := t' } := by
  obtain ⟨q, es, ep, hq, h2, h3, h4, _, h5⟩ := dd'
  refine d_write I (by rw [hD]; exact True.intro) hs ⟨q, hq⟩ ⟨hl, hd, _, (rel.put k hb rv).keeps fun c ys ec => ?_, q, es, ep, hq, h2, h3, h4, h5⟩
  rw [upd_ne (ne_of ec hD (fun z => nomatch z))]
  exact ec
theorem d_dictSetT {X : Cx} {pins : List (Addr × Obj)} {σ : L2.St} {H : Hp} {s : Shared} {E : Value → Shared → Prop} {D b : Addr} {kvs : List (List Key × V)} {k : List Key} {v : V} {u r : Value} {Q : Unit → Shared → Prop} {A : Around} (hu : A.units < cLine) (I : Inv X pins σ H s) (hD : H D = some (.dT kvs)) (hb : H b = some (.tup (k.map kV))) (hz : kvs.length < sizeLine)
    (ry : RelV (.ref b) u) (rv : RelV v r) (h : ∀ s', Inv X pins σ (upd H D (.dT (putK kvs k v))) s' → Q () s') : wpAny (model X.prog X.w) A (dictSet D u r) Q E s := by
  cases (show u = Value.ref b from ry)
  obtain ⟨z, hd, xs, rel, dd⟩ := dt_of I.hok hD
  have hz2 : xs.length ≤ sizeLine := by rw [← Paired.length rel]; exact z
  have hl : (putK kvs k v).length ≤ sizeLine := by have := length_putK kvs k v; omega
  exact wpAny_dictSet_heap (hsz := hz2) (show (tupleKind (mixKind X.prog X.w)).room A from hu) (key_of I.hok hb) dd fun h' dd' hs => h _ (dt_put I hD hb hd rel rv hl dd' hs)
section
variable {X : Cx}
/-- d.setdefault(k, v) -/
def rSetDefT : V → List V → Hp → VK → Prop := fun x xs H Q => ∃ (a : Addr) (kvs : List (List Key × V)) (k : List Key) (b : Addr) (d : V), x = .ref a ∧ xs = [.ref b, d] ∧ H a = some (.dT kvs) ∧ H b = some (.tup (k.map kV)) ∧ kvs.length < sizeLine ∧
  (∀ v, valV kvs k = some v → Q v H) ∧ (valV kvs k = none → Q d (upd H a (.dT (putK kvs k d))))
theorem mt_setdefT (hu : X.A.units + 1 < cLine) : MtR X "dict.setdefault" rSetDefT := by
  intro pins s σ H x xs v us Q I rx rxs h
  obtain ⟨a, kvs, k, b, d, rfl, rfl, ha, hb, few, q1, q2⟩ := h
  cases rx
  obtain ⟨u1, u2, rfl, r1, r2⟩ := vals2 rxs
  cases r1
  obtain ⟨z, hd, xs', rel, dd⟩ := dt_of I.hok ha
  have hz : xs'.length ≤ sizeLine := by rw [← Paired.length rel]; exact z
  have hl : (putK kvs k d).length ≤ sizeLine := by have := length_putK kvs k d; omega
  refine call_setdefault_heap (knd := tupleKind (mixKind X.prog X.w)) (k := k) (hsz := hz) (tupleKind_room_in1 hu) (key_of I.hok hb) hd dd (fun p hp => ?_) fun hn h' dd' hs => ?_
  · have r := rel.val k
    rw [hp] at r
    cases ev : valV kvs k with
    | none => rw [ev] at r; exact (show False from r).elim
    | some v0 => rw [ev] at r; exact ⟨v0, H, I.tok _, r, q1 v0 ev⟩
  · have r := rel.val k
    rw [hn] at r
    have e : valV kvs k = none := by
      cases ev : valV kvs k with
      | none => rfl
      | some v0 => rw [ev] at r; exact (show False from r).elim
    exact ⟨d, _, dt_put I ha hb hd rel r2 hl dd' hs, r2, q2 e⟩
/-- {k: v} with a tuple as the key -/
def tDisp1T (tk tv : TE) : TE := fun σ H Q => ∀ p, H p = none → tk σ (upd H p (.dT [])) fun x H1 => tv σ H1 fun y H2 => H2 p = some (.dT []) ∧ ∃ k b, x = .ref b ∧ H2 b = some (.tup (k.map kV)) ∧ Q (.ref p) (upd H2 p (.dT [(k, y)]))
theorem pe_disp1T {pos : Pos} {ke ve : Expr} {tk tv : TE} (hu : X.A.units < cLine) (hk : PE X ke tk) (hv : PE X ve tv) : PE X (.Dict [some ke] [ve] pos) (tDisp1T tk tv) := by
  refine ⟨fun pins s σ H Q I q => ?_⟩
  have hn := I.hok.fresh (Nat.le_refl s.heap.objs.size)
  have I1 := I.laid (a := s.heap.objs.size) (o := .dT []) (h' := s.heap.push { cls := .type "dict", data := .dict #[] }) (t' := s.toks) (fun _ _ q => Heap.get?_push_of_some _ q) (Nat.le_refl _) (dt_empty s.heap I.big)
  have hlen : (pairTrees [some ke] [ve] X.env pos).length = 1 := pairTrees_length [some ke] [ve] X.env pos rfl rfl
  rw [arm_eval_Dict, zip_pairTrees [some ke] [ve] X.env pos rfl rfl, dictDisplay_pairs (pairTrees [some ke] [ve] X.env pos) (by intro e; rw [e] at hlen; cases hlen) (by omega)]
  refine wpAny_bind (wpAny_standAt (wpAny_bind (wpAny_subDictH (knd := tupleKind (mixKind X.prog X.w)) (Q := fun d s' => wpAny (model X.prog X.w) X.A (pure (Value.ref d)) (EP X pins σ Q) X.xe s') (show (tupleKind (mixKind X.prog X.w)).room X.A from hu) (by omega) ?_)))
  refine pairTrees_cons_walk (thn (hk.run pins _ σ _ _ I1 (q _ hn)) fun u s1 ⟨x, H1, I2, rx, q1⟩ => thn (hv.run pins s1 σ H1 _ I2 q1) fun w2 s2 ⟨y, H2, I3, ry, e, k, b, ex, eb, q2⟩ => pairTrees_nil_walk ?_)
  subst ex
  cases (show u = Value.ref b from rx)
  obtain ⟨z, hd, xs, rel, dd⟩ := dt_of I3.hok e
  cases rel
  refine ⟨[(k, b, w2)], ⟨rfl, rfl, key_of I3.hok eb, trivial⟩, dd, fun h' tk dd' hs => wpAny_pure ⟨.ref s.heap.objs.size, _, ?_, rfl, q2⟩⟩
  have dd2 : h'.DictOfH (tupleKind (mixKind X.prog X.w)) s.heap.objs.size (storedH [] k b w2) := dd'
  exact dt_put I3 e eb hd .nil ry (by show 1 ≤ sizeLine; decide) dd2 hs
/-- d.update(o), d not empty -/
def rUpdateT : V → List V → Hp → VK → Prop := fun x vs H Q => ∃ (d o : Addr) (kvs more : List (List Key × V)), x = .ref d ∧ vs = [.ref o] ∧ d ≠ o ∧ H d = some (.dT kvs) ∧ H o = some (.dT more) ∧ kvs ≠ [] ∧ kvs.length + more.length ≤ 1000 ∧ Q .non (upd H d (.dT (more.foldl (fun acc kv => putK acc kv.1 kv.2) kvs)))
theorem foldT_len : ∀ (more kvs : List (List Key × V)), (more.foldl (fun acc kv => putK acc kv.1 kv.2) kvs).length ≤ kvs.length + more.length
  | [], _ => Nat.le_refl _
  | p :: r, kvs => by
    have h1 := foldT_len r (putK kvs p.1 p.2)
    have h2 := length_putK kvs p.1 p.2
    rw [List.length_cons]
    show (r.foldl (fun acc kv => putK acc kv.1 kv.2) (putK kvs p.1 p.2)).length ≤ _
    omega
theorem foldT_rel {H : Hp} : ∀ {more : List (List Key × V)} {ms : List (List Key × Addr × Value)} {kvs : List (List Key × V)} {xs : List (List Key × Addr × Value)}, KT H kvs xs → KT H more ms → KT H (more.foldl (fun acc kv => putK acc kv.1 kv.2) kvs) (storedAllH xs ms)
  | [], _, _, _, r, .nil => r
  | p :: more, q :: ms, kvs, xs, r, .cons h t => by
    obtain ⟨e, hb, rv⟩ := h
    have one := r.put p.1 hb rv
    have rest := foldT_rel (kvs := putK kvs p.1 p.2) (xs := storedH xs p.1 q.2.1 q.2.2) one t
    rw [e] at rest
    show KT H (more.foldl (fun acc kv => putK acc kv.1 kv.2) (putK kvs p.1 p.2)) (storedAllH (storedH xs q.1 q.2.1 q.2.2) ms)
    rw [e]
    exact rest
theorem mt_updateT (hu : X.A.units + 1 < cLine) : MtR X "dict.update" rUpdateT := by
  intro pins s σ H x vs v us Q I rx rv h
  obtain ⟨d, o, kvs, more, rfl, rfl, ne, hd, ho, full, few, q⟩ := h
  cases rx
  rw [Vals.ref1 rv]
  obtain ⟨z1, own1, xs1, rel1, dd1⟩ := dt_of I.hok hd
  obtain ⟨z2, own2, xs2, rel2, dd2⟩ := dt_of I.hok ho
  have l1 : xs1.length = kvs.length := (Paired.length rel1).symm
  have l2 : xs2.length = more.length := (Paired.length rel2).symm
  have small : kvs.length + more.length ≤ sizeLine := Nat.le_trans few (by decide)
  refine call_update_dictH (knd := tupleKind (mixKind X.prog X.w)) (tupleKind_room_in1 hu) ne own2 dd1 dd2 (.inl fun e => full (by
    have := l1
    rw [e] at this
    exact List.length_eq_zero_iff.mp this.symm)) (by omega) fun h' dd' _ hs => ⟨.non, _, ?_, rfl, q⟩
  obtain ⟨oo, es, ep, hq, h2, h3, h4, _, h5⟩ := dd'
  refine d_write (t' := s.toks) I (by rw [hd]; exact True.intro) hs ⟨oo, hq⟩ ⟨Nat.le_trans (foldT_len more kvs) small, own1, _, (foldT_rel rel1 rel2).keeps fun c ys ec => ?_, oo, es, ep, hq, h2, h3, h4, h5⟩
  rw [upd_ne (ne_of ec hd (fun z => nomatch z))]
  exact ec
end
end Dl

/-! a dict comprehension with two fors: my own rule -/
namespace Dl
open PySem PySem.Spec PyProof.Rows L2
section
variable {prog : Program} {w : World} {A : Around} {R : Result → Shared → Prop} {s : Shared}
/-- one depth of any comprehension: the next item, its target, the tests, then body -/
theorem loop_turns {kx vx : Expr} {gs : List Comprehension} {scope : Scope} {pos : Pos} {d : Nat} {tg : Expr} {ifs : List Expr} {p : Pos} {it acc : Value} {env : Env} {full : Sem PySem.Fin}
    (shape : compTurn (.DictComp kx vx gs scope pos) d it acc env = (do
      standAt p
      match ← pyNext it with
      | none => pure (.done .next)
      | some v =>
        letOwnedTupleGo tg it v
        assign tg env v
        let mut ok := true
        for c in ifs do
          if ok then ok ← isTrue c env (eval c env)
        if ok then full else again (.compLoop (.DictComp kx vx gs scope pos) d it acc env)))
    (I : Nat → Shared → Prop)
    (turn : ∀ n s, I n s → wpAny (model prog w) A (pyNext it) (fun r t1 => match r with
      | none => R (.ok .next) t1
      | some v => wpAny (model prog w) A (letOwnedTupleGo tg it v) (fun _ t2 => wpAny (model prog w) A (assign tg env v) (fun _ t3 =>
          wpAny (model prog w) A (forIn ifs true fun c r => if r = true then do let ok ← isTrue c env (eval c env); pure (ForInStep.yield ok) else pure (ForInStep.yield r)) (fun ok t4 =>
            if ok = true then wpAny (model prog w) A full (fun fin t5 => fin = .again (.compLoop (.DictComp kx vx gs scope pos) d it acc env) ∧ ∃ m, m < n ∧ I m t5) (notedBy (model prog w) A env fun x t => R (.error x) t) t4
            else ∃ m, m < n ∧ I m t4) (notedBy (model prog w) A env fun x t => R (.error x) t) t3) (notedBy (model prog w) A env fun x t => R (.error x) t) t2) (notedBy (model prog w) A env fun x t => R (.error x) t) t1) (notedBy (model prog w) A env fun x t => R (.error x) t) s)
    (n : Nat) (h : I n s) : codeAny (model prog w) A (.compLoop (.DictComp kx vx gs scope pos) d it acc env) R s := by
  apply codeAny_loop rfl I _ n h
  intro k t hk
  show wpAny _ A ((compTurn (.DictComp kx vx gs scope pos) d it acc env).onRaise fun x => do noteFrame x env; theTreesLotGoes x) _ _ t
  apply wpAny_noted
  rw [shape]
  apply wpAny_bind
  apply wpAny_standAt
  apply wpAny_bind
  apply wpAny_mono (turn k t hk) _ (fun _ _ z => z)
  intro r t1 h1
  cases r with
  | none => exact wpAny_pure h1
  | some v =>
    apply wpAny_bind
    apply wpAny_mono h1 _ (fun _ _ z => z)
    intro _ t2 h2
    apply wpAny_bind
    apply wpAny_mono h2 _ (fun _ _ z => z)
    intro _ t3 h3
    apply wpAny_bind
    apply wpAny_mono h3 _ (fun _ _ z => z)
    intro ok t4 h4
    cases ok with
    | false => exact wpAny_pure ⟨rfl, h4⟩
    | true =>
      apply wpAny_mono h4 _ (fun _ _ z => z)
      rintro fin t5 ⟨rfl, h5⟩
      exact ⟨rfl, h5⟩
/-- the second clause of a dict comprehension begins -/
theorem second_starts {kx vx a1 b1 a2 b2 : Expr} {i1 i2 : List Expr} {scope : Scope} {pos : Pos} {it acc : Value} {env : Env}
    (gen : codeAny (model prog w) A (.compLoop (.DictComp kx vx [⟨a1, b1, i1, 0⟩, ⟨a2, b2, i2, 0⟩] scope pos) 1 it acc env) R s)
    (plain : wpAny (model prog w) A (pyIter it) (fun jt t => codeAny (model prog w) A (.compLoop (.DictComp kx vx [⟨a1, b1, i1, 0⟩, ⟨a2, b2, i2, 0⟩] scope pos) 1 jt acc env) R t) (notedBy (model prog w) A env fun x t => R (.error x) t) s) :
    codeAny (model prog w) A (.compStart (.DictComp kx vx [⟨a1, b1, i1, 0⟩, ⟨a2, b2, i2, 0⟩] scope pos) 1 it acc env) R s := by
  apply codeAny_of_tree
  show wpAny _ _ ((compStart (.DictComp kx vx [⟨a1, b1, i1, 0⟩, ⟨a2, b2, i2, 0⟩] scope pos) 1 it acc env).onRaise fun x => do noteFrame x env; standAt theWindowsPlace) _ _ s
  apply wpAny_notedAt
  unfold compStart
  show wpAny _ _ (ask >>= _) _ _ s
  apply wpAny_bind
  apply wpAny_askSetting
  apply wpAny_ite
  split
  · first
      | exact wpAny_pure ⟨rfl, gen⟩
      | exact wpAny_bind (wpAny_pure (wpAny_pure ⟨rfl, gen⟩))
  · apply wpAny_bind
    apply wpAny_rule
    first
      | exact wpAny_bind (wpAny_standAt (wpAny_bind (wpAny_mono plain (fun jt t z => wpAny_pure ⟨rfl, z⟩) fun _ _ x => x)))
      | (show wpAny _ _ (standAt b2.pos >>= _) _ _ s; exact wpAny_bind (wpAny_standAt (wpAny_bind (wpAny_mono plain (fun jt t z => wpAny_pure ⟨rfl, z⟩) fun _ _ x => x))))
end
section
variable {Y : Cx}
/-- one clause's walk inside a block: body is told by tb; what the block knew at its start stays known -/
theorem clause_walks (calm : Y.calm = true) (mute : Y.xe = fun _ _ => False) {kx vx : Expr} {gs : List Comprehension} {scope : Scope} {pos p : Pos} {d : Nat} {tg : Expr} {ifs : List Expr} {it : Addr} {acc : Value} {full : Sem PySem.Fin} {R : Result → Shared → Prop}
    (shape : compTurn (.DictComp kx vx gs scope pos) d (.ref it) acc Y.env = (do
      standAt p
      match ← pyNext (.ref it) with
      | none => pure (.done .next)
      | some v =>
        letOwnedTupleGo tg (.ref it) v
        assign tg Y.env v
        let mut ok := true
        for c in ifs do
          if ok then ok ← isTrue c Y.env (eval c Y.env)
        if ok then full else again (.compLoop (.DictComp kx vx gs scope pos) d (.ref it) acc Y.env)))
    {g : TG} {tt : TT} (pg : PG Y tg g) (pt : PTs Y ifs tt) {vs : List Nat} {σ0 : L2.St} {tb : L2.St → Hp → (Hp → Prop) → Prop}
    (pb : ∀ (pins : List (Addr × Obj)) (s : Shared) (σ : L2.St) (H : Hp) (Q : Hp → Prop), Inv Y pins σ H s → wipe σ vs = σ0 → tb σ H Q →
      wpAny (model Y.prog Y.w) Y.A full (fun fin s' => fin = .again (.compLoop (.DictComp kx vx gs scope pos) d (.ref it) acc Y.env) ∧ ∃ σ' H', Inv Y pins σ' H' s' ∧ σ0.length = σ'.length ∧ (∀ (j : Nat) v, σ0[j]? = some (some v) → σ'[j]? = some (some v)) ∧ Q H') (fun _ _ => False) s)
    {fp : List Addr} {tn : Nat → Heap → Prop} {J : It} (T : Turn Y.prog Y.w Y.K tg J fp it tn) {pins : List (Addr × Obj)} {W : Nat → Nat → Hp → Prop} {Fin : Hp → Prop}
    (step : ∀ i m H, W i m H → (J.stop i H ∧ Fin H) ∨ (J.go i H ∧ ∃ Nx : Hp → Prop, (∀ H', Nx H' → ∃ m', m' < m ∧ W (i + 1) m' H') ∧ ∀ x H', J.yld i H x H' → g x σ0 H' fun σ2 H2 => wipe σ2 vs = σ0 ∧ tt σ2 H2 fun b H3 => if b = true then tb σ2 H3 Nx else Nx H3))
    (last : ∀ s' H', Inv Y pins σ0 H' s' → Fin H' → R (.ok .next) s')
    {s : Shared} {H : Hp} {m : Nat} (I : Inv Y pins σ0 H s) (st : tn 0 s.heap) (fps : ∀ b ∈ fp, FpOk Y pins H b) (w0 : W 0 m H) :
    codeAny (model Y.prog Y.w) Y.A (.compLoop (.DictComp kx vx gs scope pos) d (.ref it) acc Y.env) R s := by
  have own : ∀ {H' : Hp}, (∀ b ∈ fp, H' b = none) → ∀ b ∈ fp, FpOk Y pins H' b := fun hn b hb => ⟨hn b hb, (fps b hb).2⟩
  apply loop_turns shape (fun m s' => ∃ i H', Inv Y pins σ0 H' s' ∧ tn i s'.heap ∧ (∀ b ∈ fp, H' b = none) ∧ W i m H') _ m ⟨0, H, I, st, fun b hb => (fps b hb).1, w0⟩
  rintro m s1 ⟨i, H1, I1, st1, n1, w1⟩
  rcases step i m H1 w1 with ⟨hs, hf⟩ | ⟨hg, Nx, less, go⟩
  · apply thnF (T.done Y rfl rfl rfl calm i pins s1 σ0 H1 (fun _ _ => False) I1 (own n1) st1 hs)
    rintro r s2 ⟨rfl, I2⟩
    exact last s2 H1 I2 hf
  apply thnF (T.item Y rfl rfl rfl calm i pins s1 σ0 H1 (fun _ _ => False) I1 (own n1) st1 hg)
  rintro r s2 ⟨u, rfl, more⟩
  apply thnF more
  rintro _ s3 ⟨x, H3, I3, rel, yl, st3, n3⟩
  have P3 := I3.pinned (own n3) (T.obj _ _ st3)
  have quiet : ∀ {α : Type} {t : Sem α} {Q : α → Shared → Prop} {z : Shared}, wpAny (model Y.prog Y.w) Y.A t Q Y.xe z → wpAny (model Y.prog Y.w) Y.A t Q (fun _ _ => False) z := fun h => by rw [mute] at h; exact h
  -- back at the clause's head
  have again_ : ∀ {σ' : L2.St} {s' : Shared} {H' : Hp}, Inv Y (pins ++ pinsAt fp s3.heap) σ' H' s' → σ0.length = σ'.length → (∀ (j : Nat) v, σ0[j]? = some (some v) → σ'[j]? = some (some v)) → Nx H' →
      ∃ m', m' < m ∧ ∃ i H', Inv Y pins σ0 H' s' ∧ tn i s'.heap ∧ (∀ b ∈ fp, H' b = none) ∧ W i m' H' := fun {σ' s' H'} I' len known nx => by
    obtain ⟨m', lt, w'⟩ := less H' nx
    have held : ∀ b ∈ fp, ∀ o, s3.heap.get? b = some o → s'.heap.get? b = some o ∧ H' b = none := fun b hb o e => by
      have z := I'.pin (b, o) (List.mem_append_right _ (List.mem_append_right _ (mem_pinsAt hb e)))
      exact ⟨z.1, z.2.1⟩
    refine ⟨m', lt, i + 1, H', I'.unpinned.weak len known, T.keep _ _ _ st3 (fun b hb o e => (held b hb o e).1), fun b hb => ?_, w'⟩
    obtain ⟨o, e, _⟩ := T.obj _ _ st3 b hb
    exact (held b hb o e).2
  apply thnF (quiet (pg.run _ s3 σ0 H3 x u _ P3 rel (go x H3 yl)))
  rintro _ s4 ⟨σ4, H4, I4, back, q4⟩
  have len4 : σ0.length = σ4.length := by rw [← back, wipe_length]
  have known4 : ∀ (j : Nat) v, σ0[j]? = some (some v) → σ4[j]? = some (some v) := fun j v e => by
    rw [← back] at e
    exact (wipe_some e).1
  apply thnF (quiet (pt.run _ s4 σ4 H4 _ I4 q4))
  rintro b s5 ⟨H5, I5, q5⟩
  cases b with
  | false => exact again_ I5 len4 known4 q5
  | true =>
    apply thnF (pb _ s5 σ4 H5 Nx I5 back q5)
    rintro fin s6 ⟨rfl, σ6, H6, I6, len6, known6, nx⟩
    exact ⟨rfl, again_ I6 len6 known6 nx⟩
def tPut (tk tv : TE) (D : Addr) : L2.St → Hp → (Hp → Prop) → Prop := fun σ H Q => tk σ H fun y H1 => tv σ H1 fun z H2 => ∃ kvs k, y = kV k ∧ H2 D = some (.dK kvs) ∧ kvs.length < sizeLine ∧ Q (upd H2 D (.dK (putK kvs k z)))
def tSecond (wi : TI) (g : TG) (tt : TT) (tb : L2.St → Hp → (Hp → Prop) → Prop) (vs : List Nat) : L2.St → Hp → (Hp → Prop) → Prop := fun σ H Q => wi σ H fun J H1 => ∃ W : Nat → Nat → Hp → Prop, (∃ m, W 0 m H1) ∧ ∀ i m H, W i m H →
  (J.stop i H ∧ Q H) ∨ (J.go i H ∧ ∃ Nx : Hp → Prop, (∀ H', Nx H' → ∃ m', m' < m ∧ W (i + 1) m' H') ∧ ∀ x H', J.yld i H x H' → g x (wipe σ vs) H' fun σ2 H2 => wipe σ2 vs = wipe σ vs ∧ tt σ2 H2 fun b H3 => if b = true then tb σ2 H3 Nx else Nx H3)
/-- {k: v for a in A if .. for b in B if ..} -/
def tDc2 (wi : TI) (g : TG) (tt : TT) (wi1 : TI) (g1 : TG) (tt1 : TT) (tk tv : TE) (vs vs1 : List Nat) : TE := fun σ H Q => wi σ H fun J H1 => ∀ D, H1 D = none → ∃ W : Nat → Nat → Hp → Prop, (∃ m, W 0 m (upd H1 D (.dK []))) ∧ ∀ i m H, W i m H →
  (J.stop i H ∧ Q (.ref D) H) ∨ (J.go i H ∧ ∃ Nx : Hp → Prop, (∀ H', Nx H' → ∃ m', m' < m ∧ W (i + 1) m' H') ∧ ∀ x H', J.yld i H x H' → g x (wipe σ vs) H' fun σ2 H2 => wipe σ2 vs = wipe σ vs ∧ tt σ2 H2 fun b H3 =>
    if b = true then tSecond wi1 g1 tt1 (tPut tk tv D) vs1 σ2 H3 Nx else Nx H3)
section
variable {kx vx a1 b1 a2 b2 : Expr} {i1 i2 : List Expr} {scope : Scope} {pos : Pos} {D : Addr}
theorem put_body (mute : Y.xe = fun _ _ => False) {tk tv : TE} {q : Pos} {it : Value} (pk : PE Y kx tk) (pv : PE Y vx tv) {vs : List Nat} {σ0 : L2.St} (pins : List (Addr × Obj)) (s : Shared) (σ : L2.St) (H : Hp) (Q : Hp → Prop) (I : Inv Y pins σ H s) (back : wipe σ vs = σ0) (h : tPut tk tv D σ H Q) :
    wpAny (model Y.prog Y.w) Y.A (do
      (do
        let kv ← eval kx Y.env
        let vv ← holding [kv] (eval vx Y.env)
        standAt q
        holding [kv, vv] (dictSet D kv vv))
      again (.compLoop (.DictComp kx vx [⟨a1, b1, i1, 0⟩, ⟨a2, b2, i2, 0⟩] scope pos) 1 it (.ref D) Y.env)) (fun fin s' => fin = .again (.compLoop (.DictComp kx vx [⟨a1, b1, i1, 0⟩, ⟨a2, b2, i2, 0⟩] scope pos) 1 it (.ref D) Y.env) ∧ ∃ σ' H', Inv Y pins σ' H' s' ∧ σ0.length = σ'.length ∧ (∀ (j : Nat) v, σ0[j]? = some (some v) → σ'[j]? = some (some v)) ∧ Q H') (fun _ _ => False) s := by
  have quiet : ∀ {α : Type} {t : Sem α} {Q : α → Shared → Prop} {z : Shared}, wpAny (model Y.prog Y.w) Y.A t Q Y.xe z → wpAny (model Y.prog Y.w) Y.A t Q (fun _ _ => False) z := fun h => by rw [mute] at h; exact h
  apply wpAny_bind
  apply wpAny_bind
  apply thnF (quiet (pk.run pins s σ H _ I h))
  rintro kv s1 ⟨y, H1, I1, r1, h1⟩
  apply wpAny_bind
  apply wpAny_holding
  apply thnF (quiet (pv.run pins s1 σ H1 _ I1 h1))
  rintro vv s2 ⟨z, H2, I2, r2, kvs, k, rfl, hD, room, q2⟩
  apply wpAny_bind
  apply wpAny_standAt
  apply wpAny_holding
  apply d_dictSet I2 hD room r1 r2
  intro s3 I3
  refine wpAny_pure ⟨rfl, σ, _, I3, by rw [← back, wipe_length], fun j v e => by rw [← back] at e; exact (wipe_some e).1, q2⟩
theorem second_body {it0 : Value} (calm : Y.calm = true) (mute : Y.xe = fun _ _ => False) {wi1 : TI} {g1 : TG} {tt1 : TT} {tk tv : TE} {vs vs1 : List Nat} (within : ∀ i ∈ vs1, i ∈ vs) (pi1 : PI Y a2 b2 wi1) (pg1 : PG Y a2 g1) (pt1 : PTs Y i2 tt1) (pk : PE Y kx tk) (pv : PE Y vx tv)
    (plain : ∀ x, foldedSetIterable b2 Y.env x = pure x) {σ0 : L2.St} (pins : List (Addr × Obj)) (s : Shared) (σ : L2.St) (H : Hp) (Q : Hp → Prop) (I : Inv Y pins σ H s) (back : wipe σ vs = σ0) (h : tSecond wi1 g1 tt1 (tPut tk tv D) vs1 σ H Q) :
    wpAny (model Y.prog Y.w) Y.A (do
      let x ← eval b2 Y.env
      standAt b2.pos
      let x ← foldedSetIterable b2 Y.env x
      let _ ← runOwn (.compStart (.DictComp kx vx [⟨a1, b1, i1, 0⟩, ⟨a2, b2, i2, 0⟩] scope pos) 1 (← holding [x] (pyIter x)) (.ref D) Y.env) Y.env
      again (.compLoop (.DictComp kx vx [⟨a1, b1, i1, 0⟩, ⟨a2, b2, i2, 0⟩] scope pos) 0 it0 (.ref D) Y.env)) (fun fin s' => fin = .again (.compLoop (.DictComp kx vx [⟨a1, b1, i1, 0⟩, ⟨a2, b2, i2, 0⟩] scope pos) 0 it0 (.ref D) Y.env) ∧ ∃ σ' H', Inv Y pins σ' H' s' ∧ σ0.length = σ'.length ∧ (∀ (j : Nat) v, σ0[j]? = some (some v) → σ'[j]? = some (some v)) ∧ Q H') (fun _ _ => False) s := by
  have quiet : ∀ {α : Type} {t : Sem α} {Q : α → Shared → Prop} {z : Shared}, wpAny (model Y.prog Y.w) Y.A t Q Y.xe z → wpAny (model Y.prog Y.w) Y.A t Q (fun _ _ => False) z := fun h => by rw [mute] at h; exact h
  apply wpAny_bind
  have first := pi1.run pins s σ H _ I h
  rw [mute] at first
  apply thnF first
  intro x s1 h1
  apply wpAny_bind
  apply wpAny_standAt
  apply wpAny_bind
  apply wpAny_of_eq (plain x)
  apply wpAny_bind
  apply wpAny_holding
  apply thnF h1
  rintro itv s2 ⟨it, fp, tn, J, H2, rfl, I2, T, st, fps, W, ⟨m, w0⟩, step⟩
  apply wpAny_bind
  refine wpAny_runOwn ?_
  rw [Around.mark_none]
  have known : ∀ (j : Nat) v, σ0[j]? = some (some v) → (wipe σ vs1)[j]? = some (some v) := fun j v e => by
    rw [← back] at e
    obtain ⟨e1, out⟩ := wipe_some e
    rw [wipe_out fun z => out (within j z)]
    exact e1
  have len : σ0.length = (wipe σ vs1).length := by rw [← back, wipe_length, wipe_length]
  have loop : codeAny (model Y.prog Y.w) Y.A (.compLoop (.DictComp kx vx [⟨a1, b1, i1, 0⟩, ⟨a2, b2, i2, 0⟩] scope pos) 1 (.ref it) (.ref D) Y.env)
      (fun r s' => match r with
        | .ok _ => ∃ σ' H', Inv Y pins σ' H' s' ∧ σ0.length = σ'.length ∧ (∀ (j : Nat) v, σ0[j]? = some (some v) → σ'[j]? = some (some v)) ∧ Q H'
        | .error _ => False) s2 :=
    clause_walks calm mute rfl pg1 pt1 (put_body mute pk pv) T step (fun s' H' I' q => ⟨_, H', I', len, known, q⟩) (I2.weak (wipe_length _ _) fun j v e => (wipe_some e).1) st fps w0
  apply codeAny_mono (second_starts loop (T.self Y.A 0 _ _ _ st loop))
  intro r s3 hr
  cases r with
  | ok f =>
    first
      | exact wpAny_pure ⟨rfl, hr⟩
      | exact wpAny_bind (wpAny_pure (wpAny_pure ⟨rfl, hr⟩))
  | error e => exact hr.elim
end
end
section
variable {X : Cx}
theorem dc2_core {pins : List (Addr × Obj)} {s : Shared} {σ : L2.St} {H : Hp} {Q : VK} {pos' : Pos} {use : Option (Value → Sem Unit)} {Qf : Value → Shared → Prop} {kx vx a1 b1 a2 b2 : Expr} {i1 i2 : List Expr} {scope : Scope} {own : List (Str × Nat)} {vs1 : List Nat} {pos : Pos} {wi wi1 : TI} {g g1 : TG} {tt tt1 : TT} {tk tv : TE} (calm : X.calm = true) (nd : X.N.Nodup) (src : PI X a1 b1 wi) (ok : BlkOk X.N X.env.scope scope own) (within : ∀ i ∈ vs1, i ∈ own.map (·.2))
    (pg : ∀ (s : Shared) (H : Hp) (C : Addr) (cl : List (Str × Addr)) (fp : List Addr), PG (X.blk s H scope (compEnvC scope cl C X.env) fp) a1 g) (pt : ∀ (s : Shared) (H : Hp) (C : Addr) (cl : List (Str × Addr)) (fp : List Addr), PTs (X.blk s H scope (compEnvC scope cl C X.env) fp) i1 tt)
    (pi1 : ∀ (s : Shared) (H : Hp) (C : Addr) (cl : List (Str × Addr)) (fp : List Addr), PI (X.blk s H scope (compEnvC scope cl C X.env) fp) a2 b2 wi1)
    (pg1 : ∀ (s : Shared) (H : Hp) (C : Addr) (cl : List (Str × Addr)) (fp : List Addr), PG (X.blk s H scope (compEnvC scope cl C X.env) fp) a2 g1) (pt1 : ∀ (s : Shared) (H : Hp) (C : Addr) (cl : List (Str × Addr)) (fp : List Addr), PTs (X.blk s H scope (compEnvC scope cl C X.env) fp) i2 tt1)
    (pk : ∀ (s : Shared) (H : Hp) (C : Addr) (cl : List (Str × Addr)) (fp : List Addr), PE (X.blk s H scope (compEnvC scope cl C X.env) fp) kx tk) (pv : ∀ (s : Shared) (H : Hp) (C : Addr) (cl : List (Str × Addr)) (fp : List Addr), PE (X.blk s H scope (compEnvC scope cl C X.env) fp) vx tv)
    (plain : ∀ x, foldedSetIterable b1 X.env x = pure x) (plain1 : ∀ env x, foldedSetIterable b2 env x = pure x) (I : Inv X pins σ H s)
    (h : tDc2 wi g tt wi1 g1 tt1 tk tv (own.map (·.2)) vs1 σ H Q)
    (whole : ∀ D C s' m H', Inv X pins σ H' s' → Q (.ref D) H' → s'.heap.Ns C m → FpOk X pins H' C → compPost (model X.prog X.w) X.A X.xe use Qf (.ref D) C (.ok .next) s') :
    wpAny (model X.prog X.w) X.A (comprehension (.DictComp kx vx [⟨a1, b1, i1, 0⟩, ⟨a2, b2, i2, 0⟩] scope pos) scope X.env pos' newDict false (eval b1 X.env) use) Qf X.xe s := by
  have cells : ∀ y ∈ scope.names, y.2 = .free → ∃ c, X.env.cells.lookup y.1 = some c := fun y hy e => (ok.free y hy e).elim (fun k => I.ok.has _ (.inl k)) fun k => I.ok.has _ (.inr k)
  apply wpAny_comprehension_free rfl plain (closure_ok cells) ok.kind (fun y hy e => by rw [ok.uniq y hy, e])
  apply thn (src.run pins s σ H _ I h)
  intro x s1 h1
  apply thn h1
  rintro itv s2 ⟨it, fp, tn, J, H2, rfl, I2, T, st, fps, q⟩
  refine wpAny_newObj_type (newEnv_comp ?_)
  have new : H2 s2.heap.objs.size = none := I2.hok.fresh (Nat.le_refl _)
  obtain ⟨W, ⟨m, w0⟩, step⟩ := q _ new
  generalize eD : s2.heap.objs.size = D at *
  have grown : ∀ b o, s2.heap.get? b = some o → (s2.heap.push { cls := .type "dict", data := .dict #[] }).get? b = some o := fun b o e => Heap.get?_push_of_some _ e
  have I3 : Inv X pins σ (upd H2 D (.dK [])) { s2 with heap := s2.heap.push { cls := .type "dict", data := .dict #[] } } :=
    I2.laid (t' := s2.toks) grown (Nat.le_of_eq eD) (by rw [← eD]; exact dk_empty s2.heap I2.big)
  have low : ∀ b ∈ fp, b < s2.heap.objs.size := fun b hb => by
    obtain ⟨o, e, _⟩ := T.obj _ _ st b hb
    exact Heap.lt_size e
  have fp3 : ∀ b ∈ fp, FpOk X pins (upd H2 D (.dK [])) b ∧ b < ({ s2 with heap := s2.heap.push { cls := .type "dict", data := .dict #[] } } : Shared).heap.objs.size := fun b hb => by
    have lt := low b hb
    have nb : b ≠ D := by rw [← eD]; exact Nat.ne_of_lt lt
    exact ⟨⟨by rw [upd_ne nb]; exact (fps b hb).1, (fps b hb).2⟩, by show b < (s2.heap.push _).objs.size; rw [Heap.size_push]; exact Nat.lt_succ_of_lt lt⟩
  have I4 := block_start I3 ok nd fp3
  have st4 : tn 0 (pushCells ((s2.heap.push { cls := .type "dict", data := .dict #[] }).push { cls := .type "dict", data := .dict #[] }) scope.names) :=
    T.keep _ _ _ st fun b _ o e => pushCells_keeps _ _ _ _ (Heap.get?_push_of_some _ (grown b o e))
  generalize hs3 : ({ s2 with heap := s2.heap.push { cls := .type "dict", data := .dict #[] } } : Shared) = s3 at I3 fp3 I4 ⊢
  have none3 : ∀ b ∈ fp, (upd H2 D (.dK [])) b = none := fun b hb => (fp3 b hb).1.1
  generalize upd H2 D (.dK []) = H3 at I3 fp3 I4 w0 none3
  have pg := pg s3 H3 s3.heap.objs.size (cellsFrom (s3.heap.objs.size + 1) scope.names (cloFrom X.env.cells scope.names [])) fp
  have pt := pt s3 H3 s3.heap.objs.size (cellsFrom (s3.heap.objs.size + 1) scope.names (cloFrom X.env.cells scope.names [])) fp
  have pi1 := pi1 s3 H3 s3.heap.objs.size (cellsFrom (s3.heap.objs.size + 1) scope.names (cloFrom X.env.cells scope.names [])) fp
  have pg1 := pg1 s3 H3 s3.heap.objs.size (cellsFrom (s3.heap.objs.size + 1) scope.names (cloFrom X.env.cells scope.names [])) fp
  have pt1 := pt1 s3 H3 s3.heap.objs.size (cellsFrom (s3.heap.objs.size + 1) scope.names (cloFrom X.env.cells scope.names [])) fp
  have pk := pk s3 H3 s3.heap.objs.size (cellsFrom (s3.heap.objs.size + 1) scope.names (cloFrom X.env.cells scope.names [])) fp
  have pv := pv s3 H3 s3.heap.objs.size (cellsFrom (s3.heap.objs.size + 1) scope.names (cloFrom X.env.cells scope.names [])) fp
  show codeAny _ _ (.compStart (.DictComp kx vx [⟨a1, b1, i1, 0⟩, ⟨a2, b2, i2, 0⟩] scope pos) 0 (.ref it) (.ref D) (compEnvC scope (cellsFrom (s3.heap.objs.size + 1) scope.names (cloFrom X.env.cells scope.names [])) s3.heap.objs.size X.env)) _ { s3 with heap := pushCells (s3.heap.push { cls := .type "dict", data := .dict #[] }) scope.names }
  have st4 : tn 0 ({ s3 with heap := pushCells (s3.heap.push { cls := .type "dict", data := .dict #[] }) scope.names } : Shared).heap := by rw [← hs3]; exact st4
  generalize ({ s3 with heap := pushCells (s3.heap.push { cls := .type "dict", data := .dict #[] }) scope.names } : Shared) = s4 at I4 st4 ⊢
  have at_ : (compEnvC scope (cellsFrom (s3.heap.objs.size + 1) scope.names (cloFrom X.env.cells scope.names [])) s3.heap.objs.size X.env).locals = s3.heap.objs.size := rfl
  generalize compEnvC scope (cellsFrom (s3.heap.objs.size + 1) scope.names (cloFrom X.env.cells scope.names [])) s3.heap.objs.size X.env = ce at *
  have loop : codeAny (model X.prog X.w) X.A (.compLoop (.DictComp kx vx [⟨a1, b1, i1, 0⟩, ⟨a2, b2, i2, 0⟩] scope pos) 0 (.ref it) (.ref D) ce) (compPost (model X.prog X.w) X.A X.xe use Qf (.ref D) s3.heap.objs.size) s4 := by
    refine clause_walks (Y := X.blk s3 H3 scope ce fp) calm rfl rfl pg pt (second_body (Y := X.blk s3 H3 scope ce fp) calm rfl within pi1 pg1 pt1 pk pv (plain1 ce)) T step (fun s' H' I' qq => ?_) I4 st4 (fun b hb => ?_) w0
    · have back : Inv X pins σ H' s' := I3.call' (ch := fp) I'.os I'.base I'.hok I'.bare fun b hb => by
        obtain ⟨_, f1, f2, f3, f4, f5⟩ := (fp3 b hb).1
        exact ⟨f3, f1, f4, f5⟩
      have free : H' s3.heap.objs.size = none := by
        have z : H' ce.locals = none := I'.free
        rw [at_] at z
        exact z
      obtain ⟨mm, hn, _⟩ := I'.loc
      have hn : s'.heap.Ns ce.locals mm := hn
      rw [at_] at hn
      exact whole D _ s' mm H' back qq hn (I3.fpOk (Nat.le_refl _) free)
    · exact ⟨none3 b hb, (I4.ok.exf b hb).1, I4.ok.exfs b hb, .inl hb, fun x c e => (I4.ok.exf b hb).2 x c e, fun p hp => absurd (show p ∈ ([] : List (Addr × Obj)) ++ [] from hp) (by simp)⟩
  exact codeAny_compStart_dict loop (T.self X.A 0 _ _ _ st4 loop)
theorem pe_dc2 {kx vx a1 b1 a2 b2 : Expr} {i1 i2 : List Expr} {scope : Scope} {own : List (Str × Nat)} {vs1 : List Nat} {pos : Pos} {wi wi1 : TI} {g g1 : TG} {tt tt1 : TT} {tk tv : TE} (calm : X.calm = true) (nd : X.N.Nodup) (src : PI X a1 b1 wi) (ok : BlkOk X.N X.env.scope scope own) (within : ∀ i ∈ vs1, i ∈ own.map (·.2))
    (pg : ∀ (s : Shared) (H : Hp) (C : Addr) (cl : List (Str × Addr)) (fp : List Addr), PG (X.blk s H scope (compEnvC scope cl C X.env) fp) a1 g) (pt : ∀ (s : Shared) (H : Hp) (C : Addr) (cl : List (Str × Addr)) (fp : List Addr), PTs (X.blk s H scope (compEnvC scope cl C X.env) fp) i1 tt)
    (pi1 : ∀ (s : Shared) (H : Hp) (C : Addr) (cl : List (Str × Addr)) (fp : List Addr), PI (X.blk s H scope (compEnvC scope cl C X.env) fp) a2 b2 wi1)
    (pg1 : ∀ (s : Shared) (H : Hp) (C : Addr) (cl : List (Str × Addr)) (fp : List Addr), PG (X.blk s H scope (compEnvC scope cl C X.env) fp) a2 g1) (pt1 : ∀ (s : Shared) (H : Hp) (C : Addr) (cl : List (Str × Addr)) (fp : List Addr), PTs (X.blk s H scope (compEnvC scope cl C X.env) fp) i2 tt1)
    (pk : ∀ (s : Shared) (H : Hp) (C : Addr) (cl : List (Str × Addr)) (fp : List Addr), PE (X.blk s H scope (compEnvC scope cl C X.env) fp) kx tk) (pv : ∀ (s : Shared) (H : Hp) (C : Addr) (cl : List (Str × Addr)) (fp : List Addr), PE (X.blk s H scope (compEnvC scope cl C X.env) fp) vx tv)
    (plain : ∀ x, foldedSetIterable b1 X.env x = pure x := by intro _; rfl) (plain1 : ∀ env x, foldedSetIterable b2 env x = pure x := by intro _ _; rfl) :
    PE X (.DictComp kx vx [⟨a1, b1, i1, 0⟩, ⟨a2, b2, i2, 0⟩] scope pos) (tDc2 wi g tt wi1 g1 tt1 tk tv (own.map (·.2)) vs1) := by
  constructor
  intro pins s σ H Q I h
  rw [arm_eval_DictComp]
  apply dc2_core calm nd src ok within pg pt pi1 pg1 pt1 pk pv plain plain1 I h
  intro D C s' m H' I' q hn f
  obtain ⟨f0, f1, f2, f3, f4, f5⟩ := f
  exact ⟨m, hn, fun h'' sb => ⟨.ref D, H', I'.turned (t' := s'.toks) (fun b o hb e => (sb.2 b hb).trans e) f0 f1 f3 f4 f5, rfl, q⟩⟩
theorem ps_setDc2 {i : Nat} {y : Str} {py spos : Pos} {kx vx a1 b1 a2 b2 : Expr} {i1 i2 : List Expr} {scope : Scope} {own : List (Str × Nat)} {vs1 : List Nat} {pos : Pos} {wi wi1 : TI} {g g1 : TG} {tt tt1 : TT} {tk tv : TE} (calm : X.calm = true) (nd : X.N.Nodup) (at_ : X.N[i]? = some y) (loc : X.env.scope.names.lookup y = some .local) (sw : swapsWith (.DictComp kx vx [⟨a1, b1, i1, 0⟩, ⟨a2, b2, i2, 0⟩] scope pos) (some (.Name y py)) spos.line X.env = pure true) (src : PI X a1 b1 wi) (ok : BlkOk X.N X.env.scope scope own) (within : ∀ i ∈ vs1, i ∈ own.map (·.2))
    (pg : ∀ (s : Shared) (H : Hp) (C : Addr) (cl : List (Str × Addr)) (fp : List Addr), PG (X.blk s H scope (compEnvC scope cl C X.env) fp) a1 g) (pt : ∀ (s : Shared) (H : Hp) (C : Addr) (cl : List (Str × Addr)) (fp : List Addr), PTs (X.blk s H scope (compEnvC scope cl C X.env) fp) i1 tt)
    (pi1 : ∀ (s : Shared) (H : Hp) (C : Addr) (cl : List (Str × Addr)) (fp : List Addr), PI (X.blk s H scope (compEnvC scope cl C X.env) fp) a2 b2 wi1)
    (pg1 : ∀ (s : Shared) (H : Hp) (C : Addr) (cl : List (Str × Addr)) (fp : List Addr), PG (X.blk s H scope (compEnvC scope cl C X.env) fp) a2 g1) (pt1 : ∀ (s : Shared) (H : Hp) (C : Addr) (cl : List (Str × Addr)) (fp : List Addr), PTs (X.blk s H scope (compEnvC scope cl C X.env) fp) i2 tt1)
    (pk : ∀ (s : Shared) (H : Hp) (C : Addr) (cl : List (Str × Addr)) (fp : List Addr), PE (X.blk s H scope (compEnvC scope cl C X.env) fp) kx tk) (pv : ∀ (s : Shared) (H : Hp) (C : Addr) (cl : List (Str × Addr)) (fp : List Addr), PE (X.blk s H scope (compEnvC scope cl C X.env) fp) vx tv)
    (plain : ∀ x, foldedSetIterable b1 X.env x = pure x := by intro _; rfl) (plain1 : ∀ env x, foldedSetIterable b2 env x = pure x := by intro _ _; rfl) :
    PS X (.Assign [.Name y py] (.DictComp kx vx [⟨a1, b1, i1, 0⟩, ⟨a2, b2, i2, 0⟩] scope pos) spos) (tAsg (tDc2 wi g tt wi1 g1 tt1 tk tv (own.map (·.2)) vs1) (gName i)) := by
  constructor
  intro pins s σ H D I h
  rw [exec_Assign_Name_used _ _ _ _ sw]
  apply wpAny_bind
  apply wpAny_standAt
  apply wpAny_bind
  show wpAny _ X.A (do let _ ← comprehension (.DictComp kx vx [⟨a1, b1, i1, 0⟩, ⟨a2, b2, i2, 0⟩] scope pos) scope X.env (firstIterPos [⟨a1, b1, i1, 0⟩, ⟨a2, b2, i2, 0⟩] pos) newDict false (eval b1 X.env) (some (assign (.Name y py) X.env))) _ _ s
  have told : tDc2 wi g tt wi1 g1 tt1 tk tv (own.map (·.2)) vs1 σ H (fun x H1 => gName i x σ H1 D.nx) := h
  apply wpAny_bind
  apply thn (dc2_core (Qf := fun _ s' => SP X pins D .next s') calm nd src ok within pg pt pi1 pg1 pt1 pk pv plain plain1 I told fun L C s' m H' I' q hn f => ?_)
  · exact fun _ s' hq => wpAny_pure (wpAny_pure hq)
  · show wpAny _ _ (assign (.Name y py) X.env (.ref L)) _ _ _
    refine wpAny_assign_Name (store_ok2 (v := V.ref L) I' nd at_ (.inl loc) rfl (fun s2 I2 more => ?_) (.inr loc))
    obtain ⟨a, sb, ha⟩ := more
    obtain ⟨f0, f1, f2, f3, f4, f5⟩ := f
    have apart : C ≠ a := ha.elim (fun z => by rw [z]; exact f1) fun z e => f4 y a z e.symm
    exact ⟨m, hn.sameBut sb apart, fun h3 sb3 => ⟨_, H', I2.turned (t' := s2.toks) (fun b o hb e => (sb3.2 b hb).trans e) f0 f1 f3 f4 f5, q⟩⟩
end
end Dl

/-! a dict comprehension with two fors whose keys are tuples: r_dc2 for dT -/
namespace Dl
open PySem PySem.Spec PyProof.Rows L2
section
variable {Y : Cx}
def tPutT (tk tv : TE) (D : Addr) : L2.St → Hp → (Hp → Prop) → Prop := fun σ H Q => tk σ H fun y H1 => tv σ H1 fun z H2 => ∃ kvs k b, y = .ref b ∧ H2 b = some (.tup (k.map kV)) ∧ H2 D = some (.dT kvs) ∧ kvs.length < sizeLine ∧ Q (upd H2 D (.dT (putK kvs k z)))
/-- {k: v for a in A if .. for b in B if ..} -/
def tDc2T (wi : TI) (g : TG) (tt : TT) (wi1 : TI) (g1 : TG) (tt1 : TT) (tk tv : TE) (vs vs1 : List Nat) : TE := fun σ H Q => wi σ H fun J H1 => ∀ D, H1 D = none → ∃ W : Nat → Nat → Hp → Prop, (∃ m, W 0 m (upd H1 D (.dT []))) ∧ ∀ i m H, W i m H →
  (J.stop i H ∧ Q (.ref D) H) ∨ (J.go i H ∧ ∃ Nx : Hp → Prop, (∀ H', Nx H' → ∃ m', m' < m ∧ W (i + 1) m' H') ∧ ∀ x H', J.yld i H x H' → g x (wipe σ vs) H' fun σ2 H2 => wipe σ2 vs = wipe σ vs ∧ tt σ2 H2 fun b H3 =>
    if b = true then tSecond wi1 g1 tt1 (tPutT tk tv D) vs1 σ2 H3 Nx else Nx H3)
section
variable {kx vx a1 b1 a2 b2 : Expr} {i1 i2 : List Expr} {scope : Scope} {pos : Pos} {D : Addr}
theorem put_bodyT (hu : Y.A.units < cLine) (mute : Y.xe = fun _ _ => False) {tk tv : TE} {q : Pos} {it : Value} (pk : PE Y kx tk) (pv : PE Y vx tv) {vs : List Nat} {σ0 : L2.St} (pins : List (Addr × Obj)) (s : Shared) (σ : L2.St) (H : Hp) (Q : Hp → Prop) (I : Inv Y pins σ H s) (back : wipe σ vs = σ0) (h : tPutT tk tv D σ H Q) :
    wpAny (model Y.prog Y.w) Y.A (do
      (do
        let kv ← eval kx Y.env
        let vv ← holding [kv] (eval vx Y.env)
        standAt q
        holding [kv, vv] (dictSet D kv vv))
      again (.compLoop (.DictComp kx vx [⟨a1, b1, i1, 0⟩, ⟨a2, b2, i2, 0⟩] scope pos) 1 it (.ref D) Y.env)) (fun fin s' => fin = .again (.compLoop (.DictComp kx vx [⟨a1, b1, i1, 0⟩, ⟨a2, b2, i2, 0⟩] scope pos) 1 it (.ref D) Y.env) ∧ ∃ σ' H', Inv Y pins σ' H' s' ∧ σ0.length = σ'.length ∧ (∀ (j : Nat) v, σ0[j]? = some (some v) → σ'[j]? = some (some v)) ∧ Q H') (fun _ _ => False) s := by
  have quiet : ∀ {α : Type} {t : Sem α} {Q : α → Shared → Prop} {z : Shared}, wpAny (model Y.prog Y.w) Y.A t Q Y.xe z → wpAny (model Y.prog Y.w) Y.A t Q (fun _ _ => False) z := fun h => by rw [mute] at h; exact h
  apply wpAny_bind
  apply wpAny_bind
  apply thnF (quiet (pk.run pins s σ H _ I h))
  rintro kv s1 ⟨y, H1, I1, r1, h1⟩
  apply wpAny_bind
  apply wpAny_holding
  apply thnF (quiet (pv.run pins s1 σ H1 _ I1 h1))
  rintro vv s2 ⟨z, H2, I2, r2, kvs, k, b, rfl, hb, hD, room, q2⟩
  apply wpAny_bind
  apply wpAny_standAt
  apply wpAny_holding
  apply d_dictSetT hu I2 hD hb room r1 r2
  intro s3 I3
  refine wpAny_pure ⟨rfl, σ, _, I3, by rw [← back, wipe_length], fun j v e => by rw [← back] at e; exact (wipe_some e).1, q2⟩
theorem second_bodyT {it0 : Value} (hu : Y.A.units < cLine) (calm : Y.calm = true) (mute : Y.xe = fun _ _ => False) {wi1 : TI} {g1 : TG} {tt1 : TT} {tk tv : TE} {vs vs1 : List Nat} (within : ∀ i ∈ vs1, i ∈ vs) (pi1 : PI Y a2 b2 wi1) (pg1 : PG Y a2 g1) (pt1 : PTs Y i2 tt1) (pk : PE Y kx tk) (pv : PE Y vx tv)
    (plain : ∀ x, foldedSetIterable b2 Y.env x = pure x) {σ0 : L2.St} (pins : List (Addr × Obj)) (s : Shared) (σ : L2.St) (H : Hp) (Q : Hp → Prop) (I : Inv Y pins σ H s) (back : wipe σ vs = σ0) (h : tSecond wi1 g1 tt1 (tPutT tk tv D) vs1 σ H Q) :
    wpAny (model Y.prog Y.w) Y.A (do
      let x ← eval b2 Y.env
      standAt b2.pos
      let x ← foldedSetIterable b2 Y.env x
      let _ ← runOwn (.compStart (.DictComp kx vx [⟨a1, b1, i1, 0⟩, ⟨a2, b2, i2, 0⟩] scope pos) 1 (← holding [x] (pyIter x)) (.ref D) Y.env) Y.env
      again (.compLoop (.DictComp kx vx [⟨a1, b1, i1, 0⟩, ⟨a2, b2, i2, 0⟩] scope pos) 0 it0 (.ref D) Y.env)) (fun fin s' => fin = .again (.compLoop (.DictComp kx vx [⟨a1, b1, i1, 0⟩, ⟨a2, b2, i2, 0⟩] scope pos) 0 it0 (.ref D) Y.env) ∧ ∃ σ' H', Inv Y pins σ' H' s' ∧ σ0.length = σ'.length ∧ (∀ (j : Nat) v, σ0[j]? = some (some v) → σ'[j]? = some (some v)) ∧ Q H') (fun _ _ => False) s := by
  have quiet : ∀ {α : Type} {t : Sem α} {Q : α → Shared → Prop} {z : Shared}, wpAny (model Y.prog Y.w) Y.A t Q Y.xe z → wpAny (model Y.prog Y.w) Y.A t Q (fun _ _ => False) z := fun h => by rw [mute] at h; exact h
  apply wpAny_bind
  have first := pi1.run pins s σ H _ I h
  rw [mute] at first
  apply thnF first
  intro x s1 h1
  apply wpAny_bind
  apply wpAny_standAt
  apply wpAny_bind
  apply wpAny_of_eq (plain x)
  apply wpAny_bind
  apply wpAny_holding
  apply thnF h1
  rintro itv s2 ⟨it, fp, tn, J, H2, rfl, I2, T, st, fps, W, ⟨m, w0⟩, step⟩
  apply wpAny_bind
  refine wpAny_runOwn ?_
  rw [Around.mark_none]
  have known : ∀ (j : Nat) v, σ0[j]? = some (some v) → (wipe σ vs1)[j]? = some (some v) := fun j v e => by
    rw [← back] at e
    obtain ⟨e1, out⟩ := wipe_some e
    rw [wipe_out fun z => out (within j z)]
    exact e1
  have len : σ0.length = (wipe σ vs1).length := by rw [← back, wipe_length, wipe_length]
  have loop : codeAny (model Y.prog Y.w) Y.A (.compLoop (.DictComp kx vx [⟨a1, b1, i1, 0⟩, ⟨a2, b2, i2, 0⟩] scope pos) 1 (.ref it) (.ref D) Y.env)
      (fun r s' => match r with
        | .ok _ => ∃ σ' H', Inv Y pins σ' H' s' ∧ σ0.length = σ'.length ∧ (∀ (j : Nat) v, σ0[j]? = some (some v) → σ'[j]? = some (some v)) ∧ Q H'
        | .error _ => False) s2 :=
    clause_walks calm mute rfl pg1 pt1 (put_bodyT hu mute pk pv) T step (fun s' H' I' q => ⟨_, H', I', len, known, q⟩) (I2.weak (wipe_length _ _) fun j v e => (wipe_some e).1) st fps w0
  apply codeAny_mono (second_starts loop (T.self Y.A 0 _ _ _ st loop))
  intro r s3 hr
  cases r with
  | ok f =>
    first
      | exact wpAny_pure ⟨rfl, hr⟩
      | exact wpAny_bind (wpAny_pure (wpAny_pure ⟨rfl, hr⟩))
  | error e => exact hr.elim
end
end
section
variable {X : Cx}
theorem dc2_coreT {pins : List (Addr × Obj)} {s : Shared} {σ : L2.St} {H : Hp} {Q : VK} {pos' : Pos} {use : Option (Value → Sem Unit)} {Qf : Value → Shared → Prop} {kx vx a1 b1 a2 b2 : Expr} {i1 i2 : List Expr} {scope : Scope} {own : List (Str × Nat)} {vs1 : List Nat} {pos : Pos} {wi wi1 : TI} {g g1 : TG} {tt tt1 : TT} {tk tv : TE} (hu : X.A.units < cLine) (calm : X.calm = true) (nd : X.N.Nodup) (src : PI X a1 b1 wi) (ok : BlkOk X.N X.env.scope scope own) (within : ∀ i ∈ vs1, i ∈ own.map (·.2))
    (pg : ∀ (s : Shared) (H : Hp) (C : Addr) (cl : List (Str × Addr)) (fp : List Addr), PG (X.blk s H scope (compEnvC scope cl C X.env) fp) a1 g) (pt : ∀ (s : Shared) (H : Hp) (C : Addr) (cl : List (Str × Addr)) (fp : List Addr), PTs (X.blk s H scope (compEnvC scope cl C X.env) fp) i1 tt)
    (pi1 : ∀ (s : Shared) (H : Hp) (C : Addr) (cl : List (Str × Addr)) (fp : List Addr), PI (X.blk s H scope (compEnvC scope cl C X.env) fp) a2 b2 wi1)
    (pg1 : ∀ (s : Shared) (H : Hp) (C : Addr) (cl : List (Str × Addr)) (fp : List Addr), PG (X.blk s H scope (compEnvC scope cl C X.env) fp) a2 g1) (pt1 : ∀ (s : Shared) (H : Hp) (C : Addr) (cl : List (Str × Addr)) (fp : List Addr), PTs (X.blk s H scope (compEnvC scope cl C X.env) fp) i2 tt1)
    (pk : ∀ (s : Shared) (H : Hp) (C : Addr) (cl : List (Str × Addr)) (fp : List Addr), PE (X.blk s H scope (compEnvC scope cl C X.env) fp) kx tk) (pv : ∀ (s : Shared) (H : Hp) (C : Addr) (cl : List (Str × Addr)) (fp : List Addr), PE (X.blk s H scope (compEnvC scope cl C X.env) fp) vx tv)
    (plain : ∀ x, foldedSetIterable b1 X.env x = pure x) (plain1 : ∀ env x, foldedSetIterable b2 env x = pure x) (I : Inv X pins σ H s)
    (h : tDc2T wi g tt wi1 g1 tt1 tk tv (own.map (·.2)) vs1 σ H Q)
    (whole : ∀ D C s' m H', Inv X pins σ H' s' → Q (.ref D) H' → s'.heap.Ns C m → FpOk X pins H' C → compPost (model X.prog X.w) X.A X.xe use Qf (.ref D) C (.ok .next) s') :
    wpAny (model X.prog X.w) X.A (comprehension (.DictComp kx vx [⟨a1, b1, i1, 0⟩, ⟨a2, b2, i2, 0⟩] scope pos) scope X.env pos' newDict false (eval b1 X.env) use) Qf X.xe s := by
  have cells : ∀ y ∈ scope.names, y.2 = .free → ∃ c, X.env.cells.lookup y.1 = some c := fun y hy e => (ok.free y hy e).elim (fun k => I.ok.has _ (.inl k)) fun k => I.ok.has _ (.inr k)
  apply wpAny_comprehension_free rfl plain (closure_ok cells) ok.kind (fun y hy e => by rw [ok.uniq y hy, e])
  apply thn (src.run pins s σ H _ I h)
  intro x s1 h1
  apply thn h1
  rintro itv s2 ⟨it, fp, tn, J, H2, rfl, I2, T, st, fps, q⟩
  refine wpAny_newObj_type (newEnv_comp ?_)
  have new : H2 s2.heap.objs.size = none := I2.hok.fresh (Nat.le_refl _)
  obtain ⟨W, ⟨m, w0⟩, step⟩ := q _ new
  generalize eD : s2.heap.objs.size = D at *
  have grown : ∀ b o, s2.heap.get? b = some o → (s2.heap.push { cls := .type "dict", data := .dict #[] }).get? b = some o := fun b o e => Heap.get?_push_of_some _ e
  have I3 : Inv X pins σ (upd H2 D (.dT [])) { s2 with heap := s2.heap.push { cls := .type "dict", data := .dict #[] } } :=
    I2.laid (t' := s2.toks) grown (Nat.le_of_eq eD) (by rw [← eD]; exact dt_empty s2.heap I2.big)
  have low : ∀ b ∈ fp, b < s2.heap.objs.size := fun b hb => by
    obtain ⟨o, e, _⟩ := T.obj _ _ st b hb
    exact Heap.lt_size e
  have fp3 : ∀ b ∈ fp, FpOk X pins (upd H2 D (.dT [])) b ∧ b < ({ s2 with heap := s2.heap.push { cls := .type "dict", data := .dict #[] } } : Shared).heap.objs.size := fun b hb => by
    have lt := low b hb
    have nb : b ≠ D := by rw [← eD]; exact Nat.ne_of_lt lt
    exact ⟨⟨by rw [upd_ne nb]; exact (fps b hb).1, (fps b hb).2⟩, by show b < (s2.heap.push _).objs.size; rw [Heap.size_push]; exact Nat.lt_succ_of_lt lt⟩
  have I4 := block_start I3 ok nd fp3
  have st4 : tn 0 (pushCells ((s2.heap.push { cls := .type "dict", data := .dict #[] }).push { cls := .type "dict", data := .dict #[] }) scope.names) :=
    T.keep _ _ _ st fun b _ o e => pushCells_keeps _ _ _ _ (Heap.get?_push_of_some _ (grown b o e))
  generalize hs3 : ({ s2 with heap := s2.heap.push { cls := .type "dict", data := .dict #[] } } : Shared) = s3 at I3 fp3 I4 ⊢
  have none3 : ∀ b ∈ fp, (upd H2 D (.dT [])) b = none := fun b hb => (fp3 b hb).1.1
  generalize upd H2 D (.dT []) = H3 at I3 fp3 I4 w0 none3
  have pg := pg s3 H3 s3.heap.objs.size (cellsFrom (s3.heap.objs.size + 1) scope.names (cloFrom X.env.cells scope.names [])) fp
  have pt := pt s3 H3 s3.heap.objs.size (cellsFrom (s3.heap.objs.size + 1) scope.names (cloFrom X.env.cells scope.names [])) fp
  have pi1 := pi1 s3 H3 s3.heap.objs.size (cellsFrom (s3.heap.objs.size + 1) scope.names (cloFrom X.env.cells scope.names [])) fp
  have pg1 := pg1 s3 H3 s3.heap.objs.size (cellsFrom (s3.heap.objs.size + 1) scope.names (cloFrom X.env.cells scope.names [])) fp
  have pt1 := pt1 s3 H3 s3.heap.objs.size (cellsFrom (s3.heap.objs.size + 1) scope.names (cloFrom X.env.cells scope.names [])) fp
  have pk := pk s3 H3 s3.heap.objs.size (cellsFrom (s3.heap.objs.size + 1) scope.names (cloFrom X.env.cells scope.names [])) fp
  have pv := pv s3 H3 s3.heap.objs.size (cellsFrom (s3.heap.objs.size + 1) scope.names (cloFrom X.env.cells scope.names [])) fp
  show codeAny _ _ (.compStart (.DictComp kx vx [⟨a1, b1, i1, 0⟩, ⟨a2, b2, i2, 0⟩] scope pos) 0 (.ref it) (.ref D) (compEnvC scope (cellsFrom (s3.heap.objs.size + 1) scope.names (cloFrom X.env.cells scope.names [])) s3.heap.objs.size X.env)) _ { s3 with heap := pushCells (s3.heap.push { cls := .type "dict", data := .dict #[] }) scope.names }
  have st4 : tn 0 ({ s3 with heap := pushCells (s3.heap.push { cls := .type "dict", data := .dict #[] }) scope.names } : Shared).heap := by rw [← hs3]; exact st4
  generalize ({ s3 with heap := pushCells (s3.heap.push { cls := .type "dict", data := .dict #[] }) scope.names } : Shared) = s4 at I4 st4 ⊢
  have at_ : (compEnvC scope (cellsFrom (s3.heap.objs.size + 1) scope.names (cloFrom X.env.cells scope.names [])) s3.heap.objs.size X.env).locals = s3.heap.objs.size := rfl
  generalize compEnvC scope (cellsFrom (s3.heap.objs.size + 1) scope.names (cloFrom X.env.cells scope.names [])) s3.heap.objs.size X.env = ce at *
  have loop : codeAny (model X.prog X.w) X.A (.compLoop (.DictComp kx vx [⟨a1, b1, i1, 0⟩, ⟨a2, b2, i2, 0⟩] scope pos) 0 (.ref it) (.ref D) ce) (compPost (model X.prog X.w) X.A X.xe use Qf (.ref D) s3.heap.objs.size) s4 := by
    refine clause_walks (Y := X.blk s3 H3 scope ce fp) calm rfl rfl pg pt (second_bodyT (Y := X.blk s3 H3 scope ce fp) hu calm rfl within pi1 pg1 pt1 pk pv (plain1 ce)) T step (fun s' H' I' qq => ?_) I4 st4 (fun b hb => ?_) w0
    · have back : Inv X pins σ H' s' := I3.call' (ch := fp) I'.os I'.base I'.hok I'.bare fun b hb => by
        obtain ⟨_, f1, f2, f3, f4, f5⟩ := (fp3 b hb).1
        exact ⟨f3, f1, f4, f5⟩
      have free : H' s3.heap.objs.size = none := by
        have z : H' ce.locals = none := I'.free
        rw [at_] at z
        exact z
      obtain ⟨mm, hn, _⟩ := I'.loc
      have hn : s'.heap.Ns ce.locals mm := hn
      rw [at_] at hn
      exact whole D _ s' mm H' back qq hn (I3.fpOk (Nat.le_refl _) free)
    · exact ⟨none3 b hb, (I4.ok.exf b hb).1, I4.ok.exfs b hb, .inl hb, fun x c e => (I4.ok.exf b hb).2 x c e, fun p hp => absurd (show p ∈ ([] : List (Addr × Obj)) ++ [] from hp) (by simp)⟩
  exact codeAny_compStart_dict loop (T.self X.A 0 _ _ _ st4 loop)
theorem pe_dc2T {kx vx a1 b1 a2 b2 : Expr} {i1 i2 : List Expr} {scope : Scope} {own : List (Str × Nat)} {vs1 : List Nat} {pos : Pos} {wi wi1 : TI} {g g1 : TG} {tt tt1 : TT} {tk tv : TE} (hu : X.A.units < cLine) (calm : X.calm = true) (nd : X.N.Nodup) (src : PI X a1 b1 wi) (ok : BlkOk X.N X.env.scope scope own) (within : ∀ i ∈ vs1, i ∈ own.map (·.2))
    (pg : ∀ (s : Shared) (H : Hp) (C : Addr) (cl : List (Str × Addr)) (fp : List Addr), PG (X.blk s H scope (compEnvC scope cl C X.env) fp) a1 g) (pt : ∀ (s : Shared) (H : Hp) (C : Addr) (cl : List (Str × Addr)) (fp : List Addr), PTs (X.blk s H scope (compEnvC scope cl C X.env) fp) i1 tt)
    (pi1 : ∀ (s : Shared) (H : Hp) (C : Addr) (cl : List (Str × Addr)) (fp : List Addr), PI (X.blk s H scope (compEnvC scope cl C X.env) fp) a2 b2 wi1)
    (pg1 : ∀ (s : Shared) (H : Hp) (C : Addr) (cl : List (Str × Addr)) (fp : List Addr), PG (X.blk s H scope (compEnvC scope cl C X.env) fp) a2 g1) (pt1 : ∀ (s : Shared) (H : Hp) (C : Addr) (cl : List (Str × Addr)) (fp : List Addr), PTs (X.blk s H scope (compEnvC scope cl C X.env) fp) i2 tt1)
    (pk : ∀ (s : Shared) (H : Hp) (C : Addr) (cl : List (Str × Addr)) (fp : List Addr), PE (X.blk s H scope (compEnvC scope cl C X.env) fp) kx tk) (pv : ∀ (s : Shared) (H : Hp) (C : Addr) (cl : List (Str × Addr)) (fp : List Addr), PE (X.blk s H scope (compEnvC scope cl C X.env) fp) vx tv)
    (plain : ∀ x, foldedSetIterable b1 X.env x = pure x := by intro _; rfl) (plain1 : ∀ env x, foldedSetIterable b2 env x = pure x := by intro _ _; rfl) :
    PE X (.DictComp kx vx [⟨a1, b1, i1, 0⟩, ⟨a2, b2, i2, 0⟩] scope pos) (tDc2T wi g tt wi1 g1 tt1 tk tv (own.map (·.2)) vs1) := by
  constructor
  intro pins s σ H Q I h
  rw [arm_eval_DictComp]
  apply dc2_coreT hu calm nd src ok within pg pt pi1 pg1 pt1 pk pv plain plain1 I h
  intro D C s' m H' I' q hn f
  obtain ⟨f0, f1, f2, f3, f4, f5⟩ := f
  exact ⟨m, hn, fun h'' sb => ⟨.ref D, H', I'.turned (t' := s'.toks) (fun b o hb e => (sb.2 b hb).trans e) f0 f1 f3 f4 f5, rfl, q⟩⟩
theorem ps_setDc2T {i : Nat} {y : Str} {py spos : Pos} {kx vx a1 b1 a2 b2 : Expr} {i1 i2 : List Expr} {scope : Scope} {own : List (Str × Nat)} {vs1 : List Nat} {pos : Pos} {wi wi1 : TI} {g g1 : TG} {tt tt1 : TT} {tk tv : TE} (hu : X.A.units < cLine) (calm : X.calm = true) (nd : X.N.Nodup) (at_ : X.N[i]? = some y) (loc : X.env.scope.names.lookup y = some .local) (sw : swapsWith (.DictComp kx vx [⟨a1, b1, i1, 0⟩, ⟨a2, b2, i2, 0⟩] scope pos) (some (.Name y py)) spos.line X.env = pure true) (src : PI X a1 b1 wi) (ok : BlkOk X.N X.env.scope scope own) (within : ∀ i ∈ vs1, i ∈ own.map (·.2))
    (pg : ∀ (s : Shared) (H : Hp) (C : Addr) (cl : List (Str × Addr)) (fp : List Addr), PG (X.blk s H scope (compEnvC scope cl C X.env) fp) a1 g) (pt : ∀ (s : Shared) (H : Hp) (C : Addr) (cl : List (Str × Addr)) (fp : List Addr), PTs (X.blk s H scope (compEnvC scope cl C X.env) fp) i1 tt)
    (pi1 : ∀ (s : Shared) (H : Hp) (C : Addr) (cl : List (Str × Addr)) (fp : List Addr), PI (X.blk s H scope (compEnvC scope cl C X.env) fp) a2 b2 wi1)
    (pg1 : ∀ (s : Shared) (H : Hp) (C : Addr) (cl : List (Str × Addr)) (fp : List Addr), PG (X.blk s H scope (compEnvC scope cl C X.env) fp) a2 g1) (pt1 : ∀ (s : Shared) (H : Hp) (C : Addr) (cl : List (Str × Addr)) (fp : List Addr), PTs (X.blk s H scope (compEnvC scope cl C X.env) fp) i2 tt1)
    (pk : ∀ (s : Shared) (H : Hp) (C : Addr) (cl : List (Str × Addr)) (fp : List Addr), PE (X.blk s H scope (compEnvC scope cl C X.env) fp) kx tk) (pv : ∀ (s : Shared) (H : Hp) (C : Addr) (cl : List (Str × Addr)) (fp : List Addr), PE (X.blk s H scope (compEnvC scope cl C X.env) fp) vx tv)
    (plain : ∀ x, foldedSetIterable b1 X.env x = pure x := by intro _; rfl) (plain1 : ∀ env x, foldedSetIterable b2 env x = pure x := by intro _ _; rfl) :
    PS X (.Assign [.Name y py] (.DictComp kx vx [⟨a1, b1, i1, 0⟩, ⟨a2, b2, i2, 0⟩] scope pos) spos) (tAsg (tDc2T wi g tt wi1 g1 tt1 tk tv (own.map (·.2)) vs1) (gName i)) := by
  constructor
  intro pins s σ H D I h
  rw [exec_Assign_Name_used _ _ _ _ sw]
  apply wpAny_bind
  apply wpAny_standAt
  apply wpAny_bind
  show wpAny _ X.A (do let _ ← comprehension (.DictComp kx vx [⟨a1, b1, i1, 0⟩, ⟨a2, b2, i2, 0⟩] scope pos) scope X.env (firstIterPos [⟨a1, b1, i1, 0⟩, ⟨a2, b2, i2, 0⟩] pos) newDict false (eval b1 X.env) (some (assign (.Name y py) X.env))) _ _ s
  have told : tDc2T wi g tt wi1 g1 tt1 tk tv (own.map (·.2)) vs1 σ H (fun x H1 => gName i x σ H1 D.nx) := h
  apply wpAny_bind
  apply thn (dc2_coreT (Qf := fun _ s' => SP X pins D .next s') hu calm nd src ok within pg pt pi1 pg1 pt1 pk pv plain plain1 I told fun L C s' m H' I' q hn f => ?_)
  · exact fun _ s' hq => wpAny_pure (wpAny_pure hq)
  · show wpAny _ _ (assign (.Name y py) X.env (.ref L)) _ _ _
    refine wpAny_assign_Name (store_ok2 (v := V.ref L) I' nd at_ (.inl loc) rfl (fun s2 I2 more => ?_) (.inr loc))
    obtain ⟨a, sb, ha⟩ := more
    obtain ⟨f0, f1, f2, f3, f4, f5⟩ := f
    have apart : C ≠ a := ha.elim (fun z => by rw [z]; exact f1) fun z e => f4 y a z e.symm
    exact ⟨m, hn.sameBut sb apart, fun h3 sb3 => ⟨_, H', I2.turned (t' := s2.toks) (fun b o hb e => (sb3.2 b hb).trans e) f0 f1 f3 f4 f5, q⟩⟩
end
end Dl

/-! None not in a dict whose keys are tuples: my own rule -/
namespace Dl
open PySem PySem.Spec PyProof.Rows L2
section
variable {prog : Program} {w : World} {A : Around} {E : Value → Shared → Prop} {s : Shared}
theorem none_tells {K : Type} [DecidableEq K] {knd : HeapKind prog w K} {stored : List Value} {Q : Bool → Shared → Prop} (hst : ∀ v ∈ stored, ∃ k' b, v = .ref b ∧ knd.is s.heap k' b) (h : Q false s) : wpAny (model prog w) A (tableMayTell .none stored) Q E s := by
  unfold tableMayTell
  split
  · exact wpAny_pure h
  · refine wpAny_bind (wpAny_of_eq (eqIsQuiet_byValue 8 rfl) ?_)
    simp only [Bool.not_true, Bool.false_eq_true, if_false]
    refine wpAny_bind ?_
    refine wpAny_forIn_list _ (fun rest r s' => s' = s ∧ r = (none, ()) ∧ ∀ v ∈ rest, ∃ k' b, v = .ref b ∧ knd.is s.heap k' b) _ ?_ ?_ _ _ ⟨rfl, rfl, hst⟩
    · rintro x rest r s' ⟨rfl, rfl, hr⟩
      obtain ⟨k', b, rfl, hb⟩ := hr x List.mem_cons_self
      refine wpAny_bind (knd.quiet hb ?_)
      simp only [Bool.not_true, Bool.false_eq_true, if_false]
      exact wpAny_pure ⟨rfl, rfl, fun v hv => hr v (List.mem_cons_of_mem _ hv)⟩
    · rintro r s' ⟨rfl, rfl, _⟩
      exact wpAny_pure h
theorem none_find {d : Addr} {o : Obj} {es : Array DictEntry} {ep : Nat} {xs : List (List Key × Addr × Value)} {h : Int} {Q : Option Nat → Shared → Prop} (hu : A.units < cLine) (ho : s.heap.get? d = some o) (hd : o.data = .dict es ep)
    (he : es.toList = xs.map (entryOfKey (tupleKind (mixKind prog w)))) (his : ∀ x ∈ xs, (tupleKind (mixKind prog w)).is s.heap x.1 x.2.1) (hq : Q none s) : wpAny (model prog w) A (dictFind d .none h) Q E s := by
  have hmem : ∀ e ∈ es, ∃ x ∈ xs, e = entryOfKey (tupleKind (mixKind prog w)) x := by
    intro e hin
    have : e ∈ xs.map (entryOfKey (tupleKind (mixKind prog w))) := he ▸ Array.mem_toList_iff.mpr hin
    obtain ⟨x, hx, rfl⟩ := List.mem_map.mp this
    exact ⟨x, hx, rfl⟩
  have hst : ∀ v ∈ (placesWithHash es.size (fun i => es[i]?.map (·.hash)) h).filterMap (fun i => es[i]?.map (·.key)), ∃ k' b, v = .ref b ∧ (tupleKind (mixKind prog w)).is s.heap k' b := by
    intro v hv
    obtain ⟨i, _, hi⟩ := List.mem_filterMap.mp hv
    cases hei : es[i]? with
    | none => rw [hei] at hi; cases hi
    | some e =>
      rw [hei] at hi
      obtain rfl : e.key = v := by simpa using hi
      obtain ⟨x, hx, rfl⟩ := hmem e (Array.mem_of_getElem? hei)
      exact ⟨x.1, x.2.1, rfl, his x hx⟩
  have hpl : ∀ i ∈ placesWithHash es.size (fun i => es[i]?.map (·.hash)) h, i < es.size := fun i hi => by
    unfold placesWithHash at hi
    exact List.mem_range.mp (List.mem_filter.mp hi).1
  unfold dictFind
  try with_reducible refine wpAny_holding ?_
  refine wpAny_bind (wpAny_dictEntries ho hd ?_)
  dsimp only
  generalize placesWithHash es.size (fun i => es[i]?.map (·.hash)) h = pl at *
  cases pl with
  | nil =>
    rw [if_pos (by rfl)]
    refine wpAny_bind ?_
    rw [List.forIn_nil]
    exact wpAny_pure (wpAny_pure hq)
  | cons i r =>
    obtain ⟨e, hei⟩ : ∃ e, es[i]? = some e := ⟨_, Array.getElem?_eq_getElem (hpl i (List.mem_cons_self ..))⟩
    have hek : ∃ b, e.key = .ref b := by
      obtain ⟨x, _, rfl⟩ := hmem e (Array.mem_of_getElem? hei)
      exact ⟨_, rfl⟩
    obtain ⟨b, ek⟩ := hek
    have e1 : (i :: r).filterMap (fun i => es[i]?.map (·.key)) = .ref b :: r.filterMap (fun i => es[i]?.map (·.key)) := by
      rw [List.filterMap_cons, hei]
      simp [ek]
    rw [e1] at hst ⊢
    generalize r.filterMap (fun i => es[i]?.map (·.key)) = more at *
    rw [if_neg (by simp [carriedByValue])]
    have e2 : ((Value.ref b :: more) == [Value.none]) = false := by
      cases more <;> rfl
    rw [e2]
    rw [if_neg (by decide)]
    refine wpAny_bind ?_
    refine none_tells (knd := tupleKind (mixKind prog w)) hst ?_
    rw [if_neg (by simp)]
    refine wpAny_bind ?_
    refine wpAny_forIn_list _ (fun rest b' s' => s' = s ∧ b' = (none, none) ∧ ∀ j ∈ rest, j < es.size) _ ?_ ?_ _ _ ⟨rfl, rfl, hpl⟩
    · rintro x rest b' s' ⟨rfl, rfl, hr⟩
      have hx := hr x List.mem_cons_self
      have hrest : ∀ j ∈ rest, j < es.size := fun j hj => hr j (List.mem_cons_of_mem _ hj)
      obtain ⟨y, hy, ey⟩ := hmem _ (Array.mem_of_getElem? (Array.getElem?_eq_getElem hx))
      rw [Array.getElem?_eq_getElem hx]
      dsimp only
      by_cases hh : (es[x].hash == h) = true
      · rw [if_pos hh]
        obtain ⟨oo, items, n, g1, g2, g3, _⟩ := (show IsTupleKey (mixKind prog w) s'.heap y.1 y.2.1 from his y hy)
        have et : s'.heap.IsTuple y.2.1 items := ⟨oo, g1, g2, n, g3⟩
        have ekk : es[x].key = .ref y.2.1 := by rw [ey]; rfl
        rw [ekk]
        refine wpAny_bind (wpAny_dictEpoch ho hd (wpAny_bind (SeqAt.EqAt.tuple_none et hu _ _ _ _ (wpAny_bind (wpAny_dictEpoch ho hd ?_)))))
        show wpAny _ _ (if (ep != ep) = true then _ else _) _ E _
        rw [if_neg (by simp)]
        simp only [Bool.false_eq_true, if_false]
        refine wpAny_bind (wpAny_rule ?_)
        first | rw [if_neg (by simp)] | skip
        first
          | exact wpAny_pure ⟨rfl, rfl, hrest⟩
          | exact wpAny_bind (wpAny_pure (wpAny_pure ⟨rfl, rfl, hrest⟩))
      · rw [if_neg hh]
        exact wpAny_pure ⟨rfl, rfl, hrest⟩
    · rintro b' s' ⟨rfl, rfl, _⟩
      exact wpAny_pure hq
end
section
variable {X : Cx} {pins : List (Addr × Obj)} {σ : L2.St} {H : Hp} {s : Shared} {a : Addr} {kvs : List (List Key × V)} {A : Around} {E : Value → Shared → Prop}
theorem d_notInNoneT {Q : Value → Shared → Prop} (hu : A.units + 1 < cLine) (I : Inv X pins σ H s) (e : Rd H a (.dT kvs)) (h : ∀ s', Inv X pins σ H s' → Q (.bool true) s') : wpAny (model X.prog X.w) A (compareOp .NotIn .none (.ref a)) Q E s := by
  obtain ⟨_, hd, xs, _, dd⟩ := dt_rd I.hok e
  obtain ⟨o, es, ep, ho, hx, hdt, hk, hp, hn⟩ := id dd
  show wpAny _ _ (do return .bool (!(← contains (.ref a) .none))) Q E s
  refine wpAny_bind ?_
  unfold contains
  try with_reducible refine wpAny_holding ?_
  refine wpAny_bind (wpAny_specialOf dd.typeIs PySem.F.slot_dict_contains.lookup ?_)
  show wpAny _ _ (if (some (Value.builtin "dict.__contains__") == some Value.none) = true then _ else _) _ E s
  rw [if_neg (by rw [beq_builtin_none]; exact Bool.false_ne_true)]
  refine wpAny_bind (wpAny_callSpecialUnlessNone?_slot (name := Str.ofString "__contains__") dd.typeIs PySem.F.slot_dict_contains
    (wpAny_call_entry PySem.F.slot_dict_contains dd.typeIs PySem.F.entry_dict_contains ?_ (PySem.F.args_dict_contains_2 _ _)))
  show wpAny _ _ (dictGet a .none >>= _) _ _ s
  refine wpAny_bind ?_
  unfold dictGet
  try with_reducible refine wpAny_holding ?_
  refine wpAny_bind (PySem.W.pyHash_slot (T := "NoneType") rfl PySem.F.slot_NoneType_hash PySem.F.entry_NoneType_hash (PySem.F.args_NoneType_hash_1 _) (beq_builtin_none _) (.inl rfl) (wpAny_bind (wpAny_pure (wpAny_bind (wpAny_mkInt (wpAny_pure ⟨_, _, rfl, ?_⟩))))))
  refine wpAny_bind (none_find (es := es) (ep := ep) (xs := xs) (show A.in1.units < cLine from hu) ho hdt hk hp ?_)
  refine wpAny_pure ?_
  show wpAny _ _ (Builtin.Dict.pendingKey? a .none >>= _) _ _ _
  exact wpAny_bind (wpAny_pendingKey_other hd (wpAny_pure ⟨_, rfl, wpAny_truthy_bool (wpAny_pure (h _ (I.tok _)))⟩))
end
/-- y not in d, keys tuples; y may be None -/
def tDNotInT (ty td : TE) : TE := fun σ H Q => ty σ H fun y H1 => td σ H1 fun x H2 => (∃ a o, x = .ref a ∧ DGet H2 a y o ∧ Q (.bl (!o.isSome)) H2) ∨ ∃ a kvs, x = .ref a ∧ y = .non ∧ Rd H2 a (.dT kvs) ∧ Q (.bl true) H2
section
variable {X : Cx} {o i : Expr} {td ty : TE}
theorem pc_dnotinT (hu : X.A.units + 1 < cLine) (hi : PE X i ty) (ho : PE X o td) : PC X .NotIn i o (tDNotInT ty td) := by
  refine ⟨fun pins s σ H Q I h => ?_⟩
  refine thn (hi.run pins s σ H _ I h) fun iv s1 ⟨y, H1, I1, ry, q1⟩ => thn (ho.run pins s1 σ H1 _ I1 q1) fun u s2 ⟨x, H2, I2, rx, q2⟩ => ?_
  rcases q2 with ⟨a, ov, ex, g, q2⟩ | ⟨a, kvs, ex, ey, g, q2⟩
  · subst ex
    obtain rfl : u = Value.ref a := rx
    exact d_notIn hu I2 g ry fun s3 I3 => ⟨.bl (!ov.isSome), H2, I3, rfl, q2⟩
  · subst ex ey
    obtain rfl : u = Value.ref a := rx
    obtain rfl : iv = Value.none := ry
    exact d_notInNoneT hu I2 g fun s3 I3 => ⟨.bl true, H2, I3, rfl, q2⟩
end
end Dl

/-! sorted(a dict whose keys are tuples of texts): my own rule -/
namespace Dl
open PySem PySem.Spec PyProof.Rows L2
def txKey (k : List Str) : List Key := k.map Sum.inr
theorem txKey_V (k : List Str) : (txKey k).map kV = k.map V.str := by unfold txKey; rw [List.map_map]; rfl
theorem txKey_inj {a b : List Str} (h : txKey a = txKey b) : a = b := by
  unfold txKey at h
  induction a generalizing b with
  | nil => cases b with
    | nil => rfl
    | cons _ _ => cases h
  | cons x r ih => cases b with
    | nil => cases h
    | cons y q =>
      rw [List.map_cons, List.map_cons] at h
      injection h with h1 h2
      rw [Sum.inr.inj h1, ih h2]
theorem kt_keyed {H : Hp} : ∀ {kvs : List (List Key × V)} {xs : List (List Key × Addr × Value)} {ks : List (List Str)}, KT H kvs xs → kvs.map (·.1) = ks.map txKey → ∃ L : Keyed, L.map (·.2) = ks ∧ L.map (·.1) = xs.map (·.2.1) ∧ ∀ q ∈ L, H q.1 = some (.tup (q.2.map V.str))
  | [], _, ks, .nil, e => by
    cases ks with
    | nil => exact ⟨[], rfl, rfl, fun q h => absurd h (by simp)⟩
    | cons _ _ => cases e
  | p :: kvs, q :: xs, ks, .cons h t, e => by
    cases ks with
    | nil => cases e
    | cons k ks =>
      rw [List.map_cons, List.map_cons] at e
      injection e with e1 e2
      obtain ⟨L, l1, l2, l3⟩ := kt_keyed t e2
      obtain ⟨_, hb, _⟩ := h
      refine ⟨(q.2.1, k) :: L, by rw [List.map_cons, l1], by rw [List.map_cons, List.map_cons, l2], fun z hz => ?_⟩
      rcases List.mem_cons.mp hz with rfl | hz
      · rw [e1, txKey_V] at hb
        exact hb
      · exact l3 z hz
section
variable {X : Cx}
def rSortDT : List V → Hp → VK → Prop := fun vs H Q => ∃ (d : Addr) (kvs : List (List Key × V)) (ks : List (List Str)), vs = [V.ref d] ∧ Rd H d (.dT kvs) ∧ kvs.map (·.1) = ks.map txKey ∧ (∀ k ∈ ks, k ≠ []) ∧ ks.length < 64 ∧
  ∀ (L' : Keyed) (p : Addr), (∀ q ∈ L', H q.1 = some (.tup (q.2.map V.str))) → L'.map (·.2) = sortK ks → H p = none → Q (.ref p) (upd H p (.lst (L'.map fun q => V.ref q.1)))
theorem cr_sortDT (hc : X.calm = true) (hu : X.A.units + 64 < cLine) : CallR X (.builtin "sorted") rSortDT := by
  intro pins s σ H vs us Q I r h
  obtain ⟨d, kvs, ks, rfl, hd, ek, full, few, q⟩ := h
  rw [Vals.ref1 r]
  obtain ⟨z, lo, xs, rel, dd⟩ := dt_rd I.hok hd
  obtain ⟨o, es, ep, ho, hx, hdt, he, his, hn⟩ := id dd
  obtain ⟨L, l1, l2, l3⟩ := kt_keyed rel ek
  have ll : L.length = ks.length := by rw [← l1, List.length_map]
  have lx : xs.length = ks.length := by rw [← ll, ← List.length_map (f := fun q : Addr × List Str => q.1), l2, List.length_map]
  have les : es.size = ks.length := by rw [← Array.length_toList, he, List.length_map, lx]
  refine Calls.call_function_entry PyProof.Rows.kind_sorted PyProof.Rows.plain_sorted PyProof.Rows.entry_sorted (PyProof.Rows.args_sorted1 _) ?_
  unfold Builtin.«sorted»
  refine wpAny_bind (m := checkCount "sorted" 1 1 _) (wpAny_pure ?_)
  refine wpAny_bind (PySem.W.kdu_collect (A := X.A.in1) (kdl_raw lo hx hdt) (I.ok.hd hc) ho (by rw [les, sizeLine_eq]; omega) fun h' tk acc hk hacc => ?_)
  have I1 : Inv X pins σ H { s with heap := h', toks := tk } := I.kept (t' := tk) hk
  have eacc : acc.toList = L.map fun q => Value.ref q.1 := by
    apply List.ext_getElem?
    intro j
    by_cases hj : j < acc.size
    · obtain ⟨en, e1, e2⟩ := hacc.2 j acc[j] (Array.getElem?_eq_getElem hj)
      have e3 : es.toList[j]? = some en := by rw [Array.getElem?_toList]; exact e1
      rw [he, List.getElem?_map] at e3
      cases ex : xs[j]? with
      | none => rw [ex] at e3; cases e3
      | some x =>
        rw [ex] at e3
        have e3 := Option.some.inj e3
        have e4 : (L.map (·.1))[j]? = some x.2.1 := by rw [l2, List.getElem?_map, ex]; rfl
        rw [List.getElem?_map] at e4 ⊢
        cases eL : L[j]? with
        | none => rw [eL] at e4; cases e4
        | some y =>
          rw [eL] at e4
          have e4 := Option.some.inj e4
          rw [Array.getElem?_toList, Array.getElem?_eq_getElem hj, e2, ← e3]
          show some (Value.ref x.2.1) = some (Value.ref y.1)
          rw [← e4]
    · rw [List.getElem?_eq_none (by rw [Array.length_toList]; omega), List.getElem?_eq_none (by rw [List.length_map, ll, ← les, ← hacc.1]; omega)]
  rw [eacc]
  have hL : L.length ≤ sizeLine := by rw [ll, sizeLine_eq]; omega
  refine wpAny_bind (wpAny_newList ?_ (by rw [List.length_map]; exact hL))
  have hoL : (h'.push (seqObj "list" (L.map fun q => Value.ref q.1).toArray 0)).get? h'.objs.size = some (seqObj "list" (L.map fun q => Value.ref q.1).toArray 0) := Heap.get?_push_size _ rfl
  have reads : ∀ p ∈ L, Reads (h'.push (seqObj "list" (L.map fun q => Value.ref q.1).toArray 0)) (.ref p.1) (txData p.2) [] := fun p hp =>
    PyProof.Rows.Reads.keeps (fun _ _ e => Heap.get?_push_of_some _ e) ((tx_of I1 (SqT.of (l3 p hp))).reads (P := X.prog) (w := X.w))
  have alikes : PySem.W.AllAlike (L.map fun q : Addr × List Str => txData q.2) := PySem.W.AllAlike.of (enc := fun q : Addr × List Str => txData q.2) fun q r => by
    unfold txData
    rw [PySem.W.alike]
    exact alike_texts _ _
  have sortable : PySem.W.Sortable (L.map fun q : Addr × List Str => txData q.2) := .inl fun d hd => by
    obtain ⟨q, hq, rfl⟩ := List.mem_map.mp hd
    have ne := full q.2 (by rw [← l1]; exact List.mem_map_of_mem hq)
    cases e : q.2 with
    | nil => exact absurd e ne
    | cons z r => exact ⟨PyData.str z, r.map PyData.str, rfl⟩
  have flat : ∀ k : List Str, (txData k).depth ≤ 1 := fun k => by
    unfold txData
    rw [PyData.depth, depthAll_strs]
    omega
  show wpAny _ _ _ _ _ { s with heap := h'.push (seqObj "list" (L.map fun q => Value.ref q.1).toArray 0), toks := tk }
  refine wpAny_bind (wpAny_holding (PySem.W.list_sort_data (s := { s with heap := h'.push (seqObj "list" (L.map fun q => Value.ref q.1).toArray 0), toks := tk }) (R := fun v (q : Addr × List Str) => v = Value.ref q.1) (enc := fun q : Addr × List Str => txData q.2) (bs := L) hoL (each_of fun q _ => rfl) (each_of fun p hp => ⟨[], reads p hp, by simp⟩) alikes sortable hL (fun b _ => by have := flat b.2; show X.A.units + 1 + 1 + _ < _; omega) fun out len outs => ?_))
  have eo := each_back outs
  have perm := List.mergeSort_perm L (PySem.W.dataLe false fun q : Addr × List Str => txData q.2)
  have keys : (L.mergeSort (PySem.W.dataLe false fun q : Addr × List Str => txData q.2)).map (·.2) = sortK ks := by
    rw [← l1]
    exact List.map_mergeSort fun _ _ _ _ => rfl
  obtain ⟨c, at_⟩ := PyProof.Rows.sortedHeap_at (vs := L.map fun q => Value.ref q.1) (out := List.toArray out) hoL
  have J : Inv X pins σ (upd H h'.objs.size (.lst ((L.mergeSort (PySem.W.dataLe false fun q : Addr × List Str => txData q.2)).map fun q => V.ref q.1))) { s with heap := sortedHeap (h'.push (seqObj "list" (L.map fun q => Value.ref q.1).toArray 0)) h'.objs.size (L.map fun q => Value.ref q.1) (List.toArray out), toks := tk } :=
    I1.laid (t' := tk) (fun b u e => by
      have hb : b < h'.objs.size := Heap.lt_size e
      rw [PyProof.Rows.sortedHeap_old (Nat.ne_of_lt hb) (by rw [size_push']; exact Nat.lt_succ_of_lt hb)]
      exact Heap.get?_push_of_some _ e) (Nat.le_refl _) ⟨by rw [List.length_map, perm.length_eq]; exact hL, out, c, by rw [eo]; exact vals_tx _, by simpa using at_⟩
  exact wpAny_pure ⟨_, rfl, .ref h'.objs.size, _, J, rfl, q _ _ (fun y hy => l3 y (perm.subset hy)) keys (I1.hok.fresh (Nat.le_refl _))⟩
end
end Dl

/-! a list comprehension with three fors: my own rule, after r_dc2 -/
namespace Dl
open PySem PySem.Spec PyProof.Rows L2
section
variable {prog : Program} {w : World} {A : Around} {R : Result → Shared → Prop} {s : Shared}
theorem loop_turnsL {elt : Expr} {gs : List Comprehension} {scope : Scope} {pos : Pos} {d : Nat} {tg : Expr} {ifs : List Expr} {p : Pos} {it acc : Value} {env : Env} {full : Sem PySem.Fin}
    (shape : compTurn (.ListComp elt gs scope pos) d it acc env = (do
      standAt p
      match ← pyNext it with
      | none => pure (.done .next)
      | some v =>
        letOwnedTupleGo tg it v
        assign tg env v
        let mut ok := true
        for c in ifs do
          if ok then ok ← isTrue c env (eval c env)
        if ok then full else again (.compLoop (.ListComp elt gs scope pos) d it acc env)))
    (I : Nat → Shared → Prop)
    (turn : ∀ n s, I n s → wpAny (model prog w) A (pyNext it) (fun r t1 => match r with
      | none => R (.ok .next) t1
      | some v => wpAny (model prog w) A (letOwnedTupleGo tg it v) (fun _ t2 => wpAny (model prog w) A (assign tg env v) (fun _ t3 =>
          wpAny (model prog w) A (forIn ifs true fun c r => if r = true then do let ok ← isTrue c env (eval c env); pure (ForInStep.yield ok) else pure (ForInStep.yield r)) (fun ok t4 =>
            if ok = true then wpAny (model prog w) A full (fun fin t5 => fin = .again (.compLoop (.ListComp elt gs scope pos) d it acc env) ∧ ∃ m, m < n ∧ I m t5) (notedBy (model prog w) A env fun x t => R (.error x) t) t4
            else ∃ m, m < n ∧ I m t4) (notedBy (model prog w) A env fun x t => R (.error x) t) t3) (notedBy (model prog w) A env fun x t => R (.error x) t) t2) (notedBy (model prog w) A env fun x t => R (.error x) t) t1) (notedBy (model prog w) A env fun x t => R (.error x) t) s)
    (n : Nat) (h : I n s) : codeAny (model prog w) A (.compLoop (.ListComp elt gs scope pos) d it acc env) R s := by
  apply codeAny_loop rfl I _ n h
  intro k t hk
  show wpAny _ A ((compTurn (.ListComp elt gs scope pos) d it acc env).onRaise fun x => do noteFrame x env; theTreesLotGoes x) _ _ t
  apply wpAny_noted
  rw [shape]
  apply wpAny_bind
  apply wpAny_standAt
  apply wpAny_bind
  apply wpAny_mono (turn k t hk) _ (fun _ _ z => z)
  intro r t1 h1
  cases r with
  | none => exact wpAny_pure h1
  | some v =>
    apply wpAny_bind
    apply wpAny_mono h1 _ (fun _ _ z => z)
    intro _ t2 h2
    apply wpAny_bind
    apply wpAny_mono h2 _ (fun _ _ z => z)
    intro _ t3 h3
    apply wpAny_bind
    apply wpAny_mono h3 _ (fun _ _ z => z)
    intro ok t4 h4
    cases ok with
    | false => exact wpAny_pure ⟨rfl, h4⟩
    | true =>
      apply wpAny_mono h4 _ (fun _ _ z => z)
      rintro fin t5 ⟨rfl, h5⟩
      exact ⟨rfl, h5⟩
theorem starts1L {elt a1 b1 a2 b2 a3 b3 : Expr} {i1 i2 i3 : List Expr} {scope : Scope} {pos : Pos} {it acc : Value} {env : Env}
    (gen : codeAny (model prog w) A (.compLoop (.ListComp elt [⟨a1, b1, i1, 0⟩, ⟨a2, b2, i2, 0⟩, ⟨a3, b3, i3, 0⟩] scope pos) 1 it acc env) R s)
    (plain : wpAny (model prog w) A (pyIter it) (fun jt t => codeAny (model prog w) A (.compLoop (.ListComp elt [⟨a1, b1, i1, 0⟩, ⟨a2, b2, i2, 0⟩, ⟨a3, b3, i3, 0⟩] scope pos) 1 jt acc env) R t) (notedBy (model prog w) A env fun x t => R (.error x) t) s) :
    codeAny (model prog w) A (.compStart (.ListComp elt [⟨a1, b1, i1, 0⟩, ⟨a2, b2, i2, 0⟩, ⟨a3, b3, i3, 0⟩] scope pos) 1 it acc env) R s := by
  apply codeAny_of_tree
  show wpAny _ _ ((compStart (.ListComp elt [⟨a1, b1, i1, 0⟩, ⟨a2, b2, i2, 0⟩, ⟨a3, b3, i3, 0⟩] scope pos) 1 it acc env).onRaise fun x => do noteFrame x env; standAt theWindowsPlace) _ _ s
  apply wpAny_notedAt
  unfold compStart
  show wpAny _ _ (ask >>= _) _ _ s
  apply wpAny_bind
  apply wpAny_askSetting
  apply wpAny_ite
  split
  · first
      | exact wpAny_pure ⟨rfl, gen⟩
      | exact wpAny_bind (wpAny_pure (wpAny_pure ⟨rfl, gen⟩))
  · apply wpAny_bind
    apply wpAny_rule
    first
      | exact wpAny_bind (wpAny_standAt (wpAny_bind (wpAny_mono plain (fun jt t z => wpAny_pure ⟨rfl, z⟩) fun _ _ x => x)))
      | (show wpAny _ _ (standAt b2.pos >>= _) _ _ s; exact wpAny_bind (wpAny_standAt (wpAny_bind (wpAny_mono plain (fun jt t z => wpAny_pure ⟨rfl, z⟩) fun _ _ x => x))))
theorem starts2L {elt a1 b1 a2 b2 a3 b3 : Expr} {i1 i2 i3 : List Expr} {scope : Scope} {pos : Pos} {it acc : Value} {env : Env}
    (gen : codeAny (model prog w) A (.compLoop (.ListComp elt [⟨a1, b1, i1, 0⟩, ⟨a2, b2, i2, 0⟩, ⟨a3, b3, i3, 0⟩] scope pos) 2 it acc env) R s)
    (plain : wpAny (model prog w) A (pyIter it) (fun jt t => codeAny (model prog w) A (.compLoop (.ListComp elt [⟨a1, b1, i1, 0⟩, ⟨a2, b2, i2, 0⟩, ⟨a3, b3, i3, 0⟩] scope pos) 2 jt acc env) R t) (notedBy (model prog w) A env fun x t => R (.error x) t) s) :
    codeAny (model prog w) A (.compStart (.ListComp elt [⟨a1, b1, i1, 0⟩, ⟨a2, b2, i2, 0⟩, ⟨a3, b3, i3, 0⟩] scope pos) 2 it acc env) R s := by
  apply codeAny_of_tree
  show wpAny _ _ ((compStart (.ListComp elt [⟨a1, b1, i1, 0⟩, ⟨a2, b2, i2, 0⟩, ⟨a3, b3, i3, 0⟩] scope pos) 2 it acc env).onRaise fun x => do noteFrame x env; standAt theWindowsPlace) _ _ s
  apply wpAny_notedAt
  unfold compStart
  show wpAny _ _ (ask >>= _) _ _ s
  apply wpAny_bind
  apply wpAny_askSetting
  apply wpAny_ite
  split
  · first
      | exact wpAny_pure ⟨rfl, gen⟩
      | exact wpAny_bind (wpAny_pure (wpAny_pure ⟨rfl, gen⟩))
  · apply wpAny_bind
    apply wpAny_rule
    first
      | exact wpAny_bind (wpAny_standAt (wpAny_bind (wpAny_mono plain (fun jt t z => wpAny_pure ⟨rfl, z⟩) fun _ _ x => x)))
      | (show wpAny _ _ (standAt b3.pos >>= _) _ _ s; exact wpAny_bind (wpAny_standAt (wpAny_bind (wpAny_mono plain (fun jt t z => wpAny_pure ⟨rfl, z⟩) fun _ _ x => x))))
end
section
variable {Y : Cx}
theorem clause_walksL (calm : Y.calm = true) (mute : Y.xe = fun _ _ => False) {elt : Expr} {gs : List Comprehension} {scope : Scope} {pos p : Pos} {d : Nat} {tg : Expr} {ifs : List Expr} {it : Addr} {acc : Value} {full : Sem PySem.Fin} {R : Result → Shared → Prop}
    (shape : compTurn (.ListComp elt gs scope pos) d (.ref it) acc Y.env = (do
      standAt p
      match ← pyNext (.ref it) with
      | none => pure (.done .next)
      | some v =>
        letOwnedTupleGo tg (.ref it) v
        assign tg Y.env v
        let mut ok := true
        for c in ifs do
          if ok then ok ← isTrue c Y.env (eval c Y.env)
        if ok then full else again (.compLoop (.ListComp elt gs scope pos) d (.ref it) acc Y.env)))
    {g : TG} {tt : TT} (pg : PG Y tg g) (pt : PTs Y ifs tt) {vs : List Nat} {σ0 : L2.St} {tb : L2.St → Hp → (Hp → Prop) → Prop}
    (pb : ∀ (pins : List (Addr × Obj)) (s : Shared) (σ : L2.St) (H : Hp) (Q : Hp → Prop), Inv Y pins σ H s → wipe σ vs = σ0 → tb σ H Q →
      wpAny (model Y.prog Y.w) Y.A full (fun fin s' => fin = .again (.compLoop (.ListComp elt gs scope pos) d (.ref it) acc Y.env) ∧ ∃ σ' H', Inv Y pins σ' H' s' ∧ σ0.length = σ'.length ∧ (∀ (j : Nat) v, σ0[j]? = some (some v) → σ'[j]? = some (some v)) ∧ Q H') (fun _ _ => False) s)
    {fp : List Addr} {tn : Nat → Heap → Prop} {J : It} (T : Turn Y.prog Y.w Y.K tg J fp it tn) {pins : List (Addr × Obj)} {W : Nat → Nat → Hp → Prop} {Fin : Hp → Prop}
    (step : ∀ i m H, W i m H → (J.stop i H ∧ Fin H) ∨ (J.go i H ∧ ∃ Nx : Hp → Prop, (∀ H', Nx H' → ∃ m', m' < m ∧ W (i + 1) m' H') ∧ ∀ x H', J.yld i H x H' → g x σ0 H' fun σ2 H2 => wipe σ2 vs = σ0 ∧ tt σ2 H2 fun b H3 => if b = true then tb σ2 H3 Nx else Nx H3))
    (last : ∀ s' H', Inv Y pins σ0 H' s' → Fin H' → R (.ok .next) s')
    {s : Shared} {H : Hp} {m : Nat} (I : Inv Y pins σ0 H s) (st : tn 0 s.heap) (fps : ∀ b ∈ fp, FpOk Y pins H b) (w0 : W 0 m H) :
    codeAny (model Y.prog Y.w) Y.A (.compLoop (.ListComp elt gs scope pos) d (.ref it) acc Y.env) R s := by
  have own : ∀ {H' : Hp}, (∀ b ∈ fp, H' b = none) → ∀ b ∈ fp, FpOk Y pins H' b := fun hn b hb => ⟨hn b hb, (fps b hb).2⟩
  apply loop_turnsL shape (fun m s' => ∃ i H', Inv Y pins σ0 H' s' ∧ tn i s'.heap ∧ (∀ b ∈ fp, H' b = none) ∧ W i m H') _ m ⟨0, H, I, st, fun b hb => (fps b hb).1, w0⟩
  rintro m s1 ⟨i, H1, I1, st1, n1, w1⟩
  rcases step i m H1 w1 with ⟨hs, hf⟩ | ⟨hg, Nx, less, go⟩
  · apply thnF (T.done Y rfl rfl rfl calm i pins s1 σ0 H1 (fun _ _ => False) I1 (own n1) st1 hs)
    rintro r s2 ⟨rfl, I2⟩
    exact last s2 H1 I2 hf
  apply thnF (T.item Y rfl rfl rfl calm i pins s1 σ0 H1 (fun _ _ => False) I1 (own n1) st1 hg)
  rintro r s2 ⟨u, rfl, more⟩
  apply thnF more
  rintro _ s3 ⟨x, H3, I3, rel, yl, st3, n3⟩
  have P3 := I3.pinned (own n3) (T.obj _ _ st3)
  have quiet : ∀ {α : Type} {t : Sem α} {Q : α → Shared → Prop} {z : Shared}, wpAny (model Y.prog Y.w) Y.A t Q Y.xe z → wpAny (model Y.prog Y.w) Y.A t Q (fun _ _ => False) z := fun h => by rw [mute] at h; exact h
  -- back at the clause's head
  have again_ : ∀ {σ' : L2.St} {s' : Shared} {H' : Hp}, Inv Y (pins ++ pinsAt fp s3.heap) σ' H' s' → σ0.length = σ'.length → (∀ (j : Nat) v, σ0[j]? = some (some v) → σ'[j]? = some (some v)) → Nx H' →
      ∃ m', m' < m ∧ ∃ i H', Inv Y pins σ0 H' s' ∧ tn i s'.heap ∧ (∀ b ∈ fp, H' b = none) ∧ W i m' H' := fun {σ' s' H'} I' len known nx => by
    obtain ⟨m', lt, w'⟩ := less H' nx
    have held : ∀ b ∈ fp, ∀ o, s3.heap.get? b = some o → s'.heap.get? b = some o ∧ H' b = none := fun b hb o e => by
      have z := I'.pin (b, o) (List.mem_append_right _ (List.mem_append_right _ (mem_pinsAt hb e)))
      exact ⟨z.1, z.2.1⟩
    refine ⟨m', lt, i + 1, H', I'.unpinned.weak len known, T.keep _ _ _ st3 (fun b hb o e => (held b hb o e).1), fun b hb => ?_, w'⟩
    obtain ⟨o, e, _⟩ := T.obj _ _ st3 b hb
    exact (held b hb o e).2
  apply thnF (quiet (pg.run _ s3 σ0 H3 x u _ P3 rel (go x H3 yl)))
  rintro _ s4 ⟨σ4, H4, I4, back, q4⟩
  have len4 : σ0.length = σ4.length := by rw [← back, wipe_length]
  have known4 : ∀ (j : Nat) v, σ0[j]? = some (some v) → σ4[j]? = some (some v) := fun j v e => by
    rw [← back] at e
    exact (wipe_some e).1
  apply thnF (quiet (pt.run _ s4 σ4 H4 _ I4 q4))
  rintro b s5 ⟨H5, I5, q5⟩
  cases b with
  | false => exact again_ I5 len4 known4 q5
  | true =>
    apply thnF (pb _ s5 σ4 H5 Nx I5 back q5)
    rintro fin s6 ⟨rfl, σ6, H6, I6, len6, known6, nx⟩
    exact ⟨rfl, again_ I6 len6 known6 nx⟩
def tApp (te : TE) (D : Addr) : L2.St → Hp → (Hp → Prop) → Prop := fun σ H Q => te σ H fun y H1 => ∃ acc, H1 D = some (.lst acc) ∧ acc.length < sizeLine ∧ Q (upd H1 D (.lst (acc ++ [y])))
def tLc3 (wi : TI) (g : TG) (tt : TT) (wi1 : TI) (g1 : TG) (tt1 : TT) (wi2 : TI) (g2 : TG) (tt2 : TT) (te : TE) (vs vs1 vs2 : List Nat) : TE := fun σ H Q => wi σ H fun J H1 => ∀ D, H1 D = none → ∃ W : Nat → Nat → Hp → Prop, (∃ m, W 0 m (upd H1 D (.lst []))) ∧ ∀ i m H, W i m H →
  (J.stop i H ∧ Q (.ref D) H) ∨ (J.go i H ∧ ∃ Nx : Hp → Prop, (∀ H', Nx H' → ∃ m', m' < m ∧ W (i + 1) m' H') ∧ ∀ x H', J.yld i H x H' → g x (wipe σ vs) H' fun σ2 H2 => wipe σ2 vs = wipe σ vs ∧ tt σ2 H2 fun b H3 =>
    if b = true then tSecond wi1 g1 tt1 (tSecond wi2 g2 tt2 (tApp te D) vs2) vs1 σ2 H3 Nx else Nx H3)
section
variable {elt a1 b1 a2 b2 a3 b3 : Expr} {i1 i2 i3 : List Expr} {scope : Scope} {pos : Pos} {D : Addr}
theorem app_bodyL (mute : Y.xe = fun _ _ => False) {te : TE} {it : Value} (pe : PE Y elt te) {vs : List Nat} {σ0 : L2.St} (pins : List (Addr × Obj)) (s : Shared) (σ : L2.St) (H : Hp) (Q : Hp → Prop) (I : Inv Y pins σ H s) (back : wipe σ vs = σ0) (h : tApp te D σ H Q) :
    wpAny (model Y.prog Y.w) Y.A (do
      (do let _ ← call (.builtin "list.append") [.ref D, ← eval elt Y.env])
      again (.compLoop (.ListComp elt [⟨a1, b1, i1, 0⟩, ⟨a2, b2, i2, 0⟩, ⟨a3, b3, i3, 0⟩] scope pos) 2 it (.ref D) Y.env)) (fun fin s' => fin = .again (.compLoop (.ListComp elt [⟨a1, b1, i1, 0⟩, ⟨a2, b2, i2, 0⟩, ⟨a3, b3, i3, 0⟩] scope pos) 2 it (.ref D) Y.env) ∧ ∃ σ' H', Inv Y pins σ' H' s' ∧ σ0.length = σ'.length ∧ (∀ (j : Nat) v, σ0[j]? = some (some v) → σ'[j]? = some (some v)) ∧ Q H') (fun _ _ => False) s := by
  have quiet : ∀ {α : Type} {t : Sem α} {Q : α → Shared → Prop} {z : Shared}, wpAny (model Y.prog Y.w) Y.A t Q Y.xe z → wpAny (model Y.prog Y.w) Y.A t Q (fun _ _ => False) z := fun h => by rw [mute] at h; exact h
  apply wpAny_bind
  apply wpAny_bind
  apply thnF (quiet (pe.run pins s σ H _ I h))
  rintro u s1 ⟨y, H1, I1, r1, acc, hD, room, q1⟩
  apply wpAny_bind
  refine wpAny_mono (app_ok (X := Y) (Q := fun _ s' => Inv Y pins σ (upd H1 D (.lst (acc ++ [y]))) s') I1 hD room r1 fun s2 I2 => I2) (fun _ s3 I3 => ?_) fun _ _ h => h
  refine wpAny_pure (wpAny_pure ⟨rfl, σ, _, I3, by rw [← back, wipe_length], fun j v e => by rw [← back] at e; exact (wipe_some e).1, q1⟩)
theorem third_bodyL {it0 : Value} (calm : Y.calm = true) (mute : Y.xe = fun _ _ => False) {wi1 : TI} {g1 : TG} {tt1 : TT} {te : TE} {vs vs1 : List Nat} (within : ∀ i ∈ vs1, i ∈ vs) (pi1 : PI Y a3 b3 wi1) (pg1 : PG Y a3 g1) (pt1 : PTs Y i3 tt1) (pe : PE Y elt te)
    (plain : ∀ x, foldedSetIterable b3 Y.env x = pure x) {σ0 : L2.St} (pins : List (Addr × Obj)) (s : Shared) (σ : L2.St) (H : Hp) (Q : Hp → Prop) (I : Inv Y pins σ H s) (back : wipe σ vs = σ0) (h : tSecond wi1 g1 tt1 (tApp te D) vs1 σ H Q) :
    wpAny (model Y.prog Y.w) Y.A (do
      let x ← eval b3 Y.env
      standAt b3.pos
      let x ← foldedSetIterable b3 Y.env x
      let _ ← runOwn (.compStart (.ListComp elt [⟨a1, b1, i1, 0⟩, ⟨a2, b2, i2, 0⟩, ⟨a3, b3, i3, 0⟩] scope pos) 2 (← holding [x] (pyIter x)) (.ref D) Y.env) Y.env
      again (.compLoop (.ListComp elt [⟨a1, b1, i1, 0⟩, ⟨a2, b2, i2, 0⟩, ⟨a3, b3, i3, 0⟩] scope pos) 1 it0 (.ref D) Y.env)) (fun fin s' => fin = .again (.compLoop (.ListComp elt [⟨a1, b1, i1, 0⟩, ⟨a2, b2, i2, 0⟩, ⟨a3, b3, i3, 0⟩] scope pos) 1 it0 (.ref D) Y.env) ∧ ∃ σ' H', Inv Y pins σ' H' s' ∧ σ0.length = σ'.length ∧ (∀ (j : Nat) v, σ0[j]? = some (some v) → σ'[j]? = some (some v)) ∧ Q H') (fun _ _ => False) s := by
  have quiet : ∀ {α : Type} {t : Sem α} {Q : α → Shared → Prop} {z : Shared}, wpAny (model Y.prog Y.w) Y.A t Q Y.xe z → wpAny (model Y.prog Y.w) Y.A t Q (fun _ _ => False) z := fun h => by rw [mute] at h; exact h
  apply wpAny_bind
  have first := pi1.run pins s σ H _ I h
  rw [mute] at first
  apply thnF first
  intro x s1 h1
  apply wpAny_bind
  apply wpAny_standAt
  apply wpAny_bind
  apply wpAny_of_eq (plain x)
  apply wpAny_bind
  apply wpAny_holding
  apply thnF h1
  rintro itv s2 ⟨it, fp, tn, J, H2, rfl, I2, T, st, fps, W, ⟨m, w0⟩, step⟩
  apply wpAny_bind
  refine wpAny_runOwn ?_
  rw [Around.mark_none]
  have known : ∀ (j : Nat) v, σ0[j]? = some (some v) → (wipe σ vs1)[j]? = some (some v) := fun j v e => by
    rw [← back] at e
    obtain ⟨e1, out⟩ := wipe_some e
    rw [wipe_out fun z => out (within j z)]
    exact e1
  have len : σ0.length = (wipe σ vs1).length := by rw [← back, wipe_length, wipe_length]
  have loop : codeAny (model Y.prog Y.w) Y.A (.compLoop (.ListComp elt [⟨a1, b1, i1, 0⟩, ⟨a2, b2, i2, 0⟩, ⟨a3, b3, i3, 0⟩] scope pos) 2 (.ref it) (.ref D) Y.env)
      (fun r s' => match r with
        | .ok _ => ∃ σ' H', Inv Y pins σ' H' s' ∧ σ0.length = σ'.length ∧ (∀ (j : Nat) v, σ0[j]? = some (some v) → σ'[j]? = some (some v)) ∧ Q H'
        | .error _ => False) s2 :=
    clause_walksL calm mute rfl pg1 pt1 (app_bodyL mute pe) T step (fun s' H' I' q => ⟨_, H', I', len, known, q⟩) (I2.weak (wipe_length _ _) fun j v e => (wipe_some e).1) st fps w0
  apply codeAny_mono (starts2L loop (T.self Y.A 0 _ _ _ st loop))
  intro r s3 hr
  cases r with
  | ok f =>
    first
      | exact wpAny_pure ⟨rfl, hr⟩
      | exact wpAny_bind (wpAny_pure (wpAny_pure ⟨rfl, hr⟩))
  | error e => exact hr.elim
theorem second_bodyL {it0 : Value} (calm : Y.calm = true) (mute : Y.xe = fun _ _ => False) {wi1 wi2 : TI} {g1 g2 : TG} {tt1 tt2 : TT} {te : TE} {vs vs1 vs2 : List Nat} (within : ∀ i ∈ vs1, i ∈ vs) (pi1 : PI Y a2 b2 wi1) (pg1 : PG Y a2 g1) (pt1 : PTs Y i2 tt1) (within2 : ∀ i ∈ vs2, i ∈ vs1) (pi2 : PI Y a3 b3 wi2) (pg2 : PG Y a3 g2) (pt2 : PTs Y i3 tt2) (pe : PE Y elt te) (plain2 : ∀ x, foldedSetIterable b3 Y.env x = pure x)
    (plain : ∀ x, foldedSetIterable b2 Y.env x = pure x) {σ0 : L2.St} (pins : List (Addr × Obj)) (s : Shared) (σ : L2.St) (H : Hp) (Q : Hp → Prop) (I : Inv Y pins σ H s) (back : wipe σ vs = σ0) (h : tSecond wi1 g1 tt1 (tSecond wi2 g2 tt2 (tApp te D) vs2) vs1 σ H Q) :
    wpAny (model Y.prog Y.w) Y.A (do
      let x ← eval b2 Y.env
      standAt b2.pos
      let x ← foldedSetIterable b2 Y.env x
      let _ ← runOwn (.compStart (.ListComp elt [⟨a1, b1, i1, 0⟩, ⟨a2, b2, i2, 0⟩, ⟨a3, b3, i3, 0⟩] scope pos) 1 (← holding [x] (pyIter x)) (.ref D) Y.env) Y.env
      again (.compLoop (.ListComp elt [⟨a1, b1, i1, 0⟩, ⟨a2, b2, i2, 0⟩, ⟨a3, b3, i3, 0⟩] scope pos) 0 it0 (.ref D) Y.env)) (fun fin s' => fin = .again (.compLoop (.ListComp elt [⟨a1, b1, i1, 0⟩, ⟨a2, b2, i2, 0⟩, ⟨a3, b3, i3, 0⟩] scope pos) 0 it0 (.ref D) Y.env) ∧ ∃ σ' H', Inv Y pins σ' H' s' ∧ σ0.length = σ'.length ∧ (∀ (j : Nat) v, σ0[j]? = some (some v) → σ'[j]? = some (some v)) ∧ Q H') (fun _ _ => False) s := by
  have quiet : ∀ {α : Type} {t : Sem α} {Q : α → Shared → Prop} {z : Shared}, wpAny (model Y.prog Y.w) Y.A t Q Y.xe z → wpAny (model Y.prog Y.w) Y.A t Q (fun _ _ => False) z := fun h => by rw [mute] at h; exact h
  apply wpAny_bind
  have first := pi1.run pins s σ H _ I h
  rw [mute] at first
  apply thnF first
  intro x s1 h1
  apply wpAny_bind
  apply wpAny_standAt
  apply wpAny_bind
  apply wpAny_of_eq (plain x)
  apply wpAny_bind
  apply wpAny_holding
  apply thnF h1
  rintro itv s2 ⟨it, fp, tn, J, H2, rfl, I2, T, st, fps, W, ⟨m, w0⟩, step⟩
  apply wpAny_bind
  refine wpAny_runOwn ?_
  rw [Around.mark_none]
  have known : ∀ (j : Nat) v, σ0[j]? = some (some v) → (wipe σ vs1)[j]? = some (some v) := fun j v e => by
    rw [← back] at e
    obtain ⟨e1, out⟩ := wipe_some e
    rw [wipe_out fun z => out (within j z)]
    exact e1
  have len : σ0.length = (wipe σ vs1).length := by rw [← back, wipe_length, wipe_length]
  have loop : codeAny (model Y.prog Y.w) Y.A (.compLoop (.ListComp elt [⟨a1, b1, i1, 0⟩, ⟨a2, b2, i2, 0⟩, ⟨a3, b3, i3, 0⟩] scope pos) 1 (.ref it) (.ref D) Y.env)
      (fun r s' => match r with
        | .ok _ => ∃ σ' H', Inv Y pins σ' H' s' ∧ σ0.length = σ'.length ∧ (∀ (j : Nat) v, σ0[j]? = some (some v) → σ'[j]? = some (some v)) ∧ Q H'
        | .error _ => False) s2 :=
    clause_walksL calm mute rfl pg1 pt1 (third_bodyL calm mute within2 pi2 pg2 pt2 pe plain2) T step (fun s' H' I' q => ⟨_, H', I', len, known, q⟩) (I2.weak (wipe_length _ _) fun j v e => (wipe_some e).1) st fps w0
  apply codeAny_mono (starts1L loop (T.self Y.A 0 _ _ _ st loop))
  intro r s3 hr
  cases r with
  | ok f =>
    first
      | exact wpAny_pure ⟨rfl, hr⟩
      | exact wpAny_bind (wpAny_pure (wpAny_pure ⟨rfl, hr⟩))
  | error e => exact hr.elim
end
end
section
variable {X : Cx}
theorem lc3_core {pins : List (Addr × Obj)} {s : Shared} {σ : L2.St} {H : Hp} {Q : VK} {pos' : Pos} {use : Option (Value → Sem Unit)} {Qf : Value → Shared → Prop} {elt a1 b1 a2 b2 a3 b3 : Expr} {i1 i2 i3 : List Expr} {scope : Scope} {own : List (Str × Nat)} {vs1 vs2 : List Nat} {pos : Pos} {wi wi1 wi2 : TI} {g g1 g2 : TG} {tt tt1 tt2 : TT} {te : TE} (calm : X.calm = true) (nd : X.N.Nodup) (src : PI X a1 b1 wi) (ok : BlkOk X.N X.env.scope scope own) (within : ∀ i ∈ vs1, i ∈ own.map (·.2)) (within2 : ∀ i ∈ vs2, i ∈ vs1)
    (pg : ∀ (s : Shared) (H : Hp) (C : Addr) (cl : List (Str × Addr)) (fp : List Addr), PG (X.blk s H scope (compEnvC scope cl C X.env) fp) a1 g) (pt : ∀ (s : Shared) (H : Hp) (C : Addr) (cl : List (Str × Addr)) (fp : List Addr), PTs (X.blk s H scope (compEnvC scope cl C X.env) fp) i1 tt)
    (pi1 : ∀ (s : Shared) (H : Hp) (C : Addr) (cl : List (Str × Addr)) (fp : List Addr), PI (X.blk s H scope (compEnvC scope cl C X.env) fp) a2 b2 wi1)
    (pg1 : ∀ (s : Shared) (H : Hp) (C : Addr) (cl : List (Str × Addr)) (fp : List Addr), PG (X.blk s H scope (compEnvC scope cl C X.env) fp) a2 g1) (pt1 : ∀ (s : Shared) (H : Hp) (C : Addr) (cl : List (Str × Addr)) (fp : List Addr), PTs (X.blk s H scope (compEnvC scope cl C X.env) fp) i2 tt1)
    (pi2 : ∀ (s : Shared) (H : Hp) (C : Addr) (cl : List (Str × Addr)) (fp : List Addr), PI (X.blk s H scope (compEnvC scope cl C X.env) fp) a3 b3 wi2) (pg2 : ∀ (s : Shared) (H : Hp) (C : Addr) (cl : List (Str × Addr)) (fp : List Addr), PG (X.blk s H scope (compEnvC scope cl C X.env) fp) a3 g2) (pt2 : ∀ (s : Shared) (H : Hp) (C : Addr) (cl : List (Str × Addr)) (fp : List Addr), PTs (X.blk s H scope (compEnvC scope cl C X.env) fp) i3 tt2)
    (pe : ∀ (s : Shared) (H : Hp) (C : Addr) (cl : List (Str × Addr)) (fp : List Addr), PE (X.blk s H scope (compEnvC scope cl C X.env) fp) elt te)
    (plain : ∀ x, foldedSetIterable b1 X.env x = pure x) (plain1 : ∀ env x, foldedSetIterable b2 env x = pure x) (plain2 : ∀ env x, foldedSetIterable b3 env x = pure x) (I : Inv X pins σ H s)
    (h : tLc3 wi g tt wi1 g1 tt1 wi2 g2 tt2 te (own.map (·.2)) vs1 vs2 σ H Q)
    (whole : ∀ D C s' m H', Inv X pins σ H' s' → Q (.ref D) H' → s'.heap.Ns C m → FpOk X pins H' C → compPost (model X.prog X.w) X.A X.xe use Qf (.ref D) C (.ok .next) s') :
    wpAny (model X.prog X.w) X.A (comprehension (.ListComp elt [⟨a1, b1, i1, 0⟩, ⟨a2, b2, i2, 0⟩, ⟨a3, b3, i3, 0⟩] scope pos) scope X.env pos' (newList []) false (eval b1 X.env) use) Qf X.xe s := by
  have cells : ∀ y ∈ scope.names, y.2 = .free → ∃ c, X.env.cells.lookup y.1 = some c := fun y hy e => (ok.free y hy e).elim (fun k => I.ok.has _ (.inl k)) fun k => I.ok.has _ (.inr k)
  apply wpAny_comprehension_free rfl plain (closure_ok cells) ok.kind (fun y hy e => by rw [ok.uniq y hy, e])
  apply thn (src.run pins s σ H _ I h)
  intro x s1 h1
  apply thn h1
  rintro itv s2 ⟨it, fp, tn, J, H2, rfl, I2, T, st, fps, q⟩
  refine wpAny_newObj_type (newEnv_comp ?_) (by show 0 ≤ sizeLine; decide)
  have new : H2 s2.heap.objs.size = none := I2.hok.fresh (Nat.le_refl _)
  obtain ⟨W, ⟨m, w0⟩, step⟩ := q _ new
  generalize eD : s2.heap.objs.size = D at *
  have grown : ∀ b o, s2.heap.get? b = some o → (s2.heap.push { cls := .type "list", data := .seq ([] : List Value).toArray }).get? b = some o := fun b o e => Heap.get?_push_of_some _ e
  have I3 : Inv X pins σ (upd H2 D (.lst [])) { s2 with heap := s2.heap.push { cls := .type "list", data := .seq ([] : List Value).toArray } } :=
    I2.laid (t' := s2.toks) grown (Nat.le_of_eq eD) (by rw [← eD]; exact ⟨Nat.zero_le _, [], 0, .nil, Heap.get?_push_size _ rfl⟩)
  have low : ∀ b ∈ fp, b < s2.heap.objs.size := fun b hb => by
    obtain ⟨o, e, _⟩ := T.obj _ _ st b hb
    exact Heap.lt_size e
  have fp3 : ∀ b ∈ fp, FpOk X pins (upd H2 D (.lst [])) b ∧ b < ({ s2 with heap := s2.heap.push { cls := .type "list", data := .seq ([] : List Value).toArray } } : Shared).heap.objs.size := fun b hb => by
    have lt := low b hb
    have nb : b ≠ D := by rw [← eD]; exact Nat.ne_of_lt lt
    exact ⟨⟨by rw [upd_ne nb]; exact (fps b hb).1, (fps b hb).2⟩, by show b < (s2.heap.push _).objs.size; rw [Heap.size_push]; exact Nat.lt_succ_of_lt lt⟩
  have I4 := block_start I3 ok nd fp3
  have st4 : tn 0 (pushCells ((s2.heap.push { cls := .type "list", data := .seq ([] : List Value).toArray }).push { cls := .type "dict", data := .dict #[] }) scope.names) :=
    T.keep _ _ _ st fun b _ o e => pushCells_keeps _ _ _ _ (Heap.get?_push_of_some _ (grown b o e))
  generalize hs3 : ({ s2 with heap := s2.heap.push { cls := .type "list", data := .seq ([] : List Value).toArray } } : Shared) = s3 at I3 fp3 I4 ⊢
  have none3 : ∀ b ∈ fp, (upd H2 D (.lst [])) b = none := fun b hb => (fp3 b hb).1.1
  generalize upd H2 D (.lst []) = H3 at I3 fp3 I4 w0 none3
  have pg := pg s3 H3 s3.heap.objs.size (cellsFrom (s3.heap.objs.size + 1) scope.names (cloFrom X.env.cells scope.names [])) fp
  have pt := pt s3 H3 s3.heap.objs.size (cellsFrom (s3.heap.objs.size + 1) scope.names (cloFrom X.env.cells scope.names [])) fp
  have pi1 := pi1 s3 H3 s3.heap.objs.size (cellsFrom (s3.heap.objs.size + 1) scope.names (cloFrom X.env.cells scope.names [])) fp
  have pg1 := pg1 s3 H3 s3.heap.objs.size (cellsFrom (s3.heap.objs.size + 1) scope.names (cloFrom X.env.cells scope.names [])) fp
  have pt1 := pt1 s3 H3 s3.heap.objs.size (cellsFrom (s3.heap.objs.size + 1) scope.names (cloFrom X.env.cells scope.names [])) fp
  have pi2 := pi2 s3 H3 s3.heap.objs.size (cellsFrom (s3.heap.objs.size + 1) scope.names (cloFrom X.env.cells scope.names [])) fp
  have pg2 := pg2 s3 H3 s3.heap.objs.size (cellsFrom (s3.heap.objs.size + 1) scope.names (cloFrom X.env.cells scope.names [])) fp
  have pt2 := pt2 s3 H3 s3.heap.objs.size (cellsFrom (s3.heap.objs.size + 1) scope.names (cloFrom X.env.cells scope.names [])) fp
  have pe := pe s3 H3 s3.heap.objs.size (cellsFrom (s3.heap.objs.size + 1) scope.names (cloFrom X.env.cells scope.names [])) fp
  show codeAny _ _ (.compStart (.ListComp elt [⟨a1, b1, i1, 0⟩, ⟨a2, b2, i2, 0⟩, ⟨a3, b3, i3, 0⟩] scope pos) 0 (.ref it) (.ref D) (compEnvC scope (cellsFrom (s3.heap.objs.size + 1) scope.names (cloFrom X.env.cells scope.names [])) s3.heap.objs.size X.env)) _ { s3 with heap := pushCells (s3.heap.push { cls := .type "dict", data := .dict #[] }) scope.names }
  have st4 : tn 0 ({ s3 with heap := pushCells (s3.heap.push { cls := .type "dict", data := .dict #[] }) scope.names } : Shared).heap := by rw [← hs3]; exact st4
  generalize ({ s3 with heap := pushCells (s3.heap.push { cls := .type "dict", data := .dict #[] }) scope.names } : Shared) = s4 at I4 st4 ⊢
  have at_ : (compEnvC scope (cellsFrom (s3.heap.objs.size + 1) scope.names (cloFrom X.env.cells scope.names [])) s3.heap.objs.size X.env).locals = s3.heap.objs.size := rfl
  generalize compEnvC scope (cellsFrom (s3.heap.objs.size + 1) scope.names (cloFrom X.env.cells scope.names [])) s3.heap.objs.size X.env = ce at *
  have loop : codeAny (model X.prog X.w) X.A (.compLoop (.ListComp elt [⟨a1, b1, i1, 0⟩, ⟨a2, b2, i2, 0⟩, ⟨a3, b3, i3, 0⟩] scope pos) 0 (.ref it) (.ref D) ce) (compPost (model X.prog X.w) X.A X.xe use Qf (.ref D) s3.heap.objs.size) s4 := by
    refine clause_walksL (Y := X.blk s3 H3 scope ce fp) calm rfl rfl pg pt (second_bodyL (Y := X.blk s3 H3 scope ce fp) calm rfl within pi1 pg1 pt1 within2 pi2 pg2 pt2 pe (plain2 ce) (plain1 ce)) T step (fun s' H' I' qq => ?_) I4 st4 (fun b hb => ?_) w0
    · have back : Inv X pins σ H' s' := I3.call' (ch := fp) I'.os I'.base I'.hok I'.bare fun b hb => by
        obtain ⟨_, f1, f2, f3, f4, f5⟩ := (fp3 b hb).1
        exact ⟨f3, f1, f4, f5⟩
      have free : H' s3.heap.objs.size = none := by
        have z : H' ce.locals = none := I'.free
        rw [at_] at z
        exact z
      obtain ⟨mm, hn, _⟩ := I'.loc
      have hn : s'.heap.Ns ce.locals mm := hn
      rw [at_] at hn
      exact whole D _ s' mm H' back qq hn (I3.fpOk (Nat.le_refl _) free)
    · exact ⟨none3 b hb, (I4.ok.exf b hb).1, I4.ok.exfs b hb, .inl hb, fun x c e => (I4.ok.exf b hb).2 x c e, fun p hp => absurd (show p ∈ ([] : List (Addr × Obj)) ++ [] from hp) (by simp)⟩
  exact codeAny_compStart_list loop (T.self X.A 0 _ _ _ st4 loop)
theorem ps_setLc3 {i : Nat} {y : Str} {py spos : Pos} {elt a1 b1 a2 b2 a3 b3 : Expr} {i1 i2 i3 : List Expr} {scope : Scope} {own : List (Str × Nat)} {vs1 vs2 : List Nat} {pos : Pos} {wi wi1 wi2 : TI} {g g1 g2 : TG} {tt tt1 tt2 : TT} {te : TE} (calm : X.calm = true) (nd : X.N.Nodup) (at_ : X.N[i]? = some y) (loc : X.env.scope.names.lookup y = some .local) (sw : swapsWith (.ListComp elt [⟨a1, b1, i1, 0⟩, ⟨a2, b2, i2, 0⟩, ⟨a3, b3, i3, 0⟩] scope pos) (some (.Name y py)) spos.line X.env = pure true) (src : PI X a1 b1 wi) (ok : BlkOk X.N X.env.scope scope own) (within : ∀ i ∈ vs1, i ∈ own.map (·.2)) (within2 : ∀ i ∈ vs2, i ∈ vs1)
    (pg : ∀ (s : Shared) (H : Hp) (C : Addr) (cl : List (Str × Addr)) (fp : List Addr), PG (X.blk s H scope (compEnvC scope cl C X.env) fp) a1 g) (pt : ∀ (s : Shared) (H : Hp) (C : Addr) (cl : List (Str × Addr)) (fp : List Addr), PTs (X.blk s H scope (compEnvC scope cl C X.env) fp) i1 tt)
    (pi1 : ∀ (s : Shared) (H : Hp) (C : Addr) (cl : List (Str × Addr)) (fp : List Addr), PI (X.blk s H scope (compEnvC scope cl C X.env) fp) a2 b2 wi1)
    (pg1 : ∀ (s : Shared) (H : Hp) (C : Addr) (cl : List (Str × Addr)) (fp : List Addr), PG (X.blk s H scope (compEnvC scope cl C X.env) fp) a2 g1) (pt1 : ∀ (s : Shared) (H : Hp) (C : Addr) (cl : List (Str × Addr)) (fp : List Addr), PTs (X.blk s H scope (compEnvC scope cl C X.env) fp) i2 tt1)
    (pi2 : ∀ (s : Shared) (H : Hp) (C : Addr) (cl : List (Str × Addr)) (fp : List Addr), PI (X.blk s H scope (compEnvC scope cl C X.env) fp) a3 b3 wi2) (pg2 : ∀ (s : Shared) (H : Hp) (C : Addr) (cl : List (Str × Addr)) (fp : List Addr), PG (X.blk s H scope (compEnvC scope cl C X.env) fp) a3 g2) (pt2 : ∀ (s : Shared) (H : Hp) (C : Addr) (cl : List (Str × Addr)) (fp : List Addr), PTs (X.blk s H scope (compEnvC scope cl C X.env) fp) i3 tt2)
    (pe : ∀ (s : Shared) (H : Hp) (C : Addr) (cl : List (Str × Addr)) (fp : List Addr), PE (X.blk s H scope (compEnvC scope cl C X.env) fp) elt te)
    (plain : ∀ x, foldedSetIterable b1 X.env x = pure x := by intro _; rfl) (plain1 : ∀ env x, foldedSetIterable b2 env x = pure x := by intro _ _; rfl) (plain2 : ∀ env x, foldedSetIterable b3 env x = pure x := by intro _ _; rfl) :
    PS X (.Assign [.Name y py] (.ListComp elt [⟨a1, b1, i1, 0⟩, ⟨a2, b2, i2, 0⟩, ⟨a3, b3, i3, 0⟩] scope pos) spos) (tAsg (tLc3 wi g tt wi1 g1 tt1 wi2 g2 tt2 te (own.map (·.2)) vs1 vs2) (gName i)) := by
  constructor
  intro pins s σ H D I h
  rw [exec_Assign_Name_used _ _ _ _ sw]
  apply wpAny_bind
  apply wpAny_standAt
  apply wpAny_bind
  show wpAny _ X.A (do let _ ← comprehension (.ListComp elt [⟨a1, b1, i1, 0⟩, ⟨a2, b2, i2, 0⟩, ⟨a3, b3, i3, 0⟩] scope pos) scope X.env (firstIterPos [⟨a1, b1, i1, 0⟩, ⟨a2, b2, i2, 0⟩, ⟨a3, b3, i3, 0⟩] pos) (newList []) false (eval b1 X.env) (some (assign (.Name y py) X.env))) _ _ s
  have told : tLc3 wi g tt wi1 g1 tt1 wi2 g2 tt2 te (own.map (·.2)) vs1 vs2 σ H (fun x H1 => gName i x σ H1 D.nx) := h
  apply wpAny_bind
  apply thn (lc3_core (Qf := fun _ s' => SP X pins D .next s') calm nd src ok within within2 pg pt pi1 pg1 pt1 pi2 pg2 pt2 pe plain plain1 plain2 I told fun L C s' m H' I' q hn f => ?_)
  · exact fun _ s' hq => wpAny_pure (wpAny_pure hq)
  · show wpAny _ _ (assign (.Name y py) X.env (.ref L)) _ _ _
    refine wpAny_assign_Name (store_ok2 (v := V.ref L) I' nd at_ (.inl loc) rfl (fun s2 I2 more => ?_) (.inr loc))
    obtain ⟨a, sb, ha⟩ := more
    obtain ⟨f0, f1, f2, f3, f4, f5⟩ := f
    have apart : C ≠ a := ha.elim (fun z => by rw [z]; exact f1) fun z e => f4 y a z e.symm
    exact ⟨m, hn.sameBut sb apart, fun h3 sb3 => ⟨_, H', I2.turned (t' := s2.toks) (fun b o hb e => (sb3.2 b hb).trans e) f0 f1 f3 f4 f5, q⟩⟩
end
end Dl

/-! what reached makes over pairs of names, as lists; what stands in the heap for it: my own -/
namespace Dl
open PySem PySem.Spec PyProof.Rows L2
abbrev Pr := Str × Str
abbrev OrigP := List (Pr × Option Pr)
def putP (o : OrigP) (k : Pr) (v : Option Pr) : OrigP := if k ∈ o.map (·.1) then o.map (fun p => if p.1 = k then (p.1, v) else p) else o ++ [(k, v)]
theorem putP_keys (o : OrigP) (k : Pr) (v : Option Pr) : (putP o k v).map (·.1) = if k ∈ o.map (·.1) then o.map (·.1) else o.map (·.1) ++ [k] := by
  unfold putP
  by_cases m : k ∈ o.map (·.1)
  · rw [if_pos m, if_pos m, List.map_map]
    refine List.map_congr_left fun p _ => ?_
    by_cases e : p.1 = k
    · simp [e]
    · simp [e]
  · rw [if_neg m, if_neg m, List.map_append]
    rfl
theorem putP_nodup {o : OrigP} {k : Pr} {v : Option Pr} (h : (o.map (·.1)).Nodup) : ((putP o k v).map (·.1)).Nodup := by
  rw [putP_keys]
  by_cases m : k ∈ o.map (·.1)
  · rw [if_pos m]; exact h
  · rw [if_neg m]
    exact List.nodup_append.mpr ⟨h, by simp, fun a ha b hb e => m (by rw [List.mem_singleton] at hb; rw [← hb, ← e]; exact ha)⟩
theorem mem_putP {o : OrigP} {k z : Pr} {v : Option Pr} : z ∈ (putP o k v).map (·.1) ↔ z ∈ o.map (·.1) ∨ z = k := by
  rw [putP_keys]
  by_cases m : k ∈ o.map (·.1)
  · rw [if_pos m]
    exact ⟨.inl, fun h => h.elim id fun e => by rw [e]; exact m⟩
  · rw [if_neg m, List.mem_append, List.mem_singleton]
/-- one stop of the layer -/
def fOneP (o : OrigP) (stop : Pr) : List Pr → OrigP → OrigP
  | [], acc => acc
  | z :: r, acc => fOneP o stop r (if z ∈ o.map (·.1) then acc else putP acc z (some stop))
def fAllP (adj : Pr → List Pr) (o : OrigP) : List Pr → OrigP → OrigP
  | [], acc => acc
  | s :: r, acc => fAllP adj o r (fOneP o s (adj s) acc)
def addAllP (o : OrigP) : OrigP → OrigP
  | [] => o
  | p :: r => addAllP (putP o p.1 p.2) r
theorem mem_fOneP {o : OrigP} {stop z : Pr} : ∀ {ys : List Pr} {acc : OrigP}, z ∈ (fOneP o stop ys acc).map (·.1) ↔ z ∈ acc.map (·.1) ∨ (z ∈ ys ∧ z ∉ o.map (·.1))
  | [], acc => by simp [fOneP]
  | y :: r, acc => by
    unfold fOneP
    rw [mem_fOneP]
    by_cases m : y ∈ o.map (·.1)
    · rw [if_pos m, List.mem_cons]
      constructor
      · rintro (h | ⟨h, n⟩)
        · exact .inl h
        · exact .inr ⟨.inr h, n⟩
      · rintro (h | ⟨h | h, n⟩)
        · exact .inl h
        · exact absurd (by rw [h]; exact m) n
        · exact .inr ⟨h, n⟩
    · rw [if_neg m, mem_putP, List.mem_cons]
      constructor
      · rintro ((h | h) | ⟨h, n⟩)
        · exact .inl h
        · exact .inr ⟨.inl h, by rw [h]; exact m⟩
        · exact .inr ⟨.inr h, n⟩
      · rintro (h | ⟨h | h, n⟩)
        · exact .inl (.inl h)
        · exact .inl (.inr h)
        · exact .inr ⟨h, n⟩
theorem nodup_fOneP {o : OrigP} {stop : Pr} : ∀ {ys : List Pr} {acc : OrigP}, (acc.map (·.1)).Nodup → ((fOneP o stop ys acc).map (·.1)).Nodup
  | [], _, h => h
  | y :: r, acc, h => by
    unfold fOneP
    refine nodup_fOneP ?_
    split
    · exact h
    · exact putP_nodup h
theorem mem_fAllP {adj : Pr → List Pr} {o : OrigP} {z : Pr} : ∀ {ls : List Pr} {acc : OrigP}, z ∈ (fAllP adj o ls acc).map (·.1) ↔ z ∈ acc.map (·.1) ∨ ((∃ s ∈ ls, z ∈ adj s) ∧ z ∉ o.map (·.1))
  | [], acc => by simp [fAllP]
  | s :: r, acc => by
    unfold fAllP
    rw [mem_fAllP, mem_fOneP]
    constructor
    · rintro ((h | ⟨h, n⟩) | ⟨⟨t, ht, h⟩, n⟩)
      · exact .inl h
      · exact .inr ⟨⟨s, List.mem_cons_self .., h⟩, n⟩
      · exact .inr ⟨⟨t, List.mem_cons_of_mem _ ht, h⟩, n⟩
    · rintro (h | ⟨⟨t, ht, h⟩, n⟩)
      · exact .inl (.inl h)
      · rcases List.mem_cons.mp ht with rfl | ht
        · exact .inl (.inr ⟨h, n⟩)
        · exact .inr ⟨⟨t, ht, h⟩, n⟩
theorem nodup_fAllP {adj : Pr → List Pr} {o : OrigP} : ∀ {ls : List Pr} {acc : OrigP}, (acc.map (·.1)).Nodup → ((fAllP adj o ls acc).map (·.1)).Nodup
  | [], _, h => h
  | s :: r, acc, h => by
    unfold fAllP
    exact nodup_fAllP (nodup_fOneP h)
theorem addAllP_fresh : ∀ {f o : OrigP}, (f.map (·.1)).Nodup → (∀ z ∈ f.map (·.1), z ∉ o.map (·.1)) → addAllP o f = o ++ f
  | [], o, _, _ => by simp [addAllP]
  | p :: r, o, nd, dis => by
    have nd := List.nodup_cons.mp (by rw [List.map_cons] at nd; exact nd)
    have h0 : p.1 ∉ o.map (·.1) := dis p.1 (by rw [List.map_cons]; exact List.mem_cons_self ..)
    have e : putP o p.1 p.2 = o ++ [p] := by
      unfold putP
      rw [if_neg h0]
    unfold addAllP
    rw [e, addAllP_fresh nd.2 (fun z hz hm => ?_), List.append_assoc]
    · rfl
    · rw [List.map_append, List.mem_append] at hm
      rcases hm with hm | hm
      · exact dis z (by rw [List.map_cons]; exact List.mem_cons_of_mem _ hz) hm
      · have e2 : z = p.1 := by simpa using hm
        exact nd.1 (by rw [← e2]; exact hz)
/-- reached, n turns at most -/
def reachP (adj : Pr → List Pr) (en : Option Pr) : Nat → OrigP → List Pr → OrigP
  | 0, o, _ => o
  | n + 1, o, layer => if layer = [] ∨ (∃ z, en = some z ∧ z ∈ o.map (·.1)) then o else reachP adj en n (o ++ fAllP adj o layer []) ((fAllP adj o layer []).map (·.1))
theorem fOneP_snoc (o : OrigP) (stop z : Pr) : ∀ (ys : List Pr) (acc : OrigP), fOneP o stop (ys ++ [z]) acc = if z ∈ o.map (·.1) then fOneP o stop ys acc else putP (fOneP o stop ys acc) z (some stop)
  | [], acc => by
    show fOneP o stop [z] acc = _
    unfold fOneP fOneP
    rfl
  | y :: r, acc => by
    show fOneP o stop (y :: (r ++ [z])) acc = _
    unfold fOneP
    exact fOneP_snoc o stop z r _
theorem fAllP_snoc (adj : Pr → List Pr) (o : OrigP) (s : Pr) : ∀ (ls : List Pr) (acc : OrigP), fAllP adj o (ls ++ [s]) acc = fOneP o s (adj s) (fAllP adj o ls acc)
  | [], acc => rfl
  | y :: r, acc => by
    show fAllP adj o (y :: (r ++ [s])) acc = _
    unfold fAllP
    exact fAllP_snoc adj o s r _
theorem sw_dictP {kx vx : Expr} {gs : List Comprehension} {scope : Scope} {pos py : Pos} {y : Str} {l : Nat} {env : Env} (hk : env.scope.kind = .function) (hy : env.scope.names.lookup y = some .local) (hl : (py.line == pos.line) = true)
    (ha : (scope.names.any fun (n, k) => n == y && (k == .local || k == .cell)) = false) : swapsWith (.DictComp kx vx gs scope pos) (some (.Name y py)) l env = pure true := by
  have kind : env.kindOf y = some .local := hy
  have block : env.blockKind = .function := by
    unfold Env.blockKind
    rw [hk]
    rfl
  unfold swapsWith
  simp only [block, kind, ha, Expr.pos, hl]
  rfl
/-- a clause's walk by an assertion at each turn -/
theorem dc2_itP {J : It} {n : Nat} {G : Hp → Prop} {Y : Nat → Hp → V → Hp → Prop} (w : Walk J n G Y) {g : TG} {tt : TT} {vs : List Nat} {σ0 : L2.St} {H1 : Hp} {Qd : Hp → Prop} {tb : L2.St → Hp → (Hp → Prop) → Prop} (Pv : Nat → Hp → Prop) (h0 : Pv 0 H1) (hG : ∀ i H, i ≤ n → Pv i H → G H)
    (hs : ∀ i x H H', i < n → Pv i H → Y i H x H' → g x σ0 H' fun σ2 H2 => wipe σ2 vs = σ0 ∧ tt σ2 H2 fun b H3 => if b = true then tb σ2 H3 (Pv (i + 1)) else Pv (i + 1) H3) (hd : ∀ H, Pv n H → Qd H) :
    ∃ W : Nat → Nat → Hp → Prop, (∃ m, W 0 m H1) ∧ ∀ i m H, W i m H →
      (J.stop i H ∧ Qd H) ∨ (J.go i H ∧ ∃ Nx : Hp → Prop, (∀ H', Nx H' → ∃ m', m' < m ∧ W (i + 1) m' H') ∧ ∀ x H', J.yld i H x H' → g x σ0 H' fun σ2 H2 => wipe σ2 vs = σ0 ∧ tt σ2 H2 fun b H3 => if b = true then tb σ2 H3 Nx else Nx H3) := by
  refine ⟨fun i m H => m + i = n ∧ Pv i H, ⟨n, Nat.add_zero n, h0⟩, ?_⟩
  rintro i m H ⟨e, p⟩
  have here := hG i H (by omega) p
  rcases Nat.lt_or_ge i n with lt | ge
  · exact .inr ⟨w.goes i H lt here, Pv (i + 1), fun H' p' => ⟨m - 1, by omega, by omega, p'⟩, fun x H' y => hs i x H H' lt p (w.yields i H x H' lt here y)⟩
  · have e2 : i = n := by omega
    subst e2
    exact .inl ⟨w.stops H here, hd H p⟩

/-! in the heap -/
def kp (p : Pr) : List Key := [.inr p.1, .inr p.2]
def pairO (p : Pr) : HO := .tup [.str p.1, .str p.2]
theorem kp_inj {p q : Pr} (e : kp p = kp q) : p = q := by
  unfold kp at e
  injection e with e1 e2
  injection e2 with e2 _
  exact Prod.ext (Sum.inr.inj e1) (Sum.inr.inj e2)
theorem kp_V (p : Pr) : HO.tup ((kp p).map kV) = pairO p := rfl
theorem pairO_inj {H : Hp} {b : Addr} {p : Pr} {k : List Key} (h : H b = some (.tup (k.map kV))) (e : k = kp p) : H b = some (pairO p) := by rw [h, e]; rfl
def VO (H : Hp) (v : V) : Option Pr → Prop
  | none => v = .non
  | some q => ∃ b, v = .ref b ∧ H b = some (pairO q)
def KeepP (H H' : Hp) : Prop := ∀ b q, H b = some (pairO q) → H' b = some (pairO q)
theorem KeepP.same {H H' : Hp} (s : Same H H') : KeepP H H' := fun b q e => s _ _ e
theorem KeepP.upd {H : Hp} {p : Addr} {k0 k1 : List (List Key × V)} (h : H p = some (.dT k0)) : KeepP H (upd H p (.dT k1)) := fun b q e => by
  have n : b ≠ p := ne_of e h (by unfold pairO; intro z; cases z)
  rw [upd_ne n]
  exact e
theorem VO.of {H H' : Hp} {v : V} {x : Option Pr} (h : VO H v x) (s : KeepP H H') : VO H' v x := by
  cases x with
  | none => exact h
  | some q => obtain ⟨b, e, hb⟩ := h; exact ⟨b, e, s _ _ hb⟩
abbrev PD := List (List Key × V)
def OD (H : Hp) : PD → OrigP → Prop := Paired fun kv e => kv.1 = kp e.1 ∧ VO H kv.2 e.2
theorem OD.of {H H' : Hp} {kv : PD} {o : OrigP} (h : OD H kv o) (s : KeepP H H') : OD H' kv o := Paired.mapP h fun _ _ e => ⟨e.1, e.2.of s⟩
theorem od_any {H : Hp} {k : Pr} : ∀ {kv : PD} {o : OrigP}, OD H kv o → (kv.any fun e => decide (e.1 = kp k)) = decide (k ∈ o.map (·.1))
  | _, _, .nil => by simp
  | c :: kv, e :: o, .cons h t => by
    rw [List.any_cons, od_any t, List.map_cons]
    by_cases q : e.1 = k
    · have q2 : c.1 = kp k := by rw [h.1, q]
      simp [q, q2]
    · have q2 : ¬ c.1 = kp k := fun z => q (kp_inj (by rw [← h.1, z]))
      have q3 : ¬ k = e.1 := fun z => q z.symm
      simp [q2, q3]
theorem od_map {H : Hp} {k : Pr} {v : V} {x : Option Pr} (hv : VO H v x) : ∀ {kv : PD} {o : OrigP}, OD H kv o → OD H (kv.map fun e => if e.1 = kp k then (e.1, v) else e) (o.map fun e => if e.1 = k then (e.1, x) else e)
  | _, _, .nil => .nil
  | c :: kv, e :: o, .cons h t => by
    rw [List.map_cons, List.map_cons]
    refine .cons ?_ (od_map hv t)
    by_cases q : e.1 = k
    · rw [if_pos q, if_pos (by rw [h.1, q])]
      exact ⟨h.1, hv⟩
    · rw [if_neg q, if_neg fun z => q (kp_inj (by rw [← h.1, z]))]
      exact h
theorem od_put {H : Hp} {k : Pr} {v : V} {x : Option Pr} {kv : PD} {o : OrigP} (h : OD H kv o) (hv : VO H v x) : OD H (putK kv (kp k) v) (putP o k x) := by
  unfold putK putP
  rw [od_any h]
  by_cases m : k ∈ o.map (·.1)
  · rw [if_pos (decide_eq_true m), if_pos m]
    have e : (kv.map fun e => if e.1 = kp k then (kp k, v) else e) = kv.map fun e => if e.1 = kp k then (e.1, v) else e := List.map_congr_left fun e _ => by
      by_cases q : e.1 = kp k
      · rw [if_pos q, if_pos q, q]
      · rw [if_neg q, if_neg q]
    first
      | exact od_map hv h
      | (rw [e]; exact od_map hv h)
  · rw [if_neg (by rw [decide_eq_false m]; decide), if_neg m]
    exact Paired.snoc h ⟨rfl, hv⟩
theorem od_len {H : Hp} {kv : PD} {o : OrigP} (h : OD H kv o) : kv.length = o.length := Paired.length h
theorem od_keys {H : Hp} : ∀ {kv : PD} {o : OrigP}, OD H kv o → kv.map (·.1) = (o.map (·.1)).map kp
  | _, _, .nil => rfl
  | _ :: _, _ :: _, .cons h t => by rw [List.map_cons, List.map_cons, List.map_cons, od_keys t, h.1]
theorem od_val {H : Hp} {k : Pr} : ∀ {kv : PD} {o : OrigP}, OD H kv o → (valV kv (kp k)).isSome = decide (k ∈ o.map (·.1))
  | _, _, .nil => by simp [valV]
  | c :: kv, e :: o, .cons h t => by
    by_cases q : e.1 = k
    · rw [valV_pos (by rw [h.1, q])]
      simp [q]
    · rw [valV_neg fun z => q (kp_inj (by rw [← h.1, z])), od_val t, List.map_cons]
      have q3 : ¬ k = e.1 := fun z => q z.symm
      simp [q3]
theorem od_add {H : Hp} : ∀ {more : PD} {f : OrigP} {kv : PD} {o : OrigP}, OD H kv o → OD H more f → OD H (more.foldl (fun acc e => putK acc e.1 e.2) kv) (addAllP o f)
  | _, _, _, _, h, .nil => h
  | c :: more, e :: f, kv, o, h, .cons g t => by
    show OD H (more.foldl (fun acc e => putK acc e.1 e.2) (putK kv c.1 c.2)) (addAllP (putP o e.1 e.2) f)
    rw [g.1]
    exact od_add (od_put h g.2) t
/-- a list of addresses of pairs -/
def Prs (H : Hp) : List Addr → List Pr → Prop := Paired fun b p => H b = some (pairO p)
theorem Prs.of {H H' : Hp} {bs : List Addr} {ps : List Pr} (h : Prs H bs ps) (s : KeepP H H') : Prs H' bs ps := Paired.mapP h fun _ _ e => s _ _ e
theorem take_plusP {α : Type} {l : List α} {i : Nat} {x : α} (h : l[i]? = some x) : l.take (i + 1) = l.take i ++ [x] := by
  rw [List.take_add_one, h]
  rfl
theorem Prs.at {H : Hp} : ∀ {bs : List Addr} {ps : List Pr} {i : Nat} {b : Addr}, Prs H bs ps → bs[i]? = some b → ∃ p, ps[i]? = some p ∧ H b = some (pairO p)
  | _, _, _, _, .nil, h => by cases h
  | c :: bs, e :: ps, 0, b, .cons h t, g => by
    cases (Option.some.inj g)
    exact ⟨e, rfl, h⟩
  | c :: bs, e :: ps, i + 1, b, .cons h t, g => Prs.at (bs := bs) (ps := ps) t (by simpa using g)
theorem prs_keys {H : Hp} : ∀ {kv : PD} {bs : List Addr} {ps : List Pr}, IsKeys H kv bs → kv.map (·.1) = ps.map kp → Prs H bs ps
  | _, _, ps, .nil, e => by
    cases ps with
    | nil => exact .nil
    | cons _ _ => cases e
  | c :: kv, b :: bs, ps, .cons h t, e => by
    cases ps with
    | nil => cases e
    | cons p ps =>
      rw [List.map_cons, List.map_cons] at e
      injection e with e1 e2
      exact .cons (pairO_inj h e1) (prs_keys t e2)
end Dl

/-! reached over pairs of names: its contract -/
namespace Dl
open PySem PySem.Spec PyProof.Rows L2
abbrev AdjP := Pr → List (Pr × Str)
def adjK (adj : AdjP) (p : Pr) : List Pr := (adj p).map (·.1)
def adjD (es : List (Pr × Str)) : PD := es.map fun e => (kp e.1, V.str e.2)
structure LeadsP (H : Hp) (l : Addr) (ps : List Pr) (adj : AdjP) : Prop where
  ex : ∃ (od : Obj) (kvs : PD), H l = some (.frz od (.dT kvs)) ∧ kvs.map (·.1) = ps.map kp ∧ ∀ p ∈ ps, ∃ a oa, valV kvs (kp p) = some (.ref a) ∧ H a = some (.frz oa (.dT (adjD (adj p))))
theorem LeadsP.of {H H' : Hp} {l : Addr} {ps : List Pr} {adj : AdjP} (h : LeadsP H l ps adj) (s : Same H H') : LeadsP H' l ps adj := by
  obtain ⟨od, kvs, h1, h2, h3⟩ := h.ex
  refine ⟨od, kvs, s _ _ h1, h2, fun p hp => ?_⟩
  obtain ⟨a, oa, e, q⟩ := h3 p hp
  exact ⟨a, oa, e, s _ _ q⟩
def spReachedP : Sp := fun vs H Q _ => ∃ (l a : Addr) (v : V) (st : Pr) (en : Option Pr) (ps : List Pr) (adj : AdjP), vs = [.ref l, .ref a, v] ∧ LeadsP H l ps adj ∧ H a = some (pairO st) ∧ VO H v en ∧ ps.Nodup ∧ ps.length ≤ 100 ∧ st ∈ ps ∧ (∀ s ∈ ps, ∀ z ∈ adjK adj s, z ∈ ps) ∧
  ∀ H' r kv, Same H H' → H r = none → H' r = some (.dT kv) → OD H' kv (reachP (adjK adj) en (ps.length + 1) [(st, none)] [st]) → Q (.ref r) H'
structure TxtReP (mg : Str → Option Value) : Prop where
  len : mg "len" = none
  list : mg "list" = none
section
variable {P : Program} {w : World} {K : PySem.W.Frag} {mg : Str → Option Value} {base : Heap}
theorem scReachedP : FnScope ["leads", "start", "end", "origins", "layer", "further", "stop", "other"] ["leads", "start", "end"] (defScope sReached) := ⟨rfl, rfl, rfl, by decide +kernel, rfl, by decide +kernel, by decide +kernel⟩
theorem ok_reachedP {f : Addr} {fd : FuncData} (F : Fun K "reached" "reached" sReached f fd) (T : TxtReP mg) : FnOk P w K mg base CX0 1 f fd ["leads", "start", "end"] spReachedP := by
  refine F.ok scReachedP (fun vs H Q E h => ?_) (fun cdv A outer s H vs Q E hr h => ?_)
  · obtain ⟨l, a, v, st, en, ps, adj, rfl, _⟩ := h
    rfl
  · obtain ⟨l, a, v, st, en, names, adj, rfl, hL, ha, hv, nd, few, hst, hadj, k⟩ := h
    refine ⟨_, (pss_cons (ps_set (i := 3) scReachedP.nd rfl (Or.inr rfl) (pe_disp1T hr.units0 (pv 1) pe_non))
        (pss_cons (ps_set (i := 4) scReachedP.nd rfl (Or.inl rfl) (pe_lst (pa_cons (pv 1) pa_nil)))
        (pss_cons (ps_while PassesOwn.never (PW.pt (pw_and (pt_cmpR op_gt (pe_callB call_len_seq (by rfl) T.len PySem.boot_len (pa_cons (pv 4) pa_nil)) pe_int (nomark _)) (pw_and1 (pt_cmp (pc_dnotinT (hu_of hr) (pv 2) (pv 3)))))) (pss_cons (ps_setDc2T (i := 5) (own := [("stop", 6), ("other", 7)]) (vs1 := [7]) (g := gName 6) (g1 := gName 7) (tt := tYes) (wi1 := iKeys (tDGet (tVar 0) (tVar 6))) (tt1 := tTest (tDNotInT (tVar 7) (tVar 3))) (tk := tVar 7) (tv := tVar 6) hr.units0 rfl scReachedP.nd rfl rfl (sw_dictP rfl rfl rfl (by decide +kernel)) (pi_list (pv 4)) (blkOk_by (N := ["leads", "start", "end", "origins", "layer", "further", "stop", "other"]) (sc := defScope sReached) (by decide +kernel)) (by decide) (fun _ _ _ _ _ => pg_name (i := 6) scReachedP.nd rfl (Or.inl rfl)) (fun _ _ _ _ _ => pts_nil) (fun _ _ _ _ _ => by exact pi_keys (pe_dget (hu_of hr) (pv 0) (pv 6) (fun _ _ => rfl))) (fun _ _ _ _ _ => pg_name (i := 7) scReachedP.nd rfl (Or.inl rfl)) (fun _ _ _ _ _ => pts_one (pt_cmp (pc_dnotinT (hu_of hr) (pv 7) (pv 3)))) (fun _ _ _ _ _ => pv 7) (fun _ _ _ _ _ => pv 6))
        (pss_cons (ps_expr (pe_bm PySem.F.plainAttrs_dict PySem.F.slot_dict_update PySem.F.type_dict_update (mt_updateT (hu_of hr)) (pv 3) (pa_cons (pv 5) pa_nil)))
        (pss_one (ps_set (i := 4) scReachedP.nd rfl (Or.inl rfl) (pe_callTy (call_list_dT rfl) (by rfl) T.list (by decide +kernel) (pa_cons (pv 5) pa_nil)))))))
        (pss_one (ps_ret (pv 3)))))), ?_⟩
    have nap := fun {p : Addr} (hp : H p = none) => ne_of_none ha hp
    refine fun p hp => ⟨_, rfl, upd_same, kp st, a, rfl, by rw [upd_ne (nap hp)]; exact ha, ?_⟩
    rw [upd_upd]
    have s1 := Same.upd_new hp (o := .dT [(kp st, .non)])
    have hp1 : upd H p (.dT [(kp st, .non)]) p = some (.dT [(kp st, .non)]) := upd_same
    generalize upd H p (.dT [(kp st, .non)]) = H1 at *
    refine ⟨_, rfl, by show 1 ≤ sizeLine; decide, fun y hy => ?_⟩
    have s2 := s1.trans (Same.upd_new hy (o := .lst [.ref a]))
    have hp2 := (Same.upd_new hy (o := .lst [.ref a])) _ _ hp1
    have hy2 : upd H1 y (.lst [.ref a]) y = some (.lst ([a].map V.ref)) := upd_same
    have npy : p ≠ y := ne_of_none hp1 hy
    generalize upd H1 y (.lst [.ref a]) = H2 at *
    clear hp1 hy s1
    refine ⟨fun m σ H' => ∃ (o : OrigP) (ls : List Pr) (kv : PD) (bs : List Addr) (y : Addr) (x5 x6 x7 : Option V), σ = [some (.ref l), some (.ref a), some v, some (.ref p), some (.ref y), x5, x6, x7] ∧ Same H H' ∧ H' p = some (.dT kv) ∧ OD H' kv o ∧ H' y = some (.lst (bs.map V.ref)) ∧ Prs H' bs ls ∧ y ≠ p ∧
      (o.map (·.1)).Nodup ∧ (∀ z ∈ o.map (·.1), z ∈ names) ∧ (∀ z ∈ ls, z ∈ names) ∧ ls.length ≤ 100 ∧ (ls = [] ∨ names.length + 2 ≤ m + o.length) ∧ o ≠ [] ∧ reachP (adjK adj) en m o ls = reachP (adjK adj) en (names.length + 1) [(st, none)] [st],
      ⟨names.length + 1, [(st, none)], [st], _, [a], y, none, none, none, rfl, s2, hp2, .cons ⟨rfl, rfl⟩ .nil, hy2, .cons (s2 _ _ ha) .nil, npy.symm, by simp, fun z hz => ?_, fun z hz => ?_, by simp, .inr (by simp), by simp, rfl⟩, ?_⟩
    · rw [show z = st by simpa using hz]; exact hst
    · rw [show z = st by simpa using hz]; exact hst
    rintro m σ H3 ⟨o, ls, kv, bs, y, x5, x6, x7, rfl, s3, hp3, hod3, hy3, hprs, nyp, ond, osub, lsub, lfew, meas, one, eq⟩
    have ofew : o.length ≤ names.length := by
      have := List.Nodup.length_le_of_subset ond osub
      rwa [List.length_map] at this
    have lz : (bs.map V.ref).length = ls.length := by rw [List.length_map]; exact Paired.length hprs
    refine ⟨_, rfl, y, _, rfl, .inl (SqL.of hy3), _, _, rfl, rfl, _, rfl, ?_⟩
    by_cases le : ls = []
    · refine iteZ (decide_eq_false (by rw [lz, le]; simp)) ?_
      refine iteF ⟨_, rfl, k H3 p kv s3 hp hp3 ?_⟩
      rw [← eq]
      subst le
      cases m with
      | zero => exact hod3
      | succ m => show OD H3 kv (if ([] : List Pr) = [] ∨ _ then o else _); rw [if_pos (.inl rfl)]; exact hod3
    have pos : 0 < ls.length := List.length_pos_iff.mpr le
    have meas := meas.resolve_left le
    refine iteY (decide_eq_true (by rw [lz]; omega)) ?_
    obtain ⟨m, rfl⟩ : ∃ m', m = m' + 1 := ⟨m - 1, by omega⟩
    have run : ∀ R : V → Hp → Prop, (∀ b : Bool, (b = true ↔ ¬ ∃ z, en = some z ∧ z ∈ o.map (·.1)) → R (.bl b) H3) → tDNotInT (tVar 2) (tVar 3) [some (.ref l), some (.ref a), some v, some (.ref p), some (.ref y), x5, x6, x7] H3 R := by
      intro R hR
      cases en with
      | none => exact ⟨_, rfl, _, rfl, .inr ⟨p, _, rfl, hv, .inl hp3, hR true (by simp)⟩⟩
      | some z =>
        obtain ⟨b, eb, hb⟩ := hv
        refine ⟨_, rfl, _, rfl, .inl ⟨p, _, rfl, by rw [eb]; exact DGet.t (k := kp z) hp3 (s3 _ _ hb), ?_⟩⟩
        rw [od_val hod3]
        refine hR _ ?_
        by_cases q : z ∈ o.map (·.1)
        · rw [decide_eq_true q]
          exact ⟨fun e => absurd e (by decide), fun n => absurd ⟨z, rfl, q⟩ n⟩
        · rw [decide_eq_false q]
          exact ⟨fun _ n => by obtain ⟨z', e, h⟩ := n; cases e; exact q h, fun _ => rfl⟩
    refine run _ fun b hb => ⟨b, rfl, ?_⟩
    by_cases stop : ∃ z, en = some z ∧ z ∈ o.map (·.1)
    · refine iteZ (by cases b with | false => rfl | true => exact absurd stop (hb.mp rfl)) ⟨_, rfl, k H3 p kv s3 hp hp3 ?_⟩
      rw [← eq]
      show OD H3 kv (if ls = [] ∨ _ then o else _)
      rw [if_pos (.inr stop)]
      exact hod3
    refine iteY (hb.mpr stop) ?_
    have next : reachP (adjK adj) en m (o ++ fAllP (adjK adj) o ls []) ((fAllP (adjK adj) o ls []).map (·.1)) = reachP (adjK adj) en (names.length + 1) [(st, none)] [st] := by
      rw [← eq]
      show _ = (if ls = [] ∨ _ then o else _)
      rw [if_neg (fun q => q.elim le stop)]
    clear run hb eq
    have fnd : ((fAllP (adjK adj) o ls []).map (·.1)).Nodup := nodup_fAllP (by simp)
    have fmem : ∀ z ∈ (fAllP (adjK adj) o ls []).map (·.1), z ∈ names ∧ z ∉ o.map (·.1) := fun z hz => by
      rcases mem_fAllP.mp hz with h | ⟨⟨s, hs, h⟩, n⟩
      · exact absurd h (by simp)
      · exact ⟨hadj s (lsub s hs) z h, n⟩
    have ffew : (fAllP (adjK adj) o ls []).length ≤ names.length := by
      have := List.Nodup.length_le_of_subset fnd (fun z hz => (fmem z hz).1)
      rwa [List.length_map] at this
    refine ⟨_, fun σ' H' h => h, ?_⟩
    refine ⟨_, rfl, y, rfl, ⟨_, SqL.of hy3⟩, fun D hD => ?_⟩
    have here : ∀ x : PD, Same H3 (upd H3 D (.dT x)) := fun x => Same.upd_new hD
    refine dc2_itP (walk_list (K := K) (a := y) (xs := bs.map V.ref)) (fun i H' => ∃ kd, H' = upd H3 D (.dT kd) ∧ OD H3 kd (fAllP (adjK adj) o (ls.take i) [])) ⟨[], rfl, .nil⟩ (fun i H' _ ⟨kd, e, _⟩ => by rw [e]; exact SqL.of (here _ _ _ hy3)) ?_ ?_
    · rintro i v4 H4 H5 hi ⟨kd, rfl, hkd⟩ ⟨rfl, hv4⟩
      obtain ⟨b, hb, rfl⟩ : ∃ b, bs[i]? = some b ∧ v4 = .ref b := by
        rw [List.getElem?_map] at hv4
        cases e : bs[i]? with
        | none => rw [e] at hv4; cases hv4
        | some z => rw [e] at hv4; exact ⟨z, rfl, (Option.some.inj hv4).symm⟩
      obtain ⟨s, hs, hsb⟩ := hprs.at hb
      have sn := lsub s (List.mem_of_getElem? hs)
      obtain ⟨ol, kvs, hl3, _, hval⟩ := (hL.of s3).ex
      obtain ⟨a2, oa, ea, ha2⟩ := hval s sn
      have small : ∀ j, (fOneP o s ((adjK adj s).take j) (fAllP (adjK adj) o (ls.take i) [])).length ≤ 100 := fun j => by
        have nd2 : ((fOneP o s ((adjK adj s).take j) (fAllP (adjK adj) o (ls.take i) [])).map (·.1)).Nodup := nodup_fOneP (nodup_fAllP (by simp))
        have := List.Nodup.length_le_of_subset nd2 (l₂ := names) (fun y hy => by
          rcases mem_fOneP.mp hy with h | ⟨h, _⟩
          · rcases mem_fAllP.mp h with h | ⟨⟨t, ht, h⟩, _⟩
            · exact absurd h (by simp)
            · exact hadj t (lsub t (List.mem_of_mem_take ht)) y h
          · exact hadj s sn y (List.mem_of_mem_take h))
        rw [List.length_map] at this
        omega
      refine ⟨rfl, _, rfl, _, rfl, l, .ref a2, rfl, .inr ⟨kvs, kp s, b, .inr ⟨ol, here _ _ _ hl3⟩, rfl, here _ _ _ hsb, ea.symm⟩, a2, oa, rfl, .inr ⟨_, here _ _ _ ha2, ?_⟩⟩
      refine dc2_itP (walk_keysT (d := a2) (o := oa) (kvs := adjD (adj s))) (fun j H' => ∃ kd, H' = upd H3 D (.dT kd) ∧ OD H3 kd (fOneP o s ((adjK adj s).take j) (fAllP (adjK adj) o (ls.take i) []))) ⟨kd, rfl, hkd⟩ (fun j H' _ ⟨kd, e, _⟩ => by rw [e]; exact here _ _ _ ha2) ?_ ?_
      · rintro j v6 H6 H7 hj ⟨kd6, rfl, hkd6⟩ ⟨rfl, kk, vv, q, hq, rfl, hqt⟩
        obtain ⟨e, he, ek, ev⟩ : ∃ e, (adj s)[j]? = some e ∧ kk = kp e.1 ∧ vv = V.str e.2 := by
          unfold adjD at hq
          rw [List.getElem?_map] at hq
          cases e : (adj s)[j]? with
          | none => rw [e] at hq; cases hq
          | some z => rw [e] at hq; have := Option.some.inj hq; exact ⟨z, rfl, (congrArg Prod.fst this).symm, (congrArg Prod.snd this).symm⟩
        have hz : (adjK adj s)[j]? = some e.1 := by unfold adjK; rw [List.getElem?_map, he]; rfl
        have n : q ≠ D := ne_of hqt upd_same (fun z => by cases z)
        have hq3 : H3 q = some (pairO e.1) := by rw [upd_ne n] at hqt; exact pairO_inj hqt ek
        refine ⟨rfl, _, rfl, _, rfl, .inl ⟨p, _, rfl, DGet.t (k := kp e.1) (here _ _ _ hp3) (here _ _ _ hq3), _, rfl, ?_⟩⟩
        rw [od_val hod3]
        by_cases q2 : e.1 ∈ o.map (·.1)
        · refine iteZ (by rw [decide_eq_true q2]; rfl) ⟨kd6, rfl, ?_⟩
          rw [take_plusP hz, fOneP_snoc, if_pos q2]
          exact hkd6
        · refine iteY (by rw [decide_eq_false q2]; rfl) ?_
          refine ⟨_, rfl, _, rfl, _, kp e.1, q, rfl, here _ _ _ hq3, upd_same, by rw [od_len hkd6]; exact small1000 (by have := small j; omega), _, upd_upd, ?_⟩
          rw [take_plusP hz, fOneP_snoc, if_neg q2]
          exact od_put hkd6 ⟨b, rfl, hsb⟩
      · rintro H6 ⟨kd6, rfl, hkd6⟩
        refine ⟨kd6, rfl, ?_⟩
        have full : (adjK adj s).take (adjD (adj s)).length = adjK adj s := List.take_of_length_le (by unfold adjK adjD; rw [List.length_map, List.length_map]; exact Nat.le_refl _)
        rw [full] at hkd6
        rw [take_plusP hs, fAllP_snoc]
        exact hkd6
    · rintro H4 ⟨kd, rfl, hkd⟩
      rw [lz, List.take_length] at hkd
      have npD : p ≠ D := ne_of_none hp3 hD
      have s4 : Same H3 (upd H3 D (.dT kd)) := here kd
      have hp4 := s4 _ _ hp3
      have hD4 := upd_same (H := H3) (a := D) (o := .dT kd)
      have hod4 := hod3.of (KeepP.same s4)
      have hkd4 := hkd.of (KeepP.same s4)
      generalize upd H3 D (.dT kd) = H4 at *
      generalize fAllP (adjK adj) o ls [] = f at *
      have lo := od_len hod4
      have lf := od_len hkd4
      have kne : kv ≠ [] := fun e => one (List.length_eq_zero_iff.mp (by rw [← lo, e]; rfl))
      refine ⟨_, rfl, .inr (.inr (.inl ⟨rfl, .inr ⟨_, hp4⟩⟩)), _, rfl, p, D, _, _, rfl, rfl, npD, hp4, hD4, kne, by omega, ?_⟩
      have hadd := od_add hod4 hkd4
      rw [addAllP_fresh fnd fun z hz => (fmem z hz).2] at hadd
      generalize (kd.foldl (fun acc e => putK acc e.1 e.2) kv) = kv5 at *
      have kp4 : KeepP H4 (upd H4 p (.dT kv5)) := KeepP.upd hp4
      have hD5 : upd H4 p (.dT kv5) D = some (.dT kd) := by rw [upd_ne npD.symm]; exact hD4
      have hp5 := upd_same (H := H4) (a := p) (o := .dT kv5)
      have hod5 := hadd.of kp4
      have hkd5 := hkd4.of kp4
      have s5 : Same H (upd H4 p (.dT kv5)) := fun c ob e => by
        rw [upd_ne (ne_of_none e hp)]
        exact s4 _ _ (s3 _ _ e)
      generalize upd H4 p (.dT kv5) = H5 at *
      refine ⟨_, rfl, D, _, rfl, .inl hD5, fun q bs5 hq hbs => ?_⟩
      have s6 := Same.upd_new hq (o := .lst (bs5.map V.ref))
      have prs5 : Prs H5 bs5 (f.map (·.1)) := prs_keys hbs (od_keys hkd5)
      refine ⟨m, Nat.lt_succ_self m, o ++ f, f.map (·.1), kv5, bs5, q, _, _, _, rfl, s5.trans s6, s6 _ _ hp5, hod5.of (KeepP.same s6), upd_same, prs5.of (KeepP.same s6), (ne_of_none hp5 hq).symm, ?_, fun z hz => ?_, fun z hz => (fmem z hz).1, by rw [List.length_map]; omega, ?_, ?_, next⟩
      · rw [List.map_append]
        exact List.nodup_append.mpr ⟨ond, fnd, fun a ha b hb e => (fmem b hb).2 (by rw [← e]; exact ha)⟩
      · rw [List.map_append] at hz
        exact (List.mem_append.mp hz).elim (osub z) fun h => (fmem z h).1
      · rw [List.length_append]
        cases f with
        | nil => exact .inl rfl
        | cons c r => exact .inr (by rw [List.length_cons]; omega)
      · exact fun e => one (List.append_eq_nil_iff.mp e).1
end
end Dl

namespace Dl
open PySem L2
/-! ### the own errors: class C, its __init__ at fI, its one field f -/
section
variable {P : Program} {w : World} {K : PySem.W.Frag} {mg : Str → Option Value} {base : Heap}
end
/-! ### InvalidNote: two fields -/
structure ErrN (K : PySem.W.Frag) (mg : Str → Option Value) (C fI : Addr) : Prop where
  oex : OexC K C
  gC : mg "InvalidNote" = some (.ref C)
  iC : PySem.W.findIn K (.ref C) "__init__" = some (some (.ref fI))
  tI : PySem.W.typeIn K (.ref fI) = some (.type "function")
  noB : PySem.W.findIn K (.ref C) "before" = some none
  noA : PySem.W.findIn K (.ref C) "after" = some none
def spEN (K : PySem.W.Frag) (C : Addr) : Sp := fun vs H Q _ => ∃ (a : Addr) (b v : V), vs = [.ref a, b, v] ∧ H a = some (exo a C none) ∧
  ∀ dx H', H dx = none → dx ≠ a → H' a = some (exo a C (some dx)) → H' dx = some (exd dx [("after", v), ("before", b)]) → (∀ c o, c ≠ a → H c = some o → H' c = some o) → Q .non H'
def NoteX (P : Program) (w : World) (K : PySem.W.Frag) (mg : Str → Option Value) (base : Heap) (C : Addr) : Prop :=
  ∃ fI fd, ErrN K mg C fI ∧ Binds K fd ["self", "before", "after"] [] ∧ FnOk P w K mg base CX0 1 fI fd ["self", "before", "after"] (spEN K C)
theorem scNote : FnScope ["self", "before", "after"] ["self", "before", "after"] (defScope sInvalidNoteInit) := ⟨rfl, rfl, rfl, by decide +kernel, rfl, by decide +kernel, by decide +kernel⟩
section
variable {P : Program} {w : World} {K : PySem.W.Frag} {mg : Str → Option Value} {base : Heap}
theorem ok_enote {C fI : Addr} {fd : FuncData} (F : Fun K "__init__" "InvalidNote.__init__" sInvalidNoteInit fI fd) (T : ErrN K mg C fI) : FnOk P w K mg base CX0 1 fI fd ["self", "before", "after"] (spEN K C) := by
  refine F.ok scNote (fun vs H Q E h => ?_) (fun cdv A outer s H vs Q E hr h => ?_)
  · obtain ⟨b, n, v, rfl, _⟩ := h
    rfl
  · obtain ⟨a, b, v, rfl, ha, k⟩ := h
    refine ⟨_, pss_cons (ps_ost (pv 0) (pv 1)) (pss_one (ps_ost (pv 0) (pv 2))), ?_⟩
    refine ⟨_, rfl, _, rfl, a, C, rfl, T.oex, T.noB, .inl ⟨ha, fun dx h1 h2 => ?_⟩⟩
    refine ⟨_, rfl, _, rfl, a, C, rfl, T.oex, T.noA, .inr ⟨dx, [("before", b)], upd_same, by rw [upd_ne h2, upd_same], by simp, ?_⟩⟩
    refine k dx _ h1 h2 ?_ upd_same fun c o n e => ?_
    · rw [upd_ne (fun q => h2 q.symm), upd_same]
    · rw [upd_ne (ne_of_none e h1), upd_ne n, upd_ne (ne_of_none e h1)]
      exact e
end
/-- the way out of raise InvalidNote(b, v) -/
theorem raise_endN {C : Addr} {K : PySem.W.Frag} {H : Hp} {b v : V} {Q : XK} (q : ∀ d H', Same H H' → H d = none → H' d = some (.xd [("after", v), ("before", b)]) → Q (.ref C) (some d) H') :
    ([b, v] : List V).length ≤ 1000 ∧ ∀ a, H a = none → spEN K C (.ref a :: ([b, v] ++ [])) (upd H a (exo a C none))
      (fun u H2 => u = .non ∧ ∃ (d : Addr) (fs : List (Str × V)), H2 a = some (exo a C (some d)) ∧ H2 d = some (exd d fs) ∧ H d = none ∧ Q (.ref C) (some d) (upd (del H2 a) d (.xd fs))) (fun _ _ _ => False) := by
  refine ⟨by simp, fun a ha => ⟨a, b, v, rfl, upd_same, fun dx H' hx ne e1 e2 keep => ?_⟩⟩
  rw [upd_ne ne] at hx
  refine ⟨rfl, dx, _, e1, e2, hx, q dx _ (fun c o e => ?_) hx upd_same⟩
  have nb : c ≠ dx := ne_of_none e hx
  have na : c ≠ a := ne_of_none e ha
  rw [upd_ne nb, del_ne na]
  exact keep c o na (by rw [upd_ne na]; exact e)
end Dl

namespace Dl
open PySem L2
/-- InvalidNote leaves -/
def OutN (C : Addr) (b v : V) (H : Hp) (E : XK) : Prop := ∀ d H', Same H H' → H d = none → H' d = some (.xd [("after", v), ("before", b)]) → E (.ref C) (some d) H'
theorem OutN.of {C : Addr} {b v : V} {H H1 : Hp} {E : XK} (s : Same H H1) (h : OutN C b v H E) : OutN C b v H1 E := fun d H' s' n e => h d H' (s.trans s') (s.free n) e
theorem OutN.imp {C : Addr} {b v : V} {H : Hp} {E E' : XK} (i : ∀ c d H', E c d H' → E' c d H') (h : OutN C b v H E) : OutN C b v H E' := fun d H' s' n e => i _ _ _ (h d H' s' n e)
section
variable {P : Program} {w : World} {K : PySem.W.Frag} {mg : Str → Option Value} {base : Heap} {CI : Addr}
end
def spCheckName1 (CI : Addr) : Sp := fun vs H Q E => ∃ v : V, vs = [v] ∧ NmOk H v ∧ (∀ H', Same H H' → isNm v = true → Q .non H') ∧ (isNm v = false → Out1 CI "name" v H E)
theorem check1 {P : Program} {w : World} {K : PySem.W.Frag} {mg : Str → Option Value} {base : Heap} {C : Cs} {k : Nat} {f : Addr} {fd : FuncData} (F : FnOk P w K mg base (L2.CX P w) k f fd ["name"] (spCheckName C)) : FnOk P w K mg base (L2.CX P w) k f fd ["name"] (spCheckName1 C.inv) := F
end Dl

/-! check_pair: its contract -/
namespace Dl
open PySem PySem.Spec PyProof.Rows L2
def spCheckPair (CT CI : Addr) (C : Cs) : Sp := fun vs H Q E => ∃ (t q : Addr) (v u : V) (ls : List Str) (rs : List (Str × List Str)), vs = [.ref t, .ref q] ∧ TableAt CT H t ls rs ∧ TabOk ls rs ∧ H q = some (.tup [v, u]) ∧ NmOk H v ∧ NmOk H u ∧
  (∀ x ∈ keysOf rs, ∀ y ∈ keysOf rs, v = .str x → u = .str y → x ≠ y → Q .non H) ∧ (∀ e, ([v, u].find? fun e => !knows e (keysOf rs)) = some e → Out1 C.unk "name" e H E) ∧ (∀ x ∈ keysOf rs, v = .str x → u = .str x → OutN CI v u H E)
section
variable {P : Program} {w : World} {K : PySem.W.Frag} {mg : Str → Option Value} {base : Heap} {C : Cs} {CT CI : Addr}
theorem scCheckPair : FnScope ["table", "pair", "first", "second"] ["table", "pair"] (defScope sCheckPair) := ⟨rfl, rfl, rfl, by decide +kernel, rfl, by decide +kernel, by decide +kernel⟩
theorem ok_checkpair {f : Addr} {fd : FuncData} (F : Fun K "check_pair" "check_pair" sCheckPair f fd) (T : TabT P w K mg base CT C) (gA : Dfn P w K mg base (L2.CX P w) 5 "check_all_known" ["chosen", "names"] (spAllKnown K C)) (xE : NoteX P w K mg base CI) : FnOk P w K mg base (L2.CX P w) 6 f fd ["table", "pair"] (spCheckPair CT CI C) := by
  obtain ⟨fA, dA, mA, kA, bA, GA⟩ := gA
  obtain ⟨fI, dI, TI, bI, GI⟩ := xE
  refine F.okX scCheckPair (fun vs H Q E h => ?_) (fun cdv A outer s H vs Q E hr h => ?_)
  · obtain ⟨t, q, v, u, ls, rs, rfl, _⟩ := h
    rfl
  · obtain ⟨t, q, v, u, ls, rs, rfl, ⟨dx, lt, sd, kt, kvs, hp, hlt, hsd, hkt, hrs⟩, ok, hq, hv, hu, k, kx, ky⟩ := h
    have hr5 : Room 5 _ := hr
    have hr2 : Room 2 _ := hr5.mono (by decide)
    refine ⟨_, pss_cons (ps_expr (pe_call GA hr5 (by rfl) mA kA bA .nil (passes_call (takes_of rfl rfl rfl rfl) (fun _ _ _ _ h => h)) (pa_cons (pv 1) (pa_cons (pe_fld (pv 0) rfl) pa_nil))))
      (pss_cons (ps_asg (pv 1) (pg_tup rfl (pgs_cons (pg_name (i := 2) scCheckPair.nd rfl (Or.inl rfl)) (pgs_cons (pg_name (i := 3) scCheckPair.nd rfl (Or.inl rfl)) pgs_nil))))
      (pss_one (ps_if (pt_cmpR op_eq (pv 2) (pv 3) (nomark _))
        (pss_one (ps_raise rfl (takes_of rfl rfl rfl rfl) (pmk_oex TI.oex TI.iC TI.tI GI hr2 bI .nil pass0 (by rfl) TI.gC (pa_cons (pv 2) (pa_cons (pv 3) pa_nil))))) pss_nil))), ?_⟩
    refine ⟨_, rfl, _, rfl, t, CT, dx, _, _, rfl, hp, T.cl, T.nK, pf3_looks _ _ _, q, kt, [v, u], keysOf rs, rfl, SqT.of hq, fun e he => ?_, SqT.of hkt, fun hn => ?_, fun e he => kx e he⟩
    · rcases List.mem_cons.mp he with rfl | he
      · exact hv
      · rw [List.mem_singleton] at he
        rw [he]; exact hu
    have hn1 := List.find?_eq_none.mp hn v (by simp)
    have hn2 := List.find?_eq_none.mp hn u (by simp)
    obtain ⟨x, rfl, hx⟩ := knows_str (by simpa using hn1 : knows v (keysOf rs) = true)
    obtain ⟨y, rfl, hy⟩ := knows_str (by simpa using hn2 : knows u (keysOf rs) = true)
    refine ⟨_, rfl, q, _, rfl, SqT.of hq, rfl, _, _, rfl, _, _, rfl, rfl, ?_⟩
    refine ⟨_, rfl, _, rfl, rfl, _, rfl, ?_⟩
    by_cases same : x = y
    · refine iteY (decide_eq_true (by rw [same])) ?_
      exact ⟨_, rfl, _, rfl, raise_endN (ky x hx rfl (by rw [same]))⟩
    · refine iteZ (decide_eq_false fun z => same (V.str.inj z)) ?_
      exact k x hx y hy rfl rfl same
end
end Dl

/-! the steps between pairs; the dicts of _leads while they are built: my own -/
namespace Dl
open PySem PySem.Spec PyProof.Rows L2
def StepBy (rs : List (Str × List Str)) (z : Str) (p q : Pr) : Prop :=
  (p.2 = q.2 ∧ p.1 ≠ q.1 ∧ p.1 ∈ seenOf rs z ∧ q.1 ∈ seenOf rs z ∧ p.2 ∈ keysOf rs ∧ p.2 ∉ seenOf rs z) ∨
  (p.1 = q.1 ∧ p.2 ≠ q.2 ∧ p.2 ∈ seenOf rs z ∧ q.2 ∈ seenOf rs z ∧ p.1 ∈ keysOf rs ∧ p.1 ∉ seenOf rs z)
theorem seen_sub {rs : List (Str × List Str)} {z y : Str} (h : y ∈ seenOf rs z) : y ∈ keysOf rs := by
  unfold seenOf at h
  obtain ⟨x, hx, rfl⟩ := List.mem_map.mp h
  exact List.mem_map.mpr ⟨x, (List.mem_filter.mp hx).1, rfl⟩
def PairOf (rs : List (Str × List Str)) (p : Pr) : Prop := p.1 ∈ keysOf rs ∧ p.2 ∈ keysOf rs ∧ p.1 ≠ p.2
theorem step_pair {rs : List (Str × List Str)} {z : Str} {p q : Pr} (h : StepBy rs z p q) : PairOf rs p ∧ PairOf rs q := by
  rcases h with ⟨e, ne, h1, h2, h3, h4⟩ | ⟨e, ne, h1, h2, h3, h4⟩
  · exact ⟨⟨seen_sub h1, h3, fun x => h4 (by rw [← x]; exact h1)⟩, seen_sub h2, by rw [← e]; exact h3, fun x => h4 (by rw [e, ← x]; exact h2)⟩
  · exact ⟨⟨h3, seen_sub h1, fun x => h4 (by rw [x]; exact h1)⟩, by rw [← e]; exact h3, seen_sub h2, fun x => h4 (by rw [e, x]; exact h2)⟩
theorem step_sym {rs : List (Str × List Str)} {z : Str} {p q : Pr} (h : StepBy rs z p q) : StepBy rs z q p := by
  rcases h with ⟨e, ne, h1, h2, h3, h4⟩ | ⟨e, ne, h1, h2, h3, h4⟩
  · exact .inl ⟨e.symm, ne.symm, h2, h1, by rw [← e]; exact h3, by rw [← e]; exact h4⟩
  · exact .inr ⟨e.symm, ne.symm, h2, h1, by rw [← e]; exact h3, by rw [← e]; exact h4⟩
def rev2 (p : Pr) : Pr := (p.2, p.1)
theorem step_rev {rs : List (Str × List Str)} {z : Str} {p q : Pr} (h : StepBy rs z p q) : StepBy rs z (rev2 p) (rev2 q) := by
  rcases h with ⟨e, ne, h1, h2, h3, h4⟩ | ⟨e, ne, h1, h2, h3, h4⟩
  · exact .inr ⟨e, ne, h1, h2, h3, h4⟩
  · exact .inl ⟨e, ne, h1, h2, h3, h4⟩
structure GoodL (ls : List Str) (rs : List (Str × List Str)) (ps : List Pr) (adj : AdjP) : Prop where
  nd : ps.Nodup
  few : ps.length ≤ 100
  mem : ∀ p, p ∈ ps ↔ PairOf rs p
  akd : ∀ p ∈ ps, (adjK adj p).Nodup
  step : ∀ p ∈ ps, ∀ e ∈ adj p, e.2 ∈ ls ∧ StepBy rs e.2 p e.1
  all : ∀ p ∈ ps, ∀ z ∈ ls, ∀ q, StepBy rs z p q → q ∈ adjK adj p
theorem few_pairs {ks : List Str} {ps : List Pr} (nd : ps.Nodup) (h : ∀ p ∈ ps, p.1 ∈ ks ∧ p.2 ∈ ks) (few : ks.length ≤ 10) : ps.length ≤ 100 := by
  have len : ∀ as : List Str, (as.flatMap fun a => ks.map fun b => ((a, b) : Pr)).length = as.length * ks.length := by
    intro as
    induction as with
    | nil => simp
    | cons a r ih => rw [List.flatMap_cons, List.length_append, ih, List.length_map, List.length_cons, Nat.succ_mul]; omega
  have sub : ∀ p ∈ ps, p ∈ (ks.flatMap fun a => ks.map fun b => ((a, b) : Pr)) := fun p hp =>
    List.mem_flatMap.mpr ⟨p.1, (h p hp).1, List.mem_map.mpr ⟨p.2, (h p hp).2, rfl⟩⟩
  have a := List.Nodup.length_le_of_subset nd sub
  rw [len] at a
  have b : ks.length * ks.length ≤ 10 * 10 := Nat.mul_le_mul few few
  omega
theorem adjD_val (q : Pr) : ∀ es : List (Pr × Str), (valV (adjD es) (kp q)).isSome = decide (q ∈ es.map (·.1))
  | [] => by simp [adjD, valV]
  | e :: r => by
    have ih := adjD_val q r
    show (valV ((kp e.1, V.str e.2) :: adjD r) (kp q)).isSome = _
    by_cases h : e.1 = q
    · rw [valV_pos (by rw [h])]
      simp [h]
    · rw [valV_neg fun z => h (kp_inj z), ih, List.map_cons]
      have h3 : ¬ q = e.1 := fun z => h z.symm
      simp [h3]
theorem putK_keysP {kvs : PD} {ps : List Pr} {p : Pr} {v : V} (e : kvs.map (·.1) = ps.map kp) : (putK kvs (kp p) v).map (·.1) = (if p ∈ ps then ps else ps ++ [p]).map kp := by
  have any : (kvs.any fun kv => decide (kv.1 = kp p)) = true ↔ p ∈ ps := by
    rw [List.any_eq_true]
    constructor
    · rintro ⟨x, hx, h⟩
      have h := of_decide_eq_true h
      have m : kp p ∈ ps.map kp := by rw [← e, ← h]; exact List.mem_map.mpr ⟨x, hx, rfl⟩
      obtain ⟨y, hy, ey⟩ := List.mem_map.mp m
      rw [← kp_inj ey]; exact hy
    · intro h
      have m : kp p ∈ kvs.map (·.1) := by rw [e]; exact List.mem_map.mpr ⟨p, h, rfl⟩
      obtain ⟨x, hx, ex⟩ := List.mem_map.mp m
      exact ⟨x, hx, decide_eq_true ex⟩
  unfold putK
  by_cases m : p ∈ ps
  · rw [if_pos (any.mpr m), if_pos m, ← e, List.map_map]
    refine List.map_congr_left fun x _ => ?_
    by_cases h : x.1 = kp p
    · simp [h]
    · simp [h]
  · rw [if_neg fun h => m (any.mp h), if_neg m, List.map_append, List.map_append, e]
    rfl
theorem putK_new {kvs : PD} {k : List Key} {v : V} (e : valV kvs k = none) : putK kvs k v = kvs ++ [(k, v)] := by
  unfold putK
  rw [if_neg (by rw [valV_any, e]; decide)]
def KeepN (H H' : Hp) : Prop := ∀ b o, (∀ k, o ≠ .dT k) → H b = some o → H' b = some o
theorem KeepN.refl (H : Hp) : KeepN H H := fun _ _ _ e => e
theorem KeepN.same {H H' : Hp} (s : Same H H') : KeepN H H' := fun b o _ e => s b o e
theorem KeepN.trans {H H1 H2 : Hp} (a : KeepN H H1) (b : KeepN H1 H2) : KeepN H H2 := fun c o n e => b c o n (a c o n e)
theorem KeepN.upd {H : Hp} {p : Addr} {k0 : PD} {o1 : HO} (h : H p = some (.dT k0)) : KeepN H (upd H p o1) := fun b o n e => by
  have nb : b ≠ p := fun z => n k0 (by rw [z, h] at e; exact (Option.some.inj e).symm)
  rw [upd_ne nb]
  exact e
/-- the dicts while they are built, over a heap H0 -/
structure WS (ls : List Str) (rs : List (Str × List Str)) (H0 H : Hp) (l : Addr) (ps : List Pr) (ad : Pr → Addr) (adj : AdjP) : Prop where
  same : Same H0 H
  fl : H0 l = none
  fa : ∀ p ∈ ps, H0 (ad p) = none
  ex : ∃ kvs : PD, H l = some (.dT kvs) ∧ kvs.map (·.1) = ps.map kp ∧ ∀ p ∈ ps, valV kvs (kp p) = some (.ref (ad p))
  sub : ∀ p ∈ ps, H (ad p) = some (.dT (adjD (adj p)))
  inj : ∀ p ∈ ps, ∀ q ∈ ps, ad p = ad q → p = q
  nl : ∀ p ∈ ps, ad p ≠ l
  nd : ps.Nodup
  mem : ∀ p ∈ ps, PairOf rs p
  akd : ∀ p ∈ ps, (adjK adj p).Nodup
  step : ∀ p ∈ ps, ∀ e ∈ adj p, e.2 ∈ ls ∧ StepBy rs e.2 p e.1
theorem WS.of {ls : List Str} {rs : List (Str × List Str)} {H0 H H' : Hp} {l : Addr} {ps : List Pr} {ad : Pr → Addr} {adj : AdjP} (h : WS ls rs H0 H l ps ad adj) (s : Same H H') : WS ls rs H0 H' l ps ad adj := by
  obtain ⟨kvs, h1, h2, h3⟩ := h.ex
  exact ⟨h.same.trans s, h.fl, h.fa, ⟨kvs, s _ _ h1, h2, h3⟩, fun p hp => s _ _ (h.sub p hp), h.inj, h.nl, h.nd, h.mem, h.akd, h.step⟩
/-- a new pair -/
theorem WS.new {ls : List Str} {rs : List (Str × List Str)} {H0 H : Hp} {l q : Addr} {ps : List Pr} {ad : Pr → Addr} {p : Pr} {kvs : PD} (h : WS ls rs H0 H l ps ad fun _ => []) (hp : PairOf rs p) (hq : H q = none) (hl : H l = some (.dT kvs)) :
    ∃ ps' ad', WS ls rs H0 (upd (upd H q (.dT [])) l (.dT (putK kvs (kp p) (.ref q)))) l ps' ad' (fun _ => []) ∧ p ∈ ps' ∧ ∀ r ∈ ps, r ∈ ps' := by
  have nq : q ≠ l := fun e => by rw [e, hl] at hq; cases hq
  have na : ∀ r ∈ ps, ad r ≠ q := fun r hr e => by have := h.sub r hr; rw [e, hq] at this; cases this
  obtain ⟨kv2, h1, h2, h3⟩ := h.ex
  obtain rfl : kvs = kv2 := by rw [hl] at h1; injection h1 with h1; injection h1
  have sub : ∀ r ∈ (if p ∈ ps then ps else ps ++ [p]), r ∈ ps ∨ r = p := fun r hr => by
    by_cases m : p ∈ ps
    · rw [if_pos m] at hr; exact .inl hr
    · rw [if_neg m, List.mem_append, List.mem_singleton] at hr; exact hr
  have pin : p ∈ (if p ∈ ps then ps else ps ++ [p]) := by
    by_cases m : p ∈ ps
    · rw [if_pos m]; exact m
    · rw [if_neg m]; exact List.mem_append_right _ (List.mem_singleton.mpr rfl)
  have grow : ∀ r ∈ ps, r ∈ (if p ∈ ps then ps else ps ++ [p]) := fun r hr => by
    by_cases m : p ∈ ps
    · rw [if_pos m]; exact hr
    · rw [if_neg m]; exact List.mem_append_left _ hr
  refine ⟨if p ∈ ps then ps else ps ++ [p], fun r => if r = p then q else ad r, ⟨fun b o e => ?_, h.fl, fun r hr => ?_, ⟨_, upd_same, putK_keysP h2, fun r hr => ?_⟩, fun r hr => ?_, fun r hr t ht e => ?_, fun r hr => ?_, ?_, fun r hr => ?_, fun r hr => List.nodup_nil, fun r hr e he => by cases he⟩, pin, grow⟩
  · rw [upd_ne (fun z => by rw [z, h.fl] at e; cases e), upd_ne (fun z => ?_)]
    · exact h.same _ _ e
    · have := h.same _ _ e
      rw [z, hq] at this
      cases this
  · by_cases z : r = p
    · show H0 (if r = p then q else ad r) = none
      rw [if_pos z]
      exact h.same.free hq
    · show H0 (if r = p then q else ad r) = none
      rw [if_neg z]
      exact h.fa r ((sub r hr).resolve_right z)
  · show valV _ _ = some (.ref (if r = p then q else ad r))
    rw [valV_put]
    by_cases z : r = p
    · rw [if_pos (by rw [z]), if_pos z]
    · rw [if_neg (fun c => z (kp_inj c)), if_neg z]
      exact h3 r ((sub r hr).resolve_right z)
  · show upd (upd H q (.dT [])) l _ (if r = p then q else ad r) = _
    by_cases z : r = p
    · rw [if_pos z, upd_ne nq, upd_same]
      rfl
    · have hr' := (sub r hr).resolve_right z
      rw [if_neg z, upd_ne (h.nl r hr'), upd_ne (na r hr')]
      exact h.sub r hr'
  · have e : (if r = p then q else ad r) = (if t = p then q else ad t) := e
    by_cases z : r = p
    · by_cases y : t = p
      · rw [z, y]
      · rw [if_pos z, if_neg y] at e
        exact absurd e.symm (na t ((sub t ht).resolve_right y))
    · by_cases y : t = p
      · rw [if_neg z, if_pos y] at e
        exact absurd e (na r ((sub r hr).resolve_right z))
      · rw [if_neg z, if_neg y] at e
        exact h.inj r ((sub r hr).resolve_right z) t ((sub t ht).resolve_right y) e
  · show (if r = p then q else ad r) ≠ l
    by_cases z : r = p
    · rw [if_pos z]; exact nq
    · rw [if_neg z]; exact h.nl r ((sub r hr).resolve_right z)
  · by_cases m : p ∈ ps
    · rw [if_pos m]; exact h.nd
    · rw [if_neg m]
      exact List.nodup_append.mpr ⟨h.nd, by simp, fun a ha b hb e => m (by rw [List.mem_singleton] at hb; rw [← hb, ← e]; exact ha)⟩
  · rcases sub r hr with h1 | h1
    · exact h.mem r h1
    · rw [h1]; exact hp
/-- a step is put, unless it is there -/
theorem WS.put {ls : List Str} {rs : List (Str × List Str)} {H0 H : Hp} {l : Addr} {ps : List Pr} {ad : Pr → Addr} {adj : AdjP} {p q : Pr} {z : Str} (h : WS ls rs H0 H l ps ad adj) (hp : p ∈ ps) (hz : z ∈ ls) (hs : StepBy rs z p q) (no : valV (adjD (adj p)) (kp q) = none) :
    ∃ adj', WS ls rs H0 (upd H (ad p) (.dT (putK (adjD (adj p)) (kp q) (.str z)))) l ps ad adj' ∧ q ∈ adjK adj' p ∧ ∀ r s, s ∈ adjK adj r → s ∈ adjK adj' r := by
  have fresh : q ∉ adjK adj p := fun m => by
    have := adjD_val q (adj p)
    rw [no] at this
    exact absurd (this.trans (decide_eq_true m)) (by decide)
  obtain ⟨kvs, h1, h2, h3⟩ := h.ex
  have ek : ∀ r, adjK (fun r => if r = p then adj p ++ [(q, z)] else adj r) r = if r = p then adjK adj p ++ [q] else adjK adj r := fun r => by
    unfold adjK
    show List.map (fun x => x.1) (if r = p then adj p ++ [(q, z)] else adj r) = _
    by_cases e : r = p
    · rw [if_pos e, if_pos e, List.map_append]; rfl
    · rw [if_neg e, if_neg e]
  refine ⟨fun r => if r = p then adj p ++ [(q, z)] else adj r, ⟨fun b o e => ?_, h.fl, h.fa, ⟨kvs, by rw [upd_ne (h.nl p hp).symm]; exact h1, h2, h3⟩, fun r hr => ?_, h.inj, h.nl, h.nd, h.mem, fun r hr => ?_, fun r hr e he => ?_⟩, ?_, fun r s hs' => ?_⟩
  · rw [upd_ne (fun c => by rw [c, h.fa p hp] at e; cases e)]
    exact h.same _ _ e
  · by_cases e : r = p
    · show upd H (ad p) _ (ad r) = some (.dT (adjD (if r = p then adj p ++ [(q, z)] else adj r)))
      rw [if_pos e, e, upd_same, putK_new no]
      unfold adjD
      rw [List.map_append]
      rfl
    · show upd H (ad p) _ (ad r) = some (.dT (adjD (if r = p then adj p ++ [(q, z)] else adj r)))
      rw [if_neg e, upd_ne (fun c => e (h.inj r hr p hp c))]
      exact h.sub r hr
  · rw [ek]
    by_cases e : r = p
    · rw [if_pos e]
      exact List.nodup_append.mpr ⟨h.akd p hp, by simp, fun a ha b hb e => fresh (by rw [List.mem_singleton] at hb; rw [← hb, ← e]; exact ha)⟩
    · rw [if_neg e]; exact h.akd r hr
  · have he : e ∈ (if r = p then adj p ++ [(q, z)] else adj r) := he
    by_cases c : r = p
    · rw [if_pos c, List.mem_append, List.mem_singleton] at he
      rw [c]
      rcases he with he | he
      · exact h.step p hp e he
      · rw [he]; exact ⟨hz, hs⟩
    · rw [if_neg c] at he
      exact h.step r hr e he
  · rw [ek, if_pos rfl]
    exact List.mem_append_right _ (List.mem_singleton.mpr rfl)
  · rw [ek]
    by_cases c : r = p
    · rw [if_pos c]
      exact List.mem_append_left _ (by rw [← c]; exact hs')
    · rw [if_neg c]; exact hs'
/-- what setdefault asks there -/
theorem WS.run {ls : List Str} {rs : List (Str × List Str)} {H0 H : Hp} {l : Addr} {ps : List Pr} {ad : Pr → Addr} {adj : AdjP} {p q : Pr} {z : Str} {b : Addr} {R : Hp → Prop} (h : WS ls rs H0 H l ps ad adj) (few : ps.length ≤ 100) (all : ∀ r, PairOf rs r → r ∈ ps) (hz : z ∈ ls) (hs : StepBy rs z p q) (hb : H b = some (pairO q))
    (k : ∀ H' adj', KeepN H H' → WS ls rs H0 H' l ps ad adj' → q ∈ adjK adj' p → (∀ r s, s ∈ adjK adj r → s ∈ adjK adj' r) → R H') : rSetDefT (.ref (ad p)) [.ref b, .str z] H fun _ H' => R H' := by
  have hp : p ∈ ps := all p (step_pair hs).1
  have len : (adjD (adj p)).length ≤ 100 := by
    have sub : ∀ s ∈ adjK adj p, s ∈ ps := fun s hs' => by
      obtain ⟨e, he, rfl⟩ := List.mem_map.mp hs'
      exact all _ (step_pair (h.step p hp e he).2).2
    have := List.Nodup.length_le_of_subset (h.akd p hp) sub
    unfold adjK at this
    unfold adjD
    rw [List.length_map] at this ⊢
    omega
  refine ⟨ad p, _, kp q, b, .str z, rfl, rfl, h.sub p hp, hb, small1000 (by omega), fun v hv => ?_, fun no => ?_⟩
  · refine k H adj (KeepN.refl H) h ?_ fun _ _ m => m
    have := adjD_val q (adj p)
    rw [hv] at this
    exact of_decide_eq_true this.symm
  · obtain ⟨adj', w, m, mono⟩ := h.put hp hz hs no
    exact k _ adj' (KeepN.upd (h.sub p hp)) w m mono
end Dl
/-! dicts of tuple keys that are frozen -/
namespace Dl
open PySem PySem.Spec PyProof.Rows L2
section
variable {X : Cx}
theorem frz_all {pins : List (Addr × Obj)} {σ : L2.St} {s : Shared} : ∀ (as : List Addr) (H : Hp), Inv X pins σ H s → (∀ a ∈ as, ∃ k, H a = some (.dT k)) →
    ∃ H2, Inv X pins σ H2 s ∧ (∀ a ∈ as, ∀ k, H a = some (.dT k) → ∃ o, H2 a = some (.frz o (.dT k))) ∧ ∀ b, b ∉ as → H2 b = H b
  | [], H, I, _ => ⟨H, I, fun a ha => absurd ha (by simp), fun _ _ => rfl⟩
  | a :: r, H, I, h => by
    by_cases m : a ∈ r
    · obtain ⟨H2, I2, f2, k2⟩ := frz_all r H I fun c hc => h c (List.mem_cons_of_mem _ hc)
      refine ⟨H2, I2, fun c hc => ?_, fun b hb => k2 b fun z => hb (List.mem_cons_of_mem _ z)⟩
      rcases List.mem_cons.mp hc with rfl | hc
      · exact f2 _ m
      · exact f2 c hc
    · obtain ⟨k0, ha⟩ := h a (List.mem_cons_self ..)
      obtain ⟨od, I1⟩ := I.lock ha True.intro
      have other : ∀ c ∈ r, c ≠ a := fun c hc e => m (by rw [← e]; exact hc)
      obtain ⟨H2, I2, f2, k2⟩ := frz_all r _ I1 fun c hc => by
        obtain ⟨k, e⟩ := h c (List.mem_cons_of_mem _ hc)
        exact ⟨k, by rw [upd_ne (other c hc)]; exact e⟩
      refine ⟨H2, I2, fun c hc k hk => ?_, fun b hb => ?_⟩
      · rcases List.mem_cons.mp hc with rfl | hc
        · rw [k2 _ m, upd_same]
          rw [hk] at ha
          injection ha with ha
          injection ha with ha
          rw [ha]
          exact ⟨od, rfl⟩
        · exact f2 c hc k (by rw [upd_ne (other c hc)]; exact hk)
      · have nb : b ≠ a := fun e => hb (by rw [e]; exact List.mem_cons_self ..)
        rw [k2 b fun z => hb (List.mem_cons_of_mem _ z), upd_ne nb]
def tFrzAll (te : TE) : TE := fun σ H Q => te σ H fun x H1 => ∃ as : List Addr, (∀ a ∈ as, ∃ k, H1 a = some (.dT k)) ∧ ∀ H2, (∀ a ∈ as, ∀ k, H1 a = some (.dT k) → ∃ o, H2 a = some (.frz o (.dT k))) → (∀ b, b ∉ as → H2 b = H1 b) → Q x H2
theorem pe_frzAll {e : Expr} {te : TE} (he : PE X e te) : PE X e (tFrzAll te) := by
  constructor
  intro pins s σ H Q I h
  apply thn (he.run pins s σ H _ I h)
  rintro v s1 ⟨x, H1, I1, r1, as, h1, q⟩
  obtain ⟨H2, I2, f2, k2⟩ := frz_all as H1 I1 h1
  exact ⟨x, H2, I2, r1, q H2 f2 k2⟩
end
end Dl

/-! _leads: its contract -/
namespace Dl
open PySem PySem.Spec PyProof.Rows L2
def spLeads (CT : Addr) : Sp := fun vs H Q _ => ∃ (t : Addr) (ls : List Str) (rs : List (Str × List Str)), vs = [.ref t] ∧ TableAt CT H t ls rs ∧ TabOk ls rs ∧ rs.length ≤ 10 ∧
  ∀ H' l ps adj, Same H H' → LeadsP H' l ps adj → GoodL ls rs ps adj → Q (.ref l) H'
abbrev Tri := Str × Str × Str
def triO (t : Tri) : HO := .tup [.str t.1, .str t.2.1, .str t.2.2]
def Tris (H : Hp) : List Addr → List Tri → Prop := Paired fun b t => H b = some (triO t)
theorem Tris.at {H : Hp} : ∀ {bs : List Addr} {ts : List Tri} {i : Nat} {b : Addr}, Tris H bs ts → bs[i]? = some b → ∃ t, ts[i]? = some t ∧ H b = some (triO t)
  | _, _, _, _, .nil, h => by cases h
  | c :: bs, e :: ts, 0, b, .cons h t, g => by
    cases (Option.some.inj g)
    exact ⟨e, rfl, h⟩
  | c :: bs, e :: ts, i + 1, b, .cons h t, g => Tris.at (bs := bs) (ts := ts) t (by simpa using g)
/-- the list of moves at M while it grows, over H0 -/
structure MV (H0 H : Hp) (M : Addr) (bs : List Addr) (ts : List Tri) : Prop where
  same : Same H0 H
  free : H0 M = none
  lst : H M = some (.lst (bs.map V.ref))
  tris : Tris H bs ts
theorem MV.push {H0 H : Hp} {M c : Addr} {bs : List Addr} {ts : List Tri} {t : Tri} (h : MV H0 H M bs ts) (hc : H c = none) : MV H0 (upd (upd H c (triO t)) M (.lst ((bs.map V.ref) ++ [.ref c]))) M (bs ++ [c]) (ts ++ [t]) := by
  have nc : c ≠ M := fun e => by rw [e, h.lst] at hc; cases hc
  refine ⟨fun b o e => ?_, h.free, by rw [upd_same, List.map_append]; rfl, Paired.snoc (Paired.mapP h.tris fun b u e => ?_) ?_⟩
  · have e2 := h.same _ _ e
    rw [upd_ne (ne_of_none e h.free), upd_ne (ne_of_none e2 hc)]
    exact e2
  · have nb : b ≠ M := ne_of e h.lst (by unfold triO; intro z; cases z)
    rw [upd_ne nb, upd_ne (ne_of_none e hc)]
    exact e
  · rw [upd_ne nc, upd_same]
theorem MV.len {H0 H : Hp} {M : Addr} {bs : List Addr} {ts : List Tri} (h : MV H0 H M bs ts) : bs.length = ts.length := Paired.length h.tris
section
variable {P : Program} {w : World} {K : PySem.W.Frag} {mg : Str → Option Value} {base : Heap} {C : Cs} {CT : Addr}
theorem scLeads : FnScope ["table", "leads", "first", "second", "lamp", "seen", "dark", "moves", "old", "new", "other", "look"] ["table"] (defScope sLeads) := ⟨rfl, rfl, rfl, by decide +kernel, rfl, by decide +kernel, by decide +kernel⟩
theorem ok_leads {f : Addr} {fd : FuncData} (F : Fun K "_leads" "_leads" sLeads f fd) (T : TabT P w K mg base CT C)
    (gSeen : ∃ f fd, Meth K CT "seen" f ∧ Binds K fd ["self", "lamp"] [] ∧ FnOk P w K mg base (L2.CX P w) 5 f fd ["self", "lamp"] (spTSeen K CT C)) : FnOk P w K mg base CX0 6 f fd ["table"] (spLeads CT) := by
  obtain ⟨fSe, fdSe, mSeen, bSeen, GSeen⟩ := gSeen
  have cl := T.cl
  refine F.ok scLeads (fun vs H Q E h => ?_) (fun cdv A outer s H vs Q E hr h => ?_)
  · obtain ⟨t, ls, rs, rfl, _⟩ := h
    rfl
  · obtain ⟨t, ls, rs, rfl, hT, ok, few, k⟩ := h
    have hT2 := hT
    obtain ⟨dx, lt, sd, kt, kvs, hp, hlt, hsd, hkt, hrs⟩ := hT2
    have hr5 : Room 5 _ := hr
    have hkt : H kt = some (.tup ((keysOf rs).map V.str)) := hkt
    have kl : (keysOf rs).length ≤ 10 := by unfold keysOf; rw [List.length_map]; exact few
    have sl : ∀ z, (seenOf rs z).length ≤ 10 := fun z => by
      unfold seenOf
      rw [List.length_map]
      exact Nat.le_trans (List.length_filter_le _ _) few
    refine ⟨_, (pss_cons (ps_setDc2T (i := 1) (own := [("first", 2), ("second", 3)]) (vs1 := [3]) (g := gName 2) (g1 := gName 3) (tt := tYes) (wi1 := iTup K (tFld K (tVar 0) "looks")) (tt1 := tTest (tOp rNe (tVar 2) (tVar 3))) (tk := tTup (tCons (tVar 2) (tCons (tVar 3) tNil))) (tv := tDNewT) hr.units0 rfl scLeads.nd rfl rfl (sw_dictP rfl rfl rfl (by decide +kernel)) (pi_tup (pe_fld (pv 0) rfl)) (blkOk_by (N := ["table", "leads", "first", "second", "lamp", "seen", "dark", "moves", "old", "new", "other", "look"]) (sc := defScope sLeads) (by decide +kernel)) (by decide) (fun _ _ _ _ _ => pg_name (i := 2) scLeads.nd rfl (Or.inl rfl)) (fun _ _ _ _ _ => pts_nil) (fun _ _ _ _ _ => by exact pi_tup (pe_fld (pv 0) rfl)) (fun _ _ _ _ _ => pg_name (i := 3) scLeads.nd rfl (Or.inl rfl)) (fun _ _ _ _ _ => pts_one (pt_cmpR (by exact op_ne : OpR _ _ rNe) (pv 2) (pv 3) (nomark _))) (fun _ _ _ _ _ => pe_tup (pa_cons (pv 2) (pa_cons (pv 3) pa_nil))) (fun _ _ _ _ _ => pe_dnewT))
      (pss_cons (ps_for PassesOwn.never rfl (pi_tup (pe_fld (pv 0) rfl)) (pg_name (i := 4) scLeads.nd rfl (Or.inl rfl))
        (pss_cons (ps_set (i := 5) scLeads.nd rfl (Or.inr rfl) (pe_meth (pv 0) cl mSeen GSeen hr5 bSeen .nil passL (pa_cons (pv 4) pa_nil)))
        (pss_cons (ps_set (i := 6) scLeads.nd rfl (Or.inr rfl) (pe_lc (own := [("look", 11)]) (g := gName 11) (tt := tTest (tOp (rIn K true) (tVar 11) (tVar 5))) (te := tVar 11) rfl scLeads.nd (pi_tup (pe_fld (pv 0) rfl)) (blkOk_by (N := ["table", "leads", "first", "second", "lamp", "seen", "dark", "moves", "old", "new", "other", "look"]) (sc := defScope sLeads) (by decide +kernel)) (fun _ _ _ _ _ => pg_name (i := 11) scLeads.nd rfl (Or.inl rfl)) (fun _ _ _ _ _ => pts_one (pt_cmpR (by exact op_notIn_seq : OpR _ _ (rIn K true)) (pv 11) (pv 5) (by rfl))) (fun _ _ _ _ _ => pv 11)))
        (pss_cons (ps_setLc3 (i := 7) (own := [("old", 8), ("new", 9), ("other", 10)]) (vs1 := [9, 10]) (vs2 := [10]) (g := gName 8) (g1 := gName 9) (g2 := gName 10) (tt := tYes) (wi1 := iTup K (tVar 5)) (tt1 := tTest (tOp rNe (tVar 8) (tVar 9))) (wi2 := iList K (tVar 6)) (tt2 := tYes) (te := tTup (tCons (tVar 8) (tCons (tVar 9) (tCons (tVar 10) tNil)))) rfl scLeads.nd rfl rfl (sw_true rfl rfl rfl (by decide +kernel)) (pi_tup (pv 5)) (blkOk_by (N := ["table", "leads", "first", "second", "lamp", "seen", "dark", "moves", "old", "new", "other", "look"]) (sc := defScope sLeads) (by decide +kernel)) (by decide) (by decide) (fun _ _ _ _ _ => pg_name (i := 8) scLeads.nd rfl (Or.inl rfl)) (fun _ _ _ _ _ => pts_nil) (fun _ _ _ _ _ => by exact pi_tup (pv 5)) (fun _ _ _ _ _ => pg_name (i := 9) scLeads.nd rfl (Or.inl rfl)) (fun _ _ _ _ _ => pts_one (pt_cmpR (by exact op_ne : OpR _ _ rNe) (pv 8) (pv 9) (nomark _))) (fun _ _ _ _ _ => by exact pi_list (pv 6)) (fun _ _ _ _ _ => pg_name (i := 10) scLeads.nd rfl (Or.inl rfl)) (fun _ _ _ _ _ => pts_nil) (fun _ _ _ _ _ => pe_tup (pa_cons (pv 8) (pa_cons (pv 9) (pa_cons (pv 10) pa_nil)))))
        (pss_one (ps_for PassesOwn.never rfl (pi_list (pv 7)) (pg_tup rfl (pgs_cons (pg_name (i := 8) scLeads.nd rfl (Or.inl rfl)) (pgs_cons (pg_name (i := 9) scLeads.nd rfl (Or.inl rfl)) (pgs_cons (pg_name (i := 10) scLeads.nd rfl (Or.inl rfl)) pgs_nil))))
          (pss_cons (ps_expr (pe_bm PySem.F.plainAttrs_dict PySem.F.slot_dict_setdefault PySem.F.type_dict_setdefault (mt_setdefT (hu_of hr)) (pe_dget (hu_of hr) (pv 1) (pe_tup (pa_cons (pv 8) (pa_cons (pv 10) pa_nil))) (fun _ _ => rfl)) (pa_cons (pe_tup (pa_cons (pv 9) (pa_cons (pv 10) pa_nil))) (pa_cons (pv 4) pa_nil))))
          (pss_one (ps_expr (pe_bm PySem.F.plainAttrs_dict PySem.F.slot_dict_setdefault PySem.F.type_dict_setdefault (mt_setdefT (hu_of hr)) (pe_dget (hu_of hr) (pv 1) (pe_tup (pa_cons (pv 10) (pa_cons (pv 8) pa_nil))) (fun _ _ => rfl)) (pa_cons (pe_tup (pa_cons (pv 10) (pa_cons (pv 9) pa_nil))) (pa_cons (pv 4) pa_nil))))))))))))
      (pss_one (ps_ret (pe_frzAll (pv 1)))))), ?_⟩
    refine ⟨_, rfl, t, CT, dx, _, _, rfl, hp, T.cl, T.nK, pf3_looks _ _ _, kt, rfl, ⟨_, SqT.of hkt⟩, fun D hD => ?_⟩
    have w0 : WS ls rs H (upd H D (.dT [])) D [] (fun _ => D) (fun _ => []) := ⟨Same.upd_new hD, hD, by simp, ⟨[], upd_same, rfl, by simp⟩, by simp, by simp, by simp, List.nodup_nil, by simp, by simp, by simp⟩
    refine dc2_itP (walk_tup (K := K) (a := kt) (xs := (keysOf rs).map V.str)) (fun i H' => ∃ ps ad, WS ls rs H H' D ps ad (fun _ => []) ∧ ∀ x ∈ (keysOf rs).take i, ∀ y ∈ keysOf rs, x ≠ y → ((x, y) : Pr) ∈ ps) ⟨[], fun _ => D, w0, by simp⟩ (fun i H' _ ⟨_, _, w, _⟩ => SqT.of (w.same _ _ hkt)) ?_ ?_
    · rintro i v H4 H5 hi ⟨ps, ad, wi, all⟩ ⟨rfl, hv⟩
      obtain ⟨x, hx, rfl⟩ := map_at hv
      refine ⟨rfl, _, rfl, t, CT, dx, _, _, rfl, wi.same _ _ hp, T.cl, T.nK, pf3_looks _ _ _, kt, rfl, ⟨_, SqT.of (wi.same _ _ hkt)⟩, ?_⟩
      refine dc2_itP (walk_tup (K := K) (a := kt) (xs := (keysOf rs).map V.str)) (fun j H' => ∃ ps ad, WS ls rs H H' D ps ad (fun _ => []) ∧ (∀ a ∈ (keysOf rs).take i, ∀ y ∈ keysOf rs, a ≠ y → ((a, y) : Pr) ∈ ps) ∧ ∀ y ∈ (keysOf rs).take j, x ≠ y → ((x, y) : Pr) ∈ ps) ⟨ps, ad, wi, all, by simp⟩ (fun j H' _ ⟨_, _, w, _⟩ => SqT.of (w.same _ _ hkt)) ?_ ?_
      · rintro j v2 H6 H7 hj ⟨ps6, ad6, w6, all6, row6⟩ ⟨rfl, hv2⟩
        obtain ⟨y, hy, rfl⟩ := map_at hv2
        refine ⟨rfl, _, rfl, _, rfl, rfl, _, rfl, ?_⟩
        by_cases e : x = y
        · refine iteZ (by rw [e]; simp) ⟨ps6, ad6, w6, all6, fun u hu ne => ?_⟩
          rw [take_plusP hy, List.mem_append, List.mem_singleton] at hu
          exact hu.elim (fun h => row6 u h ne) fun h => absurd (e.trans h.symm) ne
        · refine iteY (by simp [e]) ?_
          refine ⟨_, rfl, _, rfl, by show 2 ≤ sizeLine; decide, fun b hb => fun q hq => ?_⟩
          have w7 := w6.of (Same.upd_new hb (o := .tup [.str x, .str y]))
          have hb7 : upd H7 b (.tup [.str x, .str y]) b = some (pairO (x, y)) := upd_same
          generalize upd H7 b (.tup [.str x, .str y]) = H8 at *
          obtain ⟨kv7, h71, h72, _⟩ := w7.ex
          obtain ⟨ps', ad', w8, pin, grow⟩ := w7.new (p := (x, y)) ⟨List.mem_of_getElem? hx, List.mem_of_getElem? hy, e⟩ hq h71
          have kvl : kv7.length ≤ 100 := by
            have := few_pairs w7.nd (fun p hp => ⟨(w7.mem p hp).1, (w7.mem p hp).2.1⟩) kl
            have l2 := congrArg List.length h72
            rw [List.length_map, List.length_map] at l2
            omega
          refine ⟨kv7, kp (x, y), b, rfl, by rw [upd_ne (ne_of_none hb7 hq)]; exact hb7, by rw [upd_ne (ne_of_none h71 hq)]; exact h71, small1000 (by omega), ps', ad', w8, fun a ha u hu ne => grow _ (all6 a ha u hu ne), fun u hu ne => ?_⟩
          rw [take_plusP hy, List.mem_append, List.mem_singleton] at hu
          rcases hu with h | h
          · exact grow _ (row6 u h ne)
          · rw [h]; exact pin
      · rintro H6 ⟨ps6, ad6, w6, all6, row6⟩
        rw [List.length_map, List.take_length] at row6
        refine ⟨ps6, ad6, w6, fun a ha u hu ne => ?_⟩
        rw [take_plusP hx, List.mem_append, List.mem_singleton] at ha
        rcases ha with h | h
        · exact all6 a h u hu ne
        · rw [h] at ne ⊢
          exact row6 u hu ne
    · rintro H4 ⟨ps, ad, w4, all4⟩
      rw [List.length_map, List.take_length] at all4
      have mem : ∀ r, PairOf rs r → r ∈ ps := fun r hr => all4 r.1 hr.1 r.2 hr.2.1 hr.2.2
      have pfew := few_pairs w4.nd (fun p hp => ⟨(w4.mem p hp).1, (w4.mem p hp).2.1⟩) kl
      refine ⟨_, rfl, t, CT, dx, _, _, rfl, w4.same _ _ hp, T.cl, T.nL, pf3_lamps _ _ _, lt, rfl, ⟨_, SqT.of (w4.same _ _ hlt)⟩, for_it (walk_tup (K := K) (a := lt) (xs := ls.map V.str)) (fun i σ H' => ∃ (x4 x5 x6 x7 x8 x9 x10 : Option V) (adj : AdjP), σ = [some (.ref t), some (.ref D), none, none, x4, x5, x6, x7, x8, x9, x10, none] ∧ WS ls rs H H' D ps ad adj ∧ ∀ z ∈ ls.take i, ∀ p q, StepBy rs z p q → q ∈ adjK adj p) ⟨none, none, none, none, none, none, none, _, rfl, w4, by simp⟩ (fun i σ H' _ ⟨_, _, _, _, _, _, _, _, _, w, _⟩ => SqT.of (w.same _ _ hlt)) ?_ ?_⟩
      · rintro i v σ H5 H6 hi ⟨x4, x5, x6, x7, x8, x9, x10, adj, rfl, w5, done⟩ ⟨rfl, hv⟩
        obtain ⟨z, hz, rfl⟩ := map_at hv
        have hzm := List.mem_of_getElem? hz
        refine ⟨_, rfl, t, dx, _, rfl, w5.same _ _ hp, rfl, _, rfl, t, .str z, ls, rs, rfl, hT.of w5.same, ok, validN_nm (ok.lval z hzm), fun z' hz' ez H7 sa s7 hsa0 hsa => ?_, fun hk => absurd hk (by rw [show knows (.str z) ls = true from decide_eq_true hzm]; decide)⟩
        obtain rfl : z = z' := V.str.inj ez
        have w7 := w5.of s7
        clear w5 s7 hsa0
        refine ⟨_, rfl, t, CT, dx, _, _, rfl, w7.same _ _ hp, T.cl, T.nK, pf3_looks _ _ _, kt, rfl, ⟨_, SqT.of (w7.same _ _ hkt)⟩, fun E hE => lc_it (walk_tup (K := K) (a := kt) (xs := (keysOf rs).map V.str)) (fun j H' => H' = upd H7 E (.lst ((((keysOf rs).take j).filter fun y => !decide (y ∈ seenOf rs z)).map V.str))) rfl (fun j H' _ e => by rw [e]; exact SqT.of (Same.upd_new hE _ _ (w7.same _ _ hkt))) ?_ ?_⟩
        · rintro j v2 H8 H9 hj rfl ⟨rfl, hv2⟩
          obtain ⟨y, hy, rfl⟩ := map_at hv2
          refine ⟨rfl, _, rfl, _, rfl, sa, _, rfl, .inr (SqT.of (Same.upd_new hE _ _ hsa)), rfl, flat_strs _, _, rfl, ?_⟩
          rw [inV_str]
          by_cases q : y ∈ seenOf rs z
          · refine iteZ (by rw [decide_eq_true q]; rfl) ?_
            rw [take_plusP hy, List.filter_append]
            simp [q]
          · refine iteY (by rw [decide_eq_false q]; rfl) ⟨_, rfl, _, upd_same, ?_, ?_⟩
            · rw [List.length_map]
              have a := List.length_filter_le (fun y => !decide (y ∈ seenOf rs z)) ((keysOf rs).take j)
              rw [List.length_take] at a
              exact small1000 (by omega)
            · rw [upd_upd, take_plusP hy, List.filter_append, List.map_append]
              simp [q]
        rintro H8 rfl
        rw [List.length_map, List.take_length]
        have hE8 := upd_same (H := H7) (a := E) (o := .lst (((keysOf rs).filter fun y => !decide (y ∈ seenOf rs z)).map V.str))
        have w8 := w7.of (Same.upd_new hE (o := .lst (((keysOf rs).filter fun y => !decide (y ∈ seenOf rs z)).map V.str)))
        have hsa8 := Same.upd_new hE (o := .lst (((keysOf rs).filter fun y => !decide (y ∈ seenOf rs z)).map V.str)) _ _ hsa
        have dkm : ∀ y, y ∈ ((keysOf rs).filter fun y => !decide (y ∈ seenOf rs z)) ↔ y ∈ keysOf rs ∧ y ∉ seenOf rs z := fun y => by
          rw [List.mem_filter]
          simp
        have dkl : ((keysOf rs).filter fun y => !decide (y ∈ seenOf rs z)).length ≤ 10 := Nat.le_trans (List.length_filter_le _ _) kl
        generalize upd H7 E (.lst (((keysOf rs).filter fun y => !decide (y ∈ seenOf rs z)).map V.str)) = H8 at *
        generalize ((keysOf rs).filter fun y => !decide (y ∈ seenOf rs z)) = dk at *
        have szl := sl z
        clear w7 hsa hE
        have good : ∀ t : Tri, t.1 ∈ seenOf rs z ∧ t.2.1 ∈ seenOf rs z ∧ t.1 ≠ t.2.1 ∧ t.2.2 ∈ dk → StepBy rs z (t.1, t.2.2) (t.2.1, t.2.2) ∧ StepBy rs z (t.2.2, t.1) (t.2.2, t.2.1) := fun t ⟨h1, h2, h3, h4⟩ =>
          ⟨.inl ⟨rfl, h3, h1, h2, ((dkm _).mp h4).1, ((dkm _).mp h4).2⟩, .inr ⟨rfl, h3, h1, h2, ((dkm _).mp h4).1, ((dkm _).mp h4).2⟩⟩
        refine ⟨_, rfl, sa, rfl, ⟨_, SqT.of hsa8⟩, fun M hM => ?_⟩
        refine dc2_itP (walk_tup (K := K) (a := sa) (xs := (seenOf rs z).map V.str)) (fun i H' => ∃ bs ts, MV H8 H' M bs ts ∧ ts.length ≤ i * 100 ∧ (∀ t ∈ ts, t.1 ∈ seenOf rs z ∧ t.2.1 ∈ seenOf rs z ∧ t.1 ≠ t.2.1 ∧ t.2.2 ∈ dk) ∧ ∀ o ∈ (seenOf rs z).take i, ∀ n ∈ seenOf rs z, o ≠ n → ∀ x ∈ dk, ((o, n, x) : Tri) ∈ ts) ⟨[], [], ⟨Same.upd_new hM, hM, upd_same, .nil⟩, by simp, by simp, by simp⟩ (fun i H' _ ⟨_, _, m, _⟩ => SqT.of (m.same _ _ hsa8)) ?_ ?_
        · rintro i2 v3 H9 H10 hi2 ⟨bs, ts, mv, tl, tg, ta⟩ ⟨rfl, hv3⟩
          obtain ⟨o, ho, rfl⟩ := map_at hv3
          refine ⟨rfl, _, rfl, sa, rfl, ⟨_, SqT.of (mv.same _ _ hsa8)⟩, ?_⟩
          refine dc2_itP (walk_tup (K := K) (a := sa) (xs := (seenOf rs z).map V.str)) (fun j H' => ∃ bs ts, MV H8 H' M bs ts ∧ ts.length ≤ i2 * 100 + j * 10 ∧ (∀ t ∈ ts, t.1 ∈ seenOf rs z ∧ t.2.1 ∈ seenOf rs z ∧ t.1 ≠ t.2.1 ∧ t.2.2 ∈ dk) ∧ (∀ o ∈ (seenOf rs z).take i2, ∀ n ∈ seenOf rs z, o ≠ n → ∀ x ∈ dk, ((o, n, x) : Tri) ∈ ts) ∧ ∀ n ∈ (seenOf rs z).take j, o ≠ n → ∀ x ∈ dk, ((o, n, x) : Tri) ∈ ts) ⟨bs, ts, mv, by omega, tg, ta, by simp⟩ (fun j H' _ ⟨_, _, m, _⟩ => SqT.of (m.same _ _ hsa8)) ?_ ?_
          · rintro j2 v4 H11 H12 hj2 ⟨bs2, ts2, mv2, tl2, tg2, ta2, tb2⟩ ⟨rfl, hv4⟩
            obtain ⟨n, hn, rfl⟩ := map_at hv4
            refine ⟨rfl, _, rfl, _, rfl, rfl, _, rfl, ?_⟩
            by_cases e : o = n
            · refine iteZ (by rw [e]; simp) ⟨bs2, ts2, mv2, by omega, tg2, ta2, fun u hu ne => ?_⟩
              rw [take_plusP hn, List.mem_append, List.mem_singleton] at hu
              exact hu.elim (fun h => tb2 u h ne) fun h => absurd (e.trans h.symm) ne
            · refine iteY (by simp [e]) ?_
              refine ⟨_, rfl, E, rfl, ⟨_, SqL.of (mv2.same _ _ hE8)⟩, ?_⟩
              refine dc2_itP (walk_list (K := K) (a := E) (xs := dk.map V.str)) (fun k H' => ∃ bs ts, MV H8 H' M bs ts ∧ ts.length ≤ i2 * 100 + j2 * 10 + k ∧ (∀ t ∈ ts, t.1 ∈ seenOf rs z ∧ t.2.1 ∈ seenOf rs z ∧ t.1 ≠ t.2.1 ∧ t.2.2 ∈ dk) ∧ (∀ o ∈ (seenOf rs z).take i2, ∀ n ∈ seenOf rs z, o ≠ n → ∀ x ∈ dk, ((o, n, x) : Tri) ∈ ts) ∧ (∀ n ∈ (seenOf rs z).take j2, o ≠ n → ∀ x ∈ dk, ((o, n, x) : Tri) ∈ ts) ∧ ∀ x ∈ dk.take k, ((o, n, x) : Tri) ∈ ts) ⟨bs2, ts2, mv2, by omega, tg2, ta2, tb2, by simp⟩ (fun k H' _ ⟨_, _, m, _⟩ => SqL.of (m.same _ _ hE8)) ?_ ?_
              · rintro k2 v5 H13 H14 hk2 ⟨bs3, ts3, mv3, tl3, tg3, ta3, tb3, tc3⟩ ⟨rfl, hv5⟩
                obtain ⟨x, hx, rfl⟩ := map_at hv5
                have hi3 : i2 < 10 := by rw [List.length_map] at hi2; omega
                have hj3 : j2 < 10 := by rw [List.length_map] at hj2; omega
                have hk3 : k2 < 10 := by rw [List.length_map] at hk2; omega
                have big : i2 * 100 + j2 * 10 + k2 ≤ 999 := by omega
                refine ⟨rfl, ?_⟩
                refine ⟨_, rfl, _, rfl, _, rfl, by show 3 ≤ sizeLine; decide, fun c hc => ?_⟩
                have nc : M ≠ c := ne_of_none mv3.lst hc
                refine ⟨_, by rw [upd_ne nc]; exact mv3.lst, by rw [List.length_map, mv3.len]; exact small1000 (by omega), bs3 ++ [c], ts3 ++ [(o, n, x)], mv3.push (t := (o, n, x)) hc, by rw [List.length_append, List.length_singleton]; omega, fun t ht => ?_, fun a ha b hb ne y hy => List.mem_append_left _ (ta3 a ha b hb ne y hy), fun b hb ne y hy => List.mem_append_left _ (tb3 b hb ne y hy), fun y hy => ?_⟩
                · rw [List.mem_append, List.mem_singleton] at ht
                  rcases ht with ht | ht
                  · exact tg3 t ht
                  · rw [ht]; exact ⟨List.mem_of_getElem? ho, List.mem_of_getElem? hn, e, List.mem_of_getElem? hx⟩
                · rw [take_plusP hx, List.mem_append, List.mem_singleton] at hy
                  rcases hy with hy | hy
                  · exact List.mem_append_left _ (tc3 y hy)
                  · rw [hy]; exact List.mem_append_right _ (List.mem_singleton.mpr rfl)
              · rintro H13 ⟨bs3, ts3, mv3, tl3, tg3, ta3, tb3, tc3⟩
                rw [List.length_map] at tl3 tc3
                rw [List.take_length] at tc3
                refine ⟨bs3, ts3, mv3, by omega, tg3, ta3, fun u hu ne => ?_⟩
                rw [take_plusP hn, List.mem_append, List.mem_singleton] at hu
                rcases hu with h | h
                · exact tb3 u h ne
                · rw [h]; exact tc3
          · rintro H11 ⟨bs2, ts2, mv2, tl2, tg2, ta2, tb2⟩
            rw [List.length_map] at tl2 tb2
            rw [List.take_length] at tb2
            refine ⟨bs2, ts2, mv2, by omega, tg2, fun u hu => ?_⟩
            rw [take_plusP ho, List.mem_append, List.mem_singleton] at hu
            rcases hu with h | h
            · exact ta2 u h
            · rw [h]; exact tb2
        · rintro H9 ⟨bs, ts, mv, tl, tg, ta⟩
          rw [List.length_map, List.take_length] at ta
          have w9 := w8.of mv.same
          have hM9 := mv.lst
          have htr := mv.tris
          clear mv w8 hM hE8 hsa8
          refine ⟨_, rfl, M, rfl, ⟨_, SqL.of hM9⟩, for_it (walk_list (K := K) (a := M) (xs := bs.map V.ref)) (fun j σ H' => ∃ (x8 x9 x10 : Option V) (adj' : AdjP), σ = [some (.ref t), some (.ref D), none, none, some (.str z), some (.ref sa), some (.ref E), some (.ref M), x8, x9, x10, none] ∧ KeepN H9 H' ∧ WS ls rs H H' D ps ad adj' ∧ (∀ r s, s ∈ adjK adj r → s ∈ adjK adj' r) ∧ ∀ t ∈ ts.take j, (t.2.1, t.2.2) ∈ adjK adj' (t.1, t.2.2) ∧ (t.2.2, t.2.1) ∈ adjK adj' (t.2.2, t.1)) ⟨_, _, _, adj, rfl, KeepN.refl _, w9, fun _ _ m => m, by simp⟩ (fun j σ H' _ ⟨_, _, _, _, _, kn, _⟩ => SqL.of (kn _ _ (fun k e => by cases e) hM9)) ?_ ?_⟩
          · rintro j v6 σ H10 H11 hj ⟨y8, y9, y10, adj1, rfl, keep, w10, mono, done10⟩ ⟨rfl, hv6⟩
            obtain ⟨b, hb, rfl⟩ := map_at hv6
            obtain ⟨t3, ht3, hbt⟩ := htr.at hb
            have hbt10 := keep _ _ (fun k e => by unfold triO at e; cases e) hbt
            obtain ⟨s1, s2⟩ := good t3 (tg t3 (List.mem_of_getElem? ht3))
            refine ⟨b, _, rfl, SqT.of hbt10, rfl, _, _, rfl, _, _, rfl, _, _, rfl, rfl, ?_⟩
            refine ⟨_, rfl, _, rfl, _, rfl, by show 2 ≤ sizeLine; decide, fun b1 hb1 => ?_⟩
            have u1 := Same.upd_new hb1 (o := .tup [.str t3.1, .str t3.2.2])
            have w11 := w10.of u1
            have hb11 : upd H11 b1 (.tup [.str t3.1, .str t3.2.2]) b1 = some (pairO (t3.1, t3.2.2)) := upd_same
            generalize upd H11 b1 (.tup [.str t3.1, .str t3.2.2]) = H12 at *
            obtain ⟨kv11, e1, e2, e3⟩ := w11.ex
            refine ⟨D, .ref (ad (t3.1, t3.2.2)), rfl, .inr ⟨kv11, kp (t3.1, t3.2.2), b1, .inl e1, rfl, hb11, (e3 _ (mem _ (step_pair s1).1)).symm⟩, ?_⟩
            refine ⟨.inr (.inr (.inl ⟨rfl, .inr ⟨_, w11.sub _ (mem _ (step_pair s1).1)⟩⟩)), ?_⟩
            refine ⟨_, rfl, _, rfl, by show 2 ≤ sizeLine; decide, fun b2 hb2 => ⟨_, rfl, ?_⟩⟩
            have u2 := Same.upd_new hb2 (o := .tup [.str t3.2.1, .str t3.2.2])
            refine (w11.of u2).run pfew mem hzm s1 upd_same fun H13 adj2 kn1 w13 in1 mono1 => ?_
            have keep13 := ((keep.trans (KeepN.same u1)).trans (KeepN.same u2)).trans kn1
            clear kn1 u2 hb2 w11 hb11 e1 e2 e3 u1 hb1
            refine ⟨_, rfl, _, rfl, _, rfl, by show 2 ≤ sizeLine; decide, fun b3 hb3 => ?_⟩
            have u3 := Same.upd_new hb3 (o := .tup [.str t3.2.2, .str t3.1])
            have w14 := w13.of u3
            have hb14 : upd H13 b3 (.tup [.str t3.2.2, .str t3.1]) b3 = some (pairO (t3.2.2, t3.1)) := upd_same
            generalize upd H13 b3 (.tup [.str t3.2.2, .str t3.1]) = H14 at *
            obtain ⟨kv14, e1, e2, e3⟩ := w14.ex
            refine ⟨D, .ref (ad (t3.2.2, t3.1)), rfl, .inr ⟨kv14, kp (t3.2.2, t3.1), b3, .inl e1, rfl, hb14, (e3 _ (mem _ (step_pair s2).1)).symm⟩, ?_⟩
            refine ⟨.inr (.inr (.inl ⟨rfl, .inr ⟨_, w14.sub _ (mem _ (step_pair s2).1)⟩⟩)), ?_⟩
            refine ⟨_, rfl, _, rfl, by show 2 ≤ sizeLine; decide, fun b4 hb4 => ⟨_, rfl, ?_⟩⟩
            have u4 := Same.upd_new hb4 (o := .tup [.str t3.2.2, .str t3.2.1])
            refine (w14.of u4).run pfew mem hzm s2 upd_same fun H15 adj3 kn3 w15 in3 mono3 => ?_
            refine ⟨_, _, _, adj3, rfl, ((keep13.trans (KeepN.same u3)).trans (KeepN.same u4)).trans kn3, w15, fun r s m => mono3 _ _ (mono1 _ _ (mono _ _ m)), fun t ht => ?_⟩
            rw [take_plusP ht3, List.mem_append, List.mem_singleton] at ht
            rcases ht with ht | ht
            · exact ⟨mono3 _ _ (mono1 _ _ (done10 t ht).1), mono3 _ _ (mono1 _ _ (done10 t ht).2)⟩
            · rw [ht]; exact ⟨mono3 _ _ in1, in3⟩
          · rintro σ H10 ⟨y8, y9, y10, adj1, rfl, keep, w10, mono, done10⟩
            rw [List.length_map, show bs.length = ts.length from Paired.length htr, List.take_length] at done10
            refine ⟨_, _, _, _, _, _, _, adj1, rfl, w10, fun z' hz' p q st => ?_⟩
            rw [take_plusP hz, List.mem_append, List.mem_singleton] at hz'
            rcases hz' with h | h
            · exact mono _ _ (done z' h p q st)
            · rw [h] at st
              rcases st with ⟨e, ne, h1, h2, h3, h4⟩ | ⟨e, ne, h1, h2, h3, h4⟩
              · have := (done10 (p.1, q.1, p.2) (ta p.1 h1 q.1 h2 ne p.2 ((dkm _).mpr ⟨h3, h4⟩))).1
                rw [show q = (q.1, p.2) from Prod.ext rfl e.symm]
                exact this
              · have := (done10 (p.2, q.2, p.1) (ta p.2 h1 q.2 h2 ne p.1 ((dkm _).mpr ⟨h3, h4⟩))).2
                rw [show q = (p.1, q.2) from Prod.ext e.symm rfl]
                exact this
      · rintro σ H5 ⟨x4, x5, x6, x7, x8, x9, x10, adj, rfl, w5, done⟩
        rw [List.length_map, List.take_length] at done
        obtain ⟨kv5, e1, e2, e3⟩ := w5.ex
        refine ⟨_, rfl, D :: ps.map ad, fun a ha => ?_, fun H6 fz other => ?_⟩
        · rcases List.mem_cons.mp ha with rfl | ha
          · exact ⟨_, e1⟩
          · obtain ⟨p, hp', rfl⟩ := List.mem_map.mp ha
            exact ⟨_, w5.sub p hp'⟩
        obtain ⟨oD, eD⟩ := fz D (List.mem_cons_self ..) _ e1
        refine k H6 D ps adj (fun b o e => ?_) ⟨oD, kv5, eD, e2, fun p hp' => ?_⟩ ⟨w5.nd, pfew, fun p => ⟨w5.mem p, mem p⟩, w5.akd, w5.step, fun p _ z hz q st => done z hz p q st⟩
        · rw [other b fun m => ?_]
          · exact w5.same _ _ e
          · rcases List.mem_cons.mp m with h | h
            · rw [h, w5.fl] at e; cases e
            · obtain ⟨p, hp', h⟩ := List.mem_map.mp h
              rw [← h, w5.fa p hp'] at e
              cases e
        · obtain ⟨oa, ea⟩ := fz (ad p) (List.mem_cons_of_mem _ (List.mem_map_of_mem hp')) _ (w5.sub p hp')
          exact ⟨ad p, oa, e3 p hp', ea⟩
end
end Dl

/-! the pairs that can be reached: my own -/
namespace Dl
open PySem PySem.Spec PyProof.Rows L2
inductive WayP (adj : Pr → List Pr) (a : Pr) : Pr → Prop where
  | start : WayP adj a a
  | next {s z : Pr} (w : WayP adj a s) (h : z ∈ adj s) : WayP adj a z
theorem reachP_sound {adj : Pr → List Pr} {en : Option Pr} {a : Pr} : ∀ (n : Nat) (o : OrigP) (ls : List Pr), (∀ y ∈ o.map (·.1), WayP adj a y) → (∀ y ∈ ls, WayP adj a y) → ∀ z ∈ (reachP adj en n o ls).map (·.1), WayP adj a z
  | 0, _, _, h, _, z, hz => h z hz
  | n + 1, o, ls, h, hl, z, hz => by
    have hz : z ∈ (if ls = [] ∨ _ then o else _ : OrigP).map (·.1) := hz
    by_cases c : ls = [] ∨ ∃ z, en = some z ∧ z ∈ o.map (·.1)
    · rw [if_pos c] at hz
      exact h z hz
    · rw [if_neg c] at hz
      have fw : ∀ y ∈ (fAllP adj o ls []).map (·.1), WayP adj a y := fun y hy => by
        rcases mem_fAllP.mp hy with q | ⟨⟨s, hs, q⟩, _⟩
        · exact absurd q (by simp)
        · exact (hl s hs).next q
      refine reachP_sound n _ _ (fun y hy => ?_) fw z hz
      rw [List.map_append] at hy
      exact (List.mem_append.mp hy).elim (h y) (fw y)
theorem reachP_full {adj : Pr → List Pr} {names : List Pr} (cl : ∀ s ∈ names, ∀ z ∈ adj s, z ∈ names) : ∀ (n : Nat) (o : OrigP) (ls : List Pr), (o.map (·.1)).Nodup → (∀ z ∈ o.map (·.1), z ∈ names) → (∀ z ∈ ls, z ∈ names) → (ls = [] ∨ names.length + 2 ≤ n + o.length) →
    (∀ y ∈ o.map (·.1), y ∉ ls → ∀ z ∈ adj y, z ∈ o.map (·.1)) → (∀ y ∈ o.map (·.1), y ∈ (reachP adj none n o ls).map (·.1)) ∧ ∀ y ∈ (reachP adj none n o ls).map (·.1), ∀ z ∈ adj y, z ∈ (reachP adj none n o ls).map (·.1)
  | 0, o, ls, nd, sub, lsub, meas, done => by
    have few := List.Nodup.length_le_of_subset nd sub
    rw [List.length_map] at few
    rcases meas with rfl | meas
    · exact ⟨fun y hy => hy, fun y hy z hz => done y hy (by simp) z hz⟩
    · omega
  | n + 1, o, ls, nd, sub, lsub, meas, done => by
    show (∀ y ∈ o.map (·.1), y ∈ (if ls = [] ∨ _ then o else _ : OrigP).map (·.1)) ∧ ∀ y ∈ (if ls = [] ∨ _ then o else _ : OrigP).map (·.1), ∀ z ∈ adj y, z ∈ (if ls = [] ∨ _ then o else _ : OrigP).map (·.1)
    by_cases e : ls = []
    · rw [if_pos (.inl e)]
      exact ⟨fun y hy => hy, fun y hy z hz => done y hy (by rw [e]; simp) z hz⟩
    · rw [if_neg (fun q => q.elim e fun ⟨z, q, _⟩ => by cases q)]
      have meas := meas.resolve_left e
      have fnd : ((fAllP adj o ls []).map (·.1)).Nodup := nodup_fAllP (by simp)
      have fmem : ∀ z ∈ (fAllP adj o ls []).map (·.1), z ∈ names ∧ z ∉ o.map (·.1) := fun z hz => by
        rcases mem_fAllP.mp hz with h | ⟨⟨s, hs, h⟩, m⟩
        · exact absurd h (by simp)
        · exact ⟨cl s (lsub s hs) z h, m⟩
      have nd2 : ((o ++ fAllP adj o ls []).map (·.1)).Nodup := by
        rw [List.map_append]
        exact List.nodup_append.mpr ⟨nd, fnd, fun a ha b hb q => (fmem b hb).2 (by rw [← q]; exact ha)⟩
      have sub2 : ∀ z ∈ (o ++ fAllP adj o ls []).map (·.1), z ∈ names := fun z hz => by
        rw [List.map_append] at hz
        exact (List.mem_append.mp hz).elim (sub z) fun h => (fmem z h).1
      have meas2 : (fAllP adj o ls []).map (·.1) = [] ∨ names.length + 2 ≤ n + (o ++ fAllP adj o ls []).length := by
        rw [List.length_append]
        cases q : fAllP adj o ls [] with
        | nil => exact .inl rfl
        | cons c r => exact .inr (by rw [List.length_cons]; omega)
      obtain ⟨h1, h2⟩ := reachP_full cl n (o ++ fAllP adj o ls []) ((fAllP adj o ls []).map (·.1)) nd2 sub2 (fun z hz => (fmem z hz).1) meas2 (fun y hy ny z hz => by
        rw [List.map_append, List.mem_append] at hy ⊢
        have hy := hy.resolve_right ny
        by_cases yl : y ∈ ls
        · by_cases zo : z ∈ o.map (·.1)
          · exact .inl zo
          · exact .inr (mem_fAllP.mpr (.inr ⟨⟨y, yl, hz⟩, zo⟩))
        · exact .inl (done y hy yl z hz))
      exact ⟨fun y hy => h1 y (by rw [List.map_append]; exact List.mem_append_left _ hy), h2⟩
/-- reached's keys: the names that can be reached -/
theorem reachP_iff {adj : Pr → List Pr} {names : List Pr} (cl : ∀ s ∈ names, ∀ z ∈ adj s, z ∈ names) {a : Pr} (ha : a ∈ names) (z : Pr) : z ∈ (reachP adj none (names.length + 1) [(a, none)] [a]).map (·.1) ↔ WayP adj a z := by
  constructor
  · refine reachP_sound _ _ _ (fun y hy => ?_) (fun y hy => ?_) z
    · rw [show y = a by simpa using hy]; exact .start
    · rw [show y = a by simpa using hy]; exact .start
  · intro w
    obtain ⟨h1, h2⟩ := reachP_full cl (names.length + 1) [(a, none)] [a] (by simp) (fun y hy => by rw [show y = a by simpa using hy]; exact ha) (fun y hy => by rw [show y = a by simpa using hy]; exact ha) (.inr (by simp)) (fun y hy ny => absurd (by simpa using hy) (by simpa using ny))
    induction w with
    | start => exact h1 a (by simp)
    | next _ h ih => exact h2 _ ih _ h
theorem reachP_nodup {adj : Pr → List Pr} {en : Option Pr} : ∀ (n : Nat) (o : OrigP) (ls : List Pr), (o.map (·.1)).Nodup → ((reachP adj en n o ls).map (·.1)).Nodup
  | 0, _, _, h => h
  | n + 1, o, ls, h => by
    show ((if ls = [] ∨ _ then o else _ : OrigP).map (·.1)).Nodup
    by_cases c : ls = [] ∨ ∃ z, en = some z ∧ z ∈ o.map (·.1)
    · rw [if_pos c]; exact h
    · rw [if_neg c]
      refine reachP_nodup n _ _ ?_
      rw [List.map_append]
      refine List.nodup_append.mpr ⟨h, nodup_fAllP (by simp), fun a ha b hb e => ?_⟩
      rcases mem_fAllP.mp hb with q | ⟨_, q⟩
      · exact absurd q (by simp)
      · exact q (by rw [← e]; exact ha)
/-- the steps of a table, one behind the other -/
inductive WayL (ls : List Str) (rs : List (Str × List Str)) (a : Pr) : Pr → Prop where
  | start : WayL ls rs a a
  | next {s q : Pr} {z : Str} (w : WayL ls rs a s) (hz : z ∈ ls) (h : StepBy rs z s q) : WayL ls rs a q
section
variable {ls : List Str} {rs : List (Str × List Str)}
theorem WayL.trans {a b c : Pr} (h : WayL ls rs a b) (g : WayL ls rs b c) : WayL ls rs a c := by
  induction g with
  | start => exact h
  | next _ hz st ih => exact ih.next hz st
theorem WayL.symm {a b : Pr} (h : WayL ls rs a b) : WayL ls rs b a := by
  induction h with
  | start => exact .start
  | next _ hz st ih => exact (WayL.start.next hz (step_sym st)).trans ih
theorem WayL.rev {a b : Pr} (h : WayL ls rs a b) : WayL ls rs (rev2 a) (rev2 b) := by
  induction h with
  | start => exact .start
  | next _ hz st ih => exact ih.next hz (step_rev st)
theorem rev2_rev2 (p : Pr) : rev2 (rev2 p) = p := rfl
theorem WayL.rev_iff {a b : Pr} : WayL ls rs (rev2 a) b ↔ WayL ls rs a (rev2 b) := ⟨fun h => h.rev, fun h => h.rev⟩
theorem WayL.pair {a b : Pr} (h : WayL ls rs a b) (ha : PairOf rs a) : PairOf rs b := by
  induction h with
  | start => exact ha
  | next _ _ st _ => exact (step_pair st).2
theorem GoodL.closed {ps : List Pr} {adj : AdjP} (g : GoodL ls rs ps adj) : ∀ s ∈ ps, ∀ z ∈ adjK adj s, z ∈ ps := fun s hs z hz => by
  obtain ⟨e, he, rfl⟩ := List.mem_map.mp hz
  exact (g.mem _).mpr (step_pair (g.step s hs e he).2).2
theorem GoodL.way {ps : List Pr} {adj : AdjP} (g : GoodL ls rs ps adj) {a b : Pr} (ha : a ∈ ps) : WayP (adjK adj) a b ↔ WayL ls rs a b := by
  constructor
  · intro h
    have both : WayL ls rs a b ∧ b ∈ ps := by
      induction h with
      | start => exact ⟨.start, ha⟩
      | next _ hm ih =>
        obtain ⟨w, hs⟩ := ih
        obtain ⟨e, he, rfl⟩ := List.mem_map.mp hm
        have st := g.step _ hs e he
        exact ⟨w.next st.1 st.2, (g.mem _).mpr (step_pair st.2).2⟩
    exact both.1
  · intro h
    have both : WayP (adjK adj) a b ∧ b ∈ ps := by
      induction h with
      | start => exact ⟨.start, ha⟩
      | next _ hz st ih => exact ⟨ih.1.next (g.all _ ih.2 _ hz _ st), (g.mem _).mpr (step_pair st).2⟩
    exact both.1
end
theorem sq_pairs {ks : List Str} {ps : List Pr} (nd : ps.Nodup) (h : ∀ p ∈ ps, p.1 ∈ ks ∧ p.2 ∈ ks) : ps.length ≤ ks.length * ks.length := by
  have len : ∀ as : List Str, (as.flatMap fun a => ks.map fun b => ((a, b) : Pr)).length = as.length * ks.length := by
    intro as
    induction as with
    | nil => simp
    | cons a r ih => rw [List.flatMap_cons, List.length_append, ih, List.length_map, List.length_cons, Nat.succ_mul]; omega
  have a := List.Nodup.length_le_of_subset nd fun p hp => (List.mem_flatMap.mpr ⟨p.1, (h p hp).1, List.mem_map.mpr ⟨p.2, (h p hp).2, rfl⟩⟩ : p ∈ (ks.flatMap fun a => ks.map fun b => ((a, b) : Pr)))
  rw [len] at a
  exact a
def pk (p : Pr) : List Str := [p.1, p.2]
theorem pk_key (ps : List Pr) : ps.map kp = (ps.map pk).map txKey := by rw [List.map_map]; rfl
theorem pk_inj {p q : Pr} (e : pk p = pk q) : p = q := by
  unfold pk at e
  injection e with e1 e2
  injection e2 with e2 _
  exact Prod.ext e1 e2
end Dl

/-! tied: its contract -/
namespace Dl
open PySem PySem.Spec PyProof.Rows L2
/-- a list of pairs as the law sees it: the pairs that can be reached from p, sorted -/
structure TiedAt (H : Hp) (r : Addr) (ls : List Str) (rs : List (Str × List Str)) (p : Pr) : Prop where
  ex : ∃ (L : Keyed) (ks : List Pr), H r = some (.lst (L.map fun q => V.ref q.1)) ∧ (∀ q ∈ L, H q.1 = some (.tup (q.2.map V.str))) ∧ L.map (·.2) = sortK (ks.map pk) ∧ ks.Nodup ∧ ∀ s, s ∈ ks ↔ WayL ls rs p s
def spTied (CT CI : Addr) (C : Cs) : Sp := fun vs H Q E => ∃ (t q : Addr) (v u : V) (ls : List Str) (rs : List (Str × List Str)), vs = [.ref t, .ref q] ∧ TableAt CT H t ls rs ∧ TabOk ls rs ∧ rs.length ≤ 7 ∧ H q = some (.tup [v, u]) ∧ NmOk H v ∧ NmOk H u ∧
  (∀ p, PairOf rs p → v = .str p.1 → u = .str p.2 → ∀ H' r, Same H H' → H r = none → TiedAt H' r ls rs p → Q (.ref r) H') ∧ (∀ e, ([v, u].find? fun e => !knows e (keysOf rs)) = some e → Out1 C.unk "name" e H E) ∧ (∀ x ∈ keysOf rs, v = .str x → u = .str x → OutN CI v u H E)
section
variable {P : Program} {w : World} {K : PySem.W.Frag} {mg : Str → Option Value} {base : Heap} {C : Cs} {CT CI : Addr}
theorem scTied : FnScope ["table", "pair"] ["table", "pair"] (defScope sTied) := ⟨rfl, rfl, rfl, by decide +kernel, rfl, by decide +kernel, by decide +kernel⟩
theorem ok_tied {f : Addr} {fd : FuncData} (F : Fun K "tied" "tied" sTied f fd) (sor : mg "sorted" = none) (gC : Dfn P w K mg base (L2.CX P w) 6 "check_pair" ["table", "pair"] (spCheckPair CT CI C)) (gL : Dfn P w K mg base CX0 6 "_leads" ["table"] (spLeads CT)) (gR : Dfn P w K mg base CX0 1 "reached" ["leads", "start", "end"] spReachedP) : FnOk P w K mg base (L2.CX P w) 7 f fd ["table", "pair"] (spTied CT CI C) := by
  obtain ⟨fC, dC, mC, kC, bC, GC⟩ := gC
  obtain ⟨fL, dL, mL, kL, bL, GL⟩ := gL
  obtain ⟨fR, dR, mR, kR, bR, GR⟩ := gR
  refine F.okX scTied (fun vs H Q E h => ?_) (fun cdv A outer s H vs Q E hr h => ?_)
  · obtain ⟨t, q, v, u, ls, rs, rfl, _⟩ := h
    rfl
  · obtain ⟨t, q, v, u, ls, rs, rfl, hT, ok, few, hq, hv, hu, k, kx, ky⟩ := h
    have hr6 : Room 6 _ := hr
    have hr1 : Room 1 _ := hr6.mono (by decide)
    have r64 := Nat.lt_of_succ_lt (room65 hr)
    refine ⟨_, pss_cons (ps_expr (pe_call GC hr6 (by rfl) mC kC bC .nil (passes_call (takes_of rfl rfl rfl rfl) (fun _ _ _ _ h => h)) (pa_cons (pv 0) (pa_cons (pv 1) pa_nil))))
      (pss_one (ps_ret (pe_callB (cr_sortDT rfl r64) (by rfl) sor (by decide +kernel) (pa_cons (pe_call GR hr1 (by rfl) mR kR bR .nil pass0 (pa_cons (pe_call GL hr6 (by rfl) mL kL bL .nil pass0 (pa_cons (pv 0) pa_nil)) (pa_cons (pv 1) (pa_cons pe_non pa_nil)))) pa_nil)))), ?_⟩
    refine ⟨_, rfl, _, rfl, t, q, v, u, ls, rs, rfl, hT, ok, hq, hv, hu, fun x hx y hy ex ey ne => ?_, fun e he => kx e he, fun x hx e1 e2 => ky x hx e1 e2⟩
    subst ex ey
    have pr : PairOf rs (x, y) := ⟨hx, hy, ne⟩
    refine ⟨_, rfl, t, ls, rs, rfl, hT, ok, by omega, fun H1 l ps adj s1 lp g => ?_⟩
    have pin := (g.mem _).mpr pr
    refine ⟨_, rfl, l, q, .non, (x, y), none, ps, adj, rfl, lp, s1 _ _ hq, rfl, g.nd, g.few, pin, g.closed, fun H2 r kv s2 hr2 hkv hod => ?_⟩
    have ek := od_keys hod
    have nd := reachP_nodup (adj := adjK adj) (en := none) (ps.length + 1) [((x, y), none)] [(x, y)] (by simp)
    have iff := fun z => (reachP_iff g.closed pin z).trans (g.way pin)
    generalize (reachP (adjK adj) none (ps.length + 1) [((x, y), none)] [(x, y)]).map (·.1) = ks at *
    have cnt : ks.length ≤ 49 := by
      have a := sq_pairs (ks := keysOf rs) nd fun p hp => ⟨((iff p).mp hp |>.pair pr).1, ((iff p).mp hp |>.pair pr).2.1⟩
      have b : (keysOf rs).length ≤ 7 := by unfold keysOf; rw [List.length_map]; exact few
      have c : (keysOf rs).length * (keysOf rs).length ≤ 7 * 7 := Nat.mul_le_mul b b
      omega
    refine ⟨r, kv, ks.map pk, rfl, .inl hkv, by rw [ek]; exact pk_key ks, fun k hk => ?_, by rw [List.length_map]; omega, fun L p hL eL hp => ?_⟩
    · obtain ⟨z, _, rfl⟩ := List.mem_map.mp hk
      exact List.cons_ne_nil _ _
    · have s3 := Same.upd_new hp (o := .lst (L.map fun q => V.ref q.1))
      exact k (x, y) pr rfl rfl _ p ((s1.trans s2).trans s3) ((s1.trans s2).free hp) ⟨L, ks, upd_same, fun q hq => s3 _ _ (hL q hq), eL, nd, iff⟩
end
end Dl

/-! _law_pair, _law_next -/
namespace Dl
open PySem PySem.Spec PyProof.Rows L2
structure TxtP (mg : Str → Option Value) : Prop where
  len : mg "len" = none
  int : mg "int" = none
  range : mg "range" = none
theorem atI_atP {xs : List V} {j : Nat} {v : V} (h : xs[j]? = some v) : atI xs (j : Int) = some v := by
  unfold atI
  rw [ix_at (List.getElem?_eq_some_iff.mp h).1]
  exact h
theorem wrapP {a n : Int} (h0 : 0 ≤ a) (h1 : a < 2 * n) : a % n = if a < n then a else a - n := by
  by_cases h : a < n
  · rw [if_pos h, Int.emod_eq_of_lt h0 h]
  · rw [if_neg h]
    have e : a = (a - n) + n * 1 := by omega
    rw [e, Int.add_mul_emod_self_left, Int.emod_eq_of_lt (by omega) (by omega)]
    omega
def spLPair : Sp := fun vs H Q _ => ∃ (b c : Addr) (ks : List Str), vs = [.ref b, .ref c] ∧ BagIn H b ∧ c ≠ b ∧ H c = some (.lst (ks.map V.str)) ∧ ks.Nodup ∧ 2 ≤ ks.length ∧ ks.length ≤ 24 ∧
  ∀ H' q p, SameB b H H' → BagIn H' b → H q = none → H' q = some (pairO p) → p.1 ∈ ks → p.2 ∈ ks → p.1 ≠ p.2 → Q (.ref q) H'
section
variable {P : Program} {w : World} {K : PySem.W.Frag} {mg : Str → Option Value} {base : Heap}
theorem scLawPair : FnScope ["_law_bag_here", "_law_looks", "_law_first", "_law_second"] ["_law_bag_here", "_law_looks"] (defScope sLawPair) := ⟨rfl, rfl, rfl, by decide +kernel, rfl, by decide +kernel, by decide +kernel⟩
theorem ok_lpair {f : Addr} {fd : FuncData} (F : Fun K "_law_pair" "_law_pair" sLawPair f fd) (T : TxtP mg) (gT : Dfn P w K mg base CX0 1 "_law_take" ["_law_bag_here", "_law_size"] spTake) : FnOk P w K mg base CX0 2 f fd ["_law_bag_here", "_law_looks"] spLPair := by
  obtain ⟨fT, dT, mTake, kTake, bTake, GTake⟩ := gT
  refine F.ok scLawPair (fun vs H Q E h => ?_) (fun cdv A outer s H vs Q E hr h => ?_)
  · obtain ⟨b, c, ks, rfl, _⟩ := h
    rfl
  · obtain ⟨b, c, ks, rfl, ⟨L, hb, ok⟩, ncb, hc, nd, two, few, k⟩ := h
    have hr1 : Room 1 _ := hr
    refine ⟨_, (pss_cons (ps_set (i := 2) scLawPair.nd rfl (Or.inl rfl) (pe_call GTake hr1 (by rfl) mTake kTake bTake .nil pass0 (pa_cons (pv 0) (pa_cons (pe_callB call_len_seq (by rfl) T.len PySem.boot_len (pa_cons (pv 1) pa_nil)) pa_nil))))
        (pss_cons (ps_set (i := 3) scLawPair.nd rfl (Or.inl rfl) (pe_op op_mod (pe_callTy call_int1 (by rfl) T.int (by decide +kernel) (pa_cons (pe_op op_add (pe_op op_add (pv 2) pe_int) (pe_call GTake hr1 (by rfl) mTake kTake bTake .nil pass0 (pa_cons (pv 0) (pa_cons (pe_op op_sub (pe_callB call_len_seq (by rfl) T.len PySem.boot_len (pa_cons (pv 1) pa_nil)) pe_int) pa_nil)))) pa_nil)) (pe_callB call_len_seq (by rfl) T.len PySem.boot_len (pa_cons (pv 1) pa_nil))))
        (pss_one (ps_ret (pe_tup (pa_cons (pe_ix ix_list (pv 1) (pv 2) (fun _ _ => rfl)) (pa_cons (pe_ix ix_list (pv 1) (pv 3) (fun _ _ => rfl)) pa_nil))))))), ?_⟩
    have lz : ((ks.map V.str).length : Int) = (ks.length : Int) := by rw [List.length_map]
    refine ⟨_, rfl, _, rfl, c, _, rfl, .inl (SqL.of hc), b, L, _, rfl, hb, ok, by rw [lz]; omega, by rw [lz]; omega, fun L1 r ok1 r0 r1 => ?_⟩
    rw [lz] at r1
    have s1 : SameB b H (upd H b (.lst (L1.map V.int))) := draw_same
    have hb1 := upd_same (H := H) (a := b) (o := .lst (L1.map V.int))
    have hc1 := s1 _ _ ncb hc
    generalize upd H b (.lst (L1.map V.int)) = H1 at *
    refine ⟨_, rfl, _, _, rfl, rfl, ?_⟩
    refine ⟨_, rfl, _, rfl, c, _, rfl, .inl (SqL.of hc1), _, _, rfl, rfl, b, L1, _, rfl, hb1, ok1, by rw [lz]; omega, by rw [lz]; omega, fun L2 d ok2 d0 d1 => ?_⟩
    rw [lz] at d1
    have s2 := s1.trans (draw_same (L := L2))
    have hc2 := s2 _ _ ncb hc
    have hb2 : BagIn (upd H1 b (.lst (L2.map V.int))) b := .upd ok2
    have hbb : (upd H1 b (.lst (L2.map V.int))) b = some (.lst (L2.map V.int)) := upd_same
    generalize upd H1 b (.lst (L2.map V.int)) = H2 at *
    refine ⟨_, _, rfl, rfl, .inl ⟨_, rfl, ?_⟩⟩
    refine ⟨_, rfl, c, _, rfl, .inl (SqL.of hc2), _, _, rfl, rfl, by show (0 : Int) < _; rw [lz]; omega, ?_⟩
    rw [lz]
    have e := wrapP (a := r + 1 + d) (n := (ks.length : Int)) (by omega) (by omega)
    obtain ⟨i, rfl⟩ := Int.eq_ofNat_of_zero_le r0
    obtain ⟨j, hj⟩ : ∃ j : Nat, (↑i + 1 + d) % (ks.length : Int) = (j : Int) ∧ j < ks.length ∧ j ≠ i := by
      rw [e]
      by_cases h : (↑i + 1 + d) < (ks.length : Int)
      · rw [if_pos h]
        exact ⟨(↑i + 1 + d).toNat, by omega, by omega, by omega⟩
      · rw [if_neg h]
        exact ⟨(↑i + 1 + d - (ks.length : Int)).toNat, by omega, by omega, by omega⟩
    dsimp only
    rw [hj.1]
    have il : i < ks.length := by omega
    have gi : (ks.map V.str)[i]? = some (.str ks[i]) := by rw [List.getElem?_map, List.getElem?_eq_getElem il]; rfl
    have gj : (ks.map V.str)[j]? = some (.str (ks[j]'hj.2.1)) := by rw [List.getElem?_map, List.getElem?_eq_getElem hj.2.1]; rfl
    refine ⟨_, rfl, _, rfl, c, _, _, _, rfl, rfl, SqL.of hc2, atI_atP gi, _, rfl, _, rfl, c, _, _, _, rfl, rfl, SqL.of hc2, atI_atP gj, by show 2 ≤ sizeLine; decide, fun q hq => ?_⟩
    have nqb : q ≠ b := fun z => by rw [z, hbb] at hq; cases hq
    exact k _ q (ks[i], ks[j]'hj.2.1) (s2.trans (SameB.of (Same.upd_new hq))) (hb2.of (Same.upd_new hq)) (s2.free nqb hq) upd_same (List.getElem_mem ..) (List.getElem_mem ..) fun z => hj.2.2 ((List.getElem_inj nd).mp z).symm
end
end Dl

/-! lists of pairs of names as data; the list that tied gives, by its pairs -/
namespace Dl
open PySem PySem.Spec PyProof.Rows L2
structure GoodT (k : List Str) : Prop where
  ex : ∃ a b, k = [a, b] ∧ canS a ∧ canS b
def GoodTs (ks : List (List Str)) : Prop := ∀ k ∈ ks, GoodT k
theorem txP_eqv (k l : List Str) : PyData.eqv (txData k) (txData l) = decide (k = l) := by
  unfold txData
  rw [PyData.eqv, eqvAll_strs]
theorem txP_any (ks : List (List Str)) (k : List Str) : (ks.map txData).any (fun z => PyData.eqv z (txData k)) = decide (k ∈ ks) := by
  rw [List.any_map]
  induction ks with
  | nil => simp
  | cons a r ih =>
    rw [List.any_cons, ih]
    show (PyData.eqv (txData a) (txData k) || decide (k ∈ r)) = _
    rw [txP_eqv]
    by_cases e : a = k
    · subst e; simp
    · have e2 : ¬ k = a := fun q => e q.symm
      simp [e, e2]
theorem txP_can {k : List Str} (g : GoodT k) : PyData.canLay0 (txData k) = true := by
  obtain ⟨b, a, rfl, c1, c2⟩ := g.ex
  unfold canS at c1 c2
  unfold txData
  simp only [PyData.canLay0] at c1 c2
  simp only [List.map_cons, List.map_nil, PyData.canLay0, PyData.canLayAll0, c1, c2, Bool.and_true]
theorem txP_dep (k : List Str) : (txData k).depth ≤ 1 := by
  unfold txData
  rw [PyData.depth, depthAll_strs]
  omega
theorem txP_canAll : ∀ {ks : List (List Str)}, GoodTs ks → PyData.canLayAll0 (ks.map txData) = true
  | [], _ => by simp [PyData.canLayAll0]
  | k :: r, g => by rw [List.map_cons, PyData.canLayAll0, txP_can (g k (List.mem_cons_self ..)), txP_canAll fun z hz => g z (List.mem_cons_of_mem _ hz)]; rfl
theorem txP_depAll : ∀ ks : List (List Str), PyData.depthAll (ks.map txData) ≤ 1
  | [] => by simp [PyData.depthAll]
  | k :: r => by rw [List.map_cons, PyData.depthAll]; have := txP_dep k; have := txP_depAll r; omega
theorem txP_shaped {k : List Str} (g : GoodT k) : SeqAt.shaped (txData k) = true := by
  unfold SeqAt.shaped
  rw [txP_can g, Bool.true_and]
  exact decide_eq_true (by have := txP_dep k; omega)
theorem txsP_shaped {ks : List (List Str)} (g : GoodTs ks) : SeqAt.shaped (.list (ks.map txData)) = true := by
  have d := txP_depAll ks
  unfold SeqAt.shaped
  rw [PyData.canLay0, txP_canAll g, Bool.true_and, PyData.depth]
  exact decide_eq_true (by omega)
theorem txP_dp {K : PySem.W.Frag} {H : Hp} {a : Addr} {k : List Str} (h : H a = some (.tup (k.map V.str))) : Dp K H (.ref a) (txData k) := .tup (SqT.of h) (dpAll_strs k)
theorem txsP_eqv (ks ls : List (List Str)) : PyData.eqv (.list (ks.map txData)) (.list (ls.map txData)) = decide (ks = ls) := by
  have all : ∀ ks ls : List (List Str), PyData.eqvAll (ks.map txData) (ls.map txData) = decide (ks = ls) := by
    intro ks
    induction ks with
    | nil => intro ls; cases ls <;> simp [PyData.eqvAll]
    | cons k r ih =>
      intro ls
      cases ls with
      | nil => simp [PyData.eqvAll]
      | cons l q =>
        rw [List.map_cons, List.map_cons, PyData.eqvAll, ih, txP_eqv]
        by_cases h1 : k = l <;> by_cases h2 : r = q <;> simp [h1, h2]
  rw [PyData.eqv, all]
/-- a sorted list of pairs, by its pairs -/
abbrev Lp := List (Addr × Pr)
def lpR (M : Lp) : List V := M.map fun e => V.ref e.1
def lpK (M : Lp) : List (List Str) := M.map fun e => pk e.2
structure LpAt (H : Hp) (r : Addr) (M : Lp) : Prop where
  lst : H r = some (.lst (lpR M))
  tup : ∀ e ∈ M, H e.1 = some (pairO e.2)
theorem LpAt.of {H H' : Hp} {r : Addr} {M : Lp} (h : LpAt H r M) (s : Same H H') : LpAt H' r M := ⟨s _ _ h.lst, fun e he => s _ _ (h.tup e he)⟩
theorem LpAt.ofB {H H' : Hp} {r b : Addr} {M : Lp} (h : LpAt H r M) (hb : ∃ xs, H b = some (.lst xs)) (n : r ≠ b) (s : SameB b H H') : LpAt H' r M :=
  ⟨s _ _ n h.lst, fun e he => s _ _ (by obtain ⟨xs, q⟩ := hb; exact ne_of (h.tup e he) q (by unfold pairO; intro z; cases z)) (h.tup e he)⟩
theorem lp_dp {K : PySem.W.Frag} {H : Hp} : ∀ {M : Lp}, (∀ e ∈ M, H e.1 = some (pairO e.2)) → DpAll K H (lpR M) ((lpK M).map txData)
  | [], _ => .nil
  | e :: r, h => .cons (txP_dp (k := pk e.2) (h e (List.mem_cons_self ..))) (lp_dp fun z hz => h z (List.mem_cons_of_mem _ hz))
theorem LpAt.dp {K : PySem.W.Frag} {H : Hp} {r : Addr} {M : Lp} (h : LpAt H r M) : Dp K H (.ref r) (.list ((lpK M).map txData)) := .lst (SqL.of h.lst) (lp_dp h.tup)
structure SortedOf (ls : List Str) (rs : List (Str × List Str)) (p : Pr) (Z : List (List Str)) : Prop where
  ex : ∃ ks : List Pr, Z = sortK (ks.map pk) ∧ ks.Nodup ∧ ∀ s, s ∈ ks ↔ WayL ls rs p s
section
variable {ls : List Str} {rs : List (Str × List Str)} {p : Pr}
theorem SortedOf.one {Z Y : List (List Str)} (h : SortedOf ls rs p Z) (g : SortedOf ls rs p Y) : Z = Y := by
  obtain ⟨ks, rfl, n1, m1⟩ := h.ex
  obtain ⟨js, rfl, n2, m2⟩ := g.ex
  exact sortK_perm (List.Perm.map pk ((List.perm_ext_iff_of_nodup n1 n2).mpr fun s => (m1 s).trans (m2 s).symm))
theorem SortedOf.move {q : Pr} {Z : List (List Str)} (w : WayL ls rs p q) (h : SortedOf ls rs q Z) : SortedOf ls rs p Z := by
  obtain ⟨ks, e, n, m⟩ := h.ex
  exact ⟨ks, e, n, fun s => (m s).trans ⟨fun x => w.trans x, fun x => w.symm.trans x⟩⟩
theorem sortK_isperm (ks : List (List Str)) : (sortK ks).Perm ks := List.mergeSort_perm _ _
theorem lp_of : ∀ {L : Keyed}, (∀ q ∈ L, ∃ s, q.2 = pk s) → ∃ M : Lp, L = M.map fun e => (e.1, pk e.2)
  | [], _ => ⟨[], rfl⟩
  | q :: r, h => by
    obtain ⟨s, e⟩ := h q (List.mem_cons_self ..)
    obtain ⟨M, eM⟩ := lp_of (L := r) fun z hz => h z (List.mem_cons_of_mem _ hz)
    exact ⟨(q.1, s) :: M, by rw [List.map_cons, ← eM, ← e]⟩
theorem TiedAt.lp {H : Hp} {r : Addr} (h : TiedAt H r ls rs p) : ∃ M : Lp, LpAt H r M ∧ SortedOf ls rs p (lpK M) ∧ ∀ s, s ∈ M.map (·.2) ↔ WayL ls rs p s := by
  obtain ⟨L, ks, h1, h2, h3, h4, h5⟩ := h.ex
  obtain ⟨M, rfl⟩ := lp_of (L := L) fun q hq => by
    have m : q.2 ∈ sortK (ks.map pk) := by rw [← h3]; exact List.mem_map_of_mem hq
    obtain ⟨s, _, e⟩ := List.mem_map.mp ((sortK_isperm _).mem_iff.mp m)
    exact ⟨s, e.symm⟩
  rw [List.map_map] at h1 h3
  have h3 : lpK M = sortK (ks.map pk) := h3
  refine ⟨M, ⟨h1, fun e he => h2 (e.1, pk e.2) (List.mem_map.mpr ⟨e, he, rfl⟩)⟩, ⟨ks, h3, h4, h5⟩, fun s => ?_⟩
  rw [← h5]
  have m : pk s ∈ lpK M ↔ pk s ∈ ks.map pk := by rw [h3]; exact (sortK_isperm _).mem_iff
  constructor
  · intro h
    obtain ⟨e, he, rfl⟩ := List.mem_map.mp h
    obtain ⟨y, hy, ey⟩ := List.mem_map.mp (m.mp (List.mem_map.mpr ⟨e, he, rfl⟩))
    rw [← pk_inj ey]; exact hy
  · intro h
    obtain ⟨e, he, ee⟩ := List.mem_map.mp (m.mpr (List.mem_map.mpr ⟨s, h, rfl⟩))
    exact List.mem_map.mpr ⟨e, he, pk_inj ee⟩
end
theorem prs_keyed {H : Hp} : ∀ {bs : List Addr} {ps : List Pr}, Prs H bs ps → ∃ M : Lp, M.map (·.1) = bs ∧ M.map (·.2) = ps ∧ ∀ e ∈ M, H e.1 = some (pairO e.2)
  | _, _, .nil => ⟨[], rfl, rfl, fun e he => by cases he⟩
  | b :: bs, p :: ps, .cons h t => by
    obtain ⟨M, m1, m2, m3⟩ := prs_keyed (bs := bs) (ps := ps) t
    refine ⟨(b, p) :: M, by rw [List.map_cons, m1], by rw [List.map_cons, m2], fun e he => ?_⟩
    rcases List.mem_cons.mp he with rfl | he
    · exact h
    · exact m3 e he
/-- the call of tied where nothing is wrong -/
theorem known2 {rs : List (Str × List Str)} {p : Pr} (h : PairOf rs p) : ([V.str p.1, V.str p.2].find? fun e => !knows e (keysOf rs)) = none := by
  have k1 : knows (.str p.1) (keysOf rs) = true := decide_eq_true h.1
  have k2 : knows (.str p.2) (keysOf rs) = true := decide_eq_true h.2.1
  rw [List.find?_cons_of_neg (by rw [k1]; decide), List.find?_cons_of_neg (by rw [k2]; decide)]
  rfl
theorem tied_ok {CT CI : Addr} {C : Cs} {H : Hp} {Q : VK} {E : XK} {x q : Addr} {p : Pr} {ls : List Str} {rs : List (Str × List Str)} (hT : TableAt CT H x ls rs) (ok : TabOk ls rs) (few : rs.length ≤ 7) (hq : H q = some (pairO p)) (pr : PairOf rs p)
    (k : ∀ H' r, Same H H' → H r = none → TiedAt H' r ls rs p → Q (.ref r) H') : spTied CT CI C [.ref x, .ref q] H Q E := by
  have nm : ∀ y ∈ keysOf rs, NmOk H (.str y) := fun y hy => by
    obtain ⟨r, hr, rfl⟩ := List.mem_map.mp hy
    exact validN_nm (ok.kval r hr)
  refine ⟨x, q, .str p.1, .str p.2, ls, rs, rfl, hT, ok, few, hq, nm _ pr.1, nm _ pr.2.1, fun p' _ e1 e2 H' r s nr ti => ?_, fun e he => ?_, fun y _ e1 e2 => ?_⟩
  · have e : p = p' := Prod.ext (V.str.inj e1) (V.str.inj e2)
    rw [← e] at ti
    exact k H' r s nr ti
  · rw [known2 pr] at he; cases he
  · exact absurd ((V.str.inj e1).trans (V.str.inj e2).symm) pr.2.2
theorem good_of {ls : List Str} {rs : List (Str × List Str)} (ok : TabOk ls rs) {s : Pr} (h : PairOf rs s) : GoodT (pk s) := by
  have c : ∀ y ∈ keysOf rs, canS y := fun y hy => by
    obtain ⟨r, hr, rfl⟩ := List.mem_map.mp hy
    exact valid_can (ok.kval r hr)
  exact ⟨s.1, s.2, rfl, c _ h.1, c _ h.2.1⟩
end Dl

/-! tuples that are known to have no dict of their own: displays, t + u, tuple(list) -/
namespace Dl
open PySem PySem.Spec PyProof.Rows L2
def TupF (H : Hp) (a : Addr) (xs : List V) : Prop := ∃ ob : Obj, ob.dict = none ∧ H a = some (.frz ob (.tup xs))
theorem TupF.of {H H' : Hp} {a : Addr} {xs : List V} (s : Same H H') (h : TupF H a xs) : TupF H' a xs := let ⟨ob, d, e⟩ := h; ⟨ob, d, s _ _ e⟩
/-- a tuple; where it isn't empty, it has no dict -/
def TupG (K : PySem.W.Frag) (H : Hp) (a : Addr) (xs : List V) : Prop := SqT K H a xs ∧ (xs ≠ [] → TupF H a xs)
theorem TupG.of {K : PySem.W.Frag} {H H' : Hp} {a : Addr} {xs : List V} (h : TupG K H a xs) (s : Same H H') : TupG K H' a xs := ⟨Same.tup s h.1, fun n => (h.2 n).of s⟩
theorem TupF.g {K : PySem.W.Frag} {H : Hp} {a : Addr} {xs : List V} (h : TupF H a xs) : TupG K H a xs := ⟨let ⟨ob, _, e⟩ := h; .inl (.inr ⟨ob, e⟩), fun _ => h⟩
def tTupF (t : TA) : TE := fun σ H Q => t σ H fun xs H1 => xs.length ≤ sizeLine ∧ ∀ (a : Addr) (ob : Obj), H1 a = none → ob.dict = none → Q (.ref a) (upd H1 a (.frz ob (.tup xs)))
section
variable {X : Cx}
theorem pe_tupF {es : List Expr} {cx : Nat} {pos : Pos} {t : TA} (args : PA X es t) : PE X (.Tuple es cx pos) (tTupF t) := by
  constructor
  intro pins s σ H Q I told
  apply wpAny_Tuple_spliced
  apply thn (args.run pos pins s σ H _ I told)
  rintro us s1 ⟨xs, H1, J, rel, size, goal⟩
  refine ⟨by rw [← rel.length]; exact size, ?_⟩
  have new : H1 s1.heap.objs.size = none := J.hok.fresh (Nat.le_refl _)
  have made : (s1.heap.push { cls := .type "tuple", data := .seq us.toArray }).get? s1.heap.objs.size = some { cls := .type "tuple", data := .seq us.toArray } := Heap.get?_push_size _ rfl
  exact ⟨.ref s1.heap.objs.size, _, J.laid (t' := s1.toks) (o := .frz { cls := .type "tuple", data := .seq us.toArray } (.tup xs)) (fun b u e => Heap.get?_push_of_some _ e) (Nat.le_refl _) ⟨made, size, us, rel, ⟨_, made, rfl, _, rfl⟩⟩, rfl, goal _ _ new rfl⟩
def rCatF (K : PySem.W.Frag) : R2 := fun x y H Q => ∃ a b xs ys, x = .ref a ∧ y = .ref b ∧ SqT K H a xs ∧ TupF H b ys ∧ ys ≠ [] ∧ xs.length + ys.length ≤ sizeLine ∧ ∀ H' p, Same H H' → TupF H' p (xs ++ ys) → Q (.ref p) H'
theorem op_catTF : OpR X (binaryOp .Add) (rCatF X.K) := by
  intro pins s σ H x y v u Q I rx ry told
  obtain ⟨a, b, xs, ys, rfl, rfl, ha, hb, some_, size, goal⟩ := told
  cases rx
  cases ry
  obtain ⟨its, r1, p1, _⟩ := I.tuple ha
  obtain ⟨jts, r2, p2, _⟩ := I.tuple (TupF.g (K := X.K) hb).1
  by_cases empty : xs = []
  · subst empty
    cases r1
    exact cat_tup0 p1 p2 ⟨.ref b, H, I, rfl, goal H b (Same.refl H) hb⟩
  · apply HT.cat_tup p1 p2 (fun z => empty (r1.nil_iff.mp z)) (fun z => absurd (r2.nil_iff.mp z) some_) (fun z => ?_) (by rw [← r1.length, ← r2.length]; exact size)
    have made : (s.heap.push { cls := .type "tuple", data := .seq (its ++ jts).toArray }).get? s.heap.objs.size = some { cls := .type "tuple", data := .seq (its ++ jts).toArray } := Heap.get?_push_size _ rfl
    have new : H s.heap.objs.size = none := I.hok.fresh (Nat.le_refl _)
    exact ⟨.ref s.heap.objs.size, _, I.laid (t' := s.toks) (o := .frz { cls := .type "tuple", data := .seq (its ++ jts).toArray } (.tup (xs ++ ys))) (fun b ob e => Heap.get?_push_of_some _ e) (Nat.le_refl _) ⟨made, by rw [List.length_append]; exact size, _, r1.append r2, ⟨_, made, rfl, _, rfl⟩⟩, rfl, goal _ _ (Same.upd_new new) ⟨_, rfl, upd_same⟩⟩
def rTupleF (K : PySem.W.Frag) : List V → Hp → VK → Prop := fun xs H Q => ∃ p ys, xs = [.ref p] ∧ SqL K H p ys ∧ ∀ (a : Addr) (ob : Obj), H a = none → ob.dict = none → Q (.ref a) (upd H a (.frz ob (.tup ys)))
theorem call_tupF : CallR X (.type "tuple") (rTupleF X.K) := by
  intro pins s σ H xs us Q I r told
  obtain ⟨p, ys, rfl, seq, goal⟩ := told
  obtain ⟨u, rfl, rel⟩ := vals1 r
  cases rel
  obtain ⟨its, rv, pl, size⟩ := I.list seq
  have len := rv.length
  apply call_tuple_list pl.isList (fun h' keep => ?_) (by simp only [List.size_toArray] <;> omega)
  have J : Inv X pins σ H { s with heap := h' } := I.kept (t' := s.toks) keep
  have made : (h'.push { cls := .type "tuple", data := .seq its.toArray }).get? h'.objs.size = some { cls := .type "tuple", data := .seq its.toArray } := Heap.get?_push_size _ rfl
  exact ⟨.ref h'.objs.size, _, J.laid (t' := s.toks) (o := .frz { cls := .type "tuple", data := .seq its.toArray } (.tup ys)) (fun b o e => Heap.get?_push_of_some _ e) (Nat.le_refl _) ⟨made, size, its, rv, ⟨_, made, rfl, _, rfl⟩⟩, rfl, goal _ _ (J.hok.fresh (Nat.le_refl _)) rfl⟩
def rIndexT (K : PySem.W.Frag) : V → List V → Hp → VK → Prop := fun x xs H Q => ∃ p, ∃ ys : List Str, ∃ z j, x = .ref p ∧ xs = [.str z] ∧ SqT K H p (ys.map V.str) ∧ ys[j]? = some z ∧ (∀ m, m < j → ys[m]? ≠ some z) ∧ Q (.int (j : Nat)) H
theorem mt_indexT : MtR X "tuple.index" (rIndexT X.K) := mt_tup_index
end
end Dl

/-! t.m(e, ..) of a tuple that is known to have no dict of its own: my own rule; the place of a text in a list of texts -/
namespace Dl
open PySem PySem.Spec PyProof.Rows L2
def tBMF (r : V → List V → Hp → VK → Prop) (to : TE) (t : TA) : TE := fun σ H Q => to σ H fun x H1 => (∃ p ys, x = .ref p ∧ TupF H1 p ys) ∧ t σ H1 fun xs H2 => r x xs H2 Q
section
variable {X : Cx} {o e : Expr} {es : List Expr} {to : TE} {t : TA} {name : Str} {apos cpos : Pos} {id : String} {r : V → List V → Hp → VK → Prop}
theorem pe_bmF (pa : PlainAttrs "tuple") (slot : Slot "tuple" name id) (md : typeOf (.builtin id) = pure (.type "method_descriptor")) (meth : MtR X id r) (ho : PE X o to) (ha : PA X (e :: es) t)
    (base : attributeBase o name X.env (eval o X.env) = eval o X.env := by rfl)
    (few : ((backTo cpos (starEach (e :: es) X.env)).all (fun x => !x.1) && (backToKw cpos (keywordEach [] X.env)).all (fun x => x.1.isSome) && decide ((e :: es).length + ([] : List Keyword).length + (if ([] : List Keyword).isEmpty then 0 else 1) < 30)) = true := by rfl)
    (line : (apos.endLine == cpos.line) = true := by rfl) (star : starEach (e :: es) X.env = (false, eval e X.env) :: starEach es X.env := by rfl) (plain : (backTo cpos (starEach es X.env)).any (·.1) = false := by rfl) :
    PE X (.Call (.Attribute o name apos) (e :: es) [] cpos) (tBMF r to t) := by
  constructor
  intro pins s σ H Q I h
  apply wpAny_Call_method_late base few line rfl
  apply thn (ho.run pins s σ H _ I h)
  rintro v s1 ⟨x, H1, I1, r1, ⟨p, ys, rfl, ob, hd, ep⟩, q1⟩
  obtain rfl : v = Value.ref p := r1
  obtain ⟨g, _, its, _, obj, ho2, hc, _⟩ := (show ObjOk X.prog X.w H1 s1.heap p (.frz ob (.tup ys)) from I1.hok p _ ep)
  refine ⟨"tuple", id, pa, slot, md, ⟨obj, ho2, hc⟩, fun a e2 => by cases e2; exact ⟨ob, g, hd⟩, ?_⟩
  have args := ha.run cpos pins s1 σ H1 _ I1 q1
  rw [star] at args ⊢
  apply Calls.callWith_builtin (by show (false || (backTo cpos (starEach es X.env)).any (·.1)) = false; rw [plain]; rfl)
  apply Calls.evalArgs_plain
  apply thn args
  rintro us s2 ⟨vs, H2, I2, r2, q2⟩
  exact meth pins s2 σ H2 (.ref p) vs (.ref p) us Q I2 rfl r2 q2
end
theorem idx_at : ∀ {ks : List Str} {z : Str}, z ∈ ks → ks[ks.idxOf z]? = some z ∧ ∀ m, m < ks.idxOf z → ks[m]? ≠ some z
  | [], _, h => absurd h (by simp)
  | k :: r, z, h => by
    by_cases q : k = z
    · subst q
      refine ⟨by simp, fun m hm => ?_⟩
      simp at hm
    · have hr : z ∈ r := by
        rcases List.mem_cons.mp h with e | e
        · exact absurd e.symm q
        · exact e
      obtain ⟨h1, h2⟩ := idx_at hr
      have e : (k :: r).idxOf z = r.idxOf z + 1 := by
        rw [List.idxOf_cons]
        have : (k == z) = false := by simpa using q
        rw [this]
        rfl
      rw [e]
      refine ⟨by rw [List.getElem?_cons_succ]; exact h1, fun m hm => ?_⟩
      cases m with
      | zero => rw [List.getElem?_cons_zero]; exact fun e => q (Option.some.inj e)
      | succ m => rw [List.getElem?_cons_succ]; exact h2 m (by omega)
end Dl

/-! m23: picked by tools/pick.py -/
namespace Dl
open PySem PySem.Spec PyProof.Rows L2
theorem Prs.rev {H : Hp} : ∀ {bs : List Addr} {ps : List Pr}, Prs H bs ps → Prs H bs.reverse ps.reverse
  | _, _, .nil => .nil
  | b :: bs, p :: ps, .cons h t => by
    rw [List.reverse_cons, List.reverse_cons]
    exact Paired.snoc (Prs.rev (bs := bs) (ps := ps) t) h
def k1 (k : List Str) : Str := k.getD 1 ""
theorem take_next {α : Type} {l : List α} {i : Nat} {x : α} (h : l[i]? = some x) : l.take (i + 1) = l.take i ++ [x] := by
  rw [List.take_succ, h]; rfl
def standB (ns : List Int) : Bool := decide (ns = []) || (ns.any fun a => ns.any fun b => (ns.all fun y => decide (y ≤ a)) && (ns.all fun y => decide (b ≤ y)) && decide (a - b = (ns.length : Int) - 1))
theorem stand_val {ns : List Int} {a b : Int} (ha : a ∈ ns) (hb : b ∈ ns) (ma : ∀ y ∈ ns, y ≤ a) (mb : ∀ y ∈ ns, b ≤ y) : standB ns = decide (a - b = (ns.length : Int) - 1) := by
  have ne : ns ≠ [] := fun e => by rw [e] at ha; cases ha
  unfold standB
  rw [decide_eq_false ne, Bool.false_or, Bool.eq_iff_iff, decide_eq_true_iff]
  constructor
  · intro h
    obtain ⟨a', ha', h⟩ := List.any_eq_true.mp h
    obtain ⟨b', hb', h⟩ := List.any_eq_true.mp h
    rw [Bool.and_eq_true, Bool.and_eq_true, List.all_eq_true, List.all_eq_true] at h
    obtain ⟨⟨h1, h2⟩, h3⟩ := h
    have e1 : a' = a := Int.le_antisymm (ma _ ha') (of_decide_eq_true (h1 a ha))
    have e2 : b' = b := Int.le_antisymm (of_decide_eq_true (h2 b hb)) (mb _ hb')
    rw [← e1, ← e2]
    exact of_decide_eq_true h3
  · intro h
    refine List.any_eq_true.mpr ⟨a, ha, List.any_eq_true.mpr ⟨b, hb, ?_⟩⟩
    rw [Bool.and_eq_true, Bool.and_eq_true, List.all_eq_true, List.all_eq_true]
    exact ⟨⟨fun y hy => decide_eq_true (ma y hy), fun y hy => decide_eq_true (mb y hy)⟩, decide_eq_true h⟩
structure TxtCo (mg : Str → Option Value) : Prop where
  len : mg "len" = none
  max : mg "max" = none
  min : mg "min" = none
  all : mg "all" = none
  sor : mg "sorted" = none
  enumerate : mg "enumerate" = none
/-- drawn rows, by their texts -/
structure RowsS (H : Hp) (R : Addr) (rs : List (Str × List Str)) : Prop where
  ex : ∃ rows : List RowIn, H R = some (.lst (refsOf rows)) ∧ (∀ r ∈ rows, RowG H r) ∧ rows.map (fun r => (r.look, r.xs)) = rs.map fun x => (V.str x.1, x.2.map V.str)
theorem RowsS.of {H H' : Hp} {R : Addr} {rs : List (Str × List Str)} (s : Same H H') (h : RowsS H R rs) : RowsS H' R rs := by
  obtain ⟨rows, h1, h2, h3⟩ := h.ex
  exact ⟨rows, s _ _ h1, fun r hr => (h2 r hr).of s, h3⟩
def spLSeen : Sp := fun vs H Q _ => ∃ R z rs, vs = [.ref R, .str z] ∧ RowsS H R rs ∧ rs.length ≤ 24 ∧ ∀ H' q, Same H H' → H q = none → H' q = some (.lst ((seenOf rs z).map V.str)) → Q (.ref q) H'
section
variable {P : Program} {w : World} {K : PySem.W.Frag} {mg : Str → Option Value} {base : Heap}
theorem scLawSeen : FnScope ["_law_rows", "_law_lamp", "_law_row"] ["_law_rows", "_law_lamp"] (defScope sLawSeen) := ⟨rfl, rfl, rfl, by decide +kernel, rfl, by decide +kernel, by decide +kernel⟩
theorem ok_lseen {f : Addr} {fd : FuncData} (F : Fun K "_law_seen" "_law_seen" sLawSeen f fd) : FnOk P w K mg base CX0 1 f fd ["_law_rows", "_law_lamp"] spLSeen := by
  refine F.ok scLawSeen (fun vs H Q E h => ?_) (fun cdv A outer s H vs Q E hr h => ?_)
  · obtain ⟨R, z, rs, rfl, _⟩ := h
    rfl
  · obtain ⟨R, z, rs, rfl, hR, few, k⟩ := h
    obtain ⟨rows, hl, hg, he⟩ := hR.ex
    refine ⟨_, (pss_one (ps_ret (pe_lc (own := [("_law_row", 2)]) (g := gName 2) rfl scLawSeen.nd (pi_list (pv 0)) (blkOk_by (N := ["_law_rows", "_law_lamp", "_law_row"]) (sc := defScope sLawSeen) (by decide +kernel)) (fun _ _ _ _ _ => (pg_name (i := 2) scLawSeen.nd rfl (Or.inl rfl))) (fun _ _ _ _ _ => (pts_one (pt_cmpR (by exact op_in_seq : OpR _ _ (rIn K false)) (pv 1) (pe_ix (by exact ix_tup : IxR _ (rIxT K)) (pv 2) pe_int (fun _ _ => rfl)) (by rfl)))) (fun _ _ _ _ _ => (pe_ix (by exact ix_tup : IxR _ (rIxT K)) (pv 2) pe_int (fun _ _ => rfl)))))), ?_⟩
    refine ⟨_, rfl, R, rfl, ⟨_, SqL.of hl⟩, fun D hD => lc_it (walk_list (K := K) (a := R) (xs := refsOf rows)) (fun i H' => Same H H' ∧ H' D = some (.lst ((seenOf (rs.take i) z).map V.str))) ⟨Same.upd_new hD, upd_same⟩ (fun i H' _ ⟨s, _⟩ => SqL.of (s _ _ hl)) ?_ ?_⟩
    · rintro i v H1 H2 hi ⟨s1, hD1⟩ ⟨rfl, hv⟩
      unfold refsOf at hv
      rw [List.getElem?_map] at hv
      obtain ⟨r, hr, rfl⟩ : ∃ r, rows[i]? = some r ∧ v = .ref r.t := by
        cases e : rows[i]? with
        | none => rw [e] at hv; cases hv
        | some q => rw [e] at hv; exact ⟨q, rfl, (Option.some.inj hv).symm⟩
      have g := (hg r (List.mem_of_getElem? hr)).of s1
      have q := congrArg (fun l => l[i]?) he
      have q : (rows.map fun r => (r.look, r.xs))[i]? = (rs.map fun x => (V.str x.1, x.2.map V.str))[i]? := q
      rw [List.getElem?_map, List.getElem?_map, hr] at q
      obtain ⟨x, hx, e1, e2⟩ : ∃ x, rs[i]? = some x ∧ r.look = .str x.1 ∧ r.xs = x.2.map V.str := by
        cases e : rs[i]? with
        | none => rw [e] at q; cases q
        | some y =>
          rw [e] at q
          have q := Option.some.inj q
          exact ⟨y, rfl, congrArg Prod.fst q, congrArg Prod.snd q⟩
      have gp := g.pair
      have gl := g.lst
      rw [e1] at gp
      rw [e2] at gl
      rw [seen_step hx]
      refine ⟨rfl, _, rfl, _, rfl, r.t, _, 1, _, rfl, rfl, SqT.of gp, rfl, r.s, _, rfl, .inl (SqL.of gl), rfl, flat_strs _, _, rfl, ?_⟩
      rw [inV_str]
      by_cases m : z ∈ x.2
      · refine iteY (decide_eq_true m) ⟨_, rfl, r.t, _, 0, _, rfl, rfl, SqT.of gp, rfl, _, hD1, ?_, fun c o e => ?_, ?_⟩
        · rw [List.length_map]
          have := seen_len (rs := rs) (z := z) (i := i)
          have hi' := (List.getElem?_eq_some_iff.mp hx).1
          exact small1000 (by omega)
        · rw [upd_ne (ne_of_none e hD)]
          exact s1 _ _ e
        · rw [upd_same, if_pos (decide_eq_true m), List.map_append]
          rfl
      · refine iteZ (decide_eq_false m) ⟨s1, ?_⟩
        rw [if_neg (by rw [decide_eq_false m]; decide), List.append_nil]
        exact hD1
    · rintro H1 ⟨s1, hD1⟩
      have le : (refsOf rows).length = rs.length := by
        have := congrArg List.length he
        rw [List.length_map, List.length_map] at this
        unfold refsOf
        rw [List.length_map]
        exact this
      rw [le, List.take_length] at hD1
      exact k H1 D s1 hD hD1
end
theorem seen_nmH : ¬ (("seen" : Str) = "lamps") ∧ ¬ (("seen" : Str) = "_shown") ∧ ¬ (("seen" : Str) = "looks") := by decide +kernel
theorem st_atH {L : List Str} {i : Nat} {v : V} (h : (L.map V.str)[i]? = some v) : ∃ q, L[i]? = some q ∧ q ∈ L ∧ v = .str q := by
  rw [List.getElem?_map] at h
  cases e : L[i]? with
  | none => rw [e] at h; cases h
  | some q => rw [e] at h; exact ⟨q, rfl, List.mem_of_getElem? e, (Option.some.inj h).symm⟩
theorem shapedH {zs : List Str} (h : ∀ z ∈ zs, canS z) : SeqAt.shaped (.list (zs.map PyData.str)) = true := by
  unfold SeqAt.shaped
  rw [Bool.and_eq_true, PyData.canLay0, PyData.depth, depthAll_strs]
  exact ⟨canAll_strs h, by decide⟩
theorem seen_key {rs : List (Str × List Str)} {z y : Str} (h : y ∈ seenOf rs z) : y ∈ rs.map (·.1) := by
  unfold seenOf at h
  obtain ⟨r, hr, rfl⟩ := List.mem_map.mp h
  exact List.mem_map_of_mem (List.mem_filter.mp hr).1
def placesOf (os : List Str) (zs : List Str) : List Int := zs.map fun z => ((os.idxOf z : Nat) : Int)
theorem canInts : ∀ ns : List Int, PyData.canLayAll0 (ns.map PyData.int) = true
  | [] => rfl
  | n :: r => by
    rw [List.map_cons, PyData.canLayAll0, canInts r, PyData.canLay0]
    rfl
theorem depInts : ∀ ns : List Int, PyData.depthAll (ns.map PyData.int) ≤ 1
  | [] => by simp [PyData.depthAll]
  | n :: r => by
    rw [List.map_cons, PyData.depthAll, PyData.depth]
    have := depInts r
    omega
theorem shapedInts (ns : List Int) : SeqAt.shaped (.list (ns.map PyData.int)) = true := by
  unfold SeqAt.shaped
  rw [Bool.and_eq_true, PyData.canLay0, PyData.depth]
  exact ⟨canInts ns, decide_eq_true (by have := depInts ns; omega)⟩
theorem dpInts (K : PySem.W.Frag) (H : Hp) : ∀ ns : List Int, DpAll K H (ns.map V.int) (ns.map PyData.int)
  | [] => .nil
  | n :: r => .cons (.int n) (dpInts K H r)
def fitsB (ls : List Str) (rs : List (Str × List Str)) (os : List Str) : Bool := ls.all fun z => standB (placesOf os (seenOf rs z))
def spFits (K : PySem.W.Frag) : Sp := fun vs H Q _ => ∃ l R o ls rs os, vs = [.ref l, .ref R, .ref o] ∧ H l = some (.lst (ls.map V.str)) ∧ RowsS H R rs ∧ rs.length ≤ 24 ∧ TupG K H o (os.map V.str) ∧ (∀ x ∈ rs, x.1 ∈ os) ∧ ∀ H', Same H H' → Q (.bl (fitsB ls rs os)) H'
section
variable {P : Program} {w : World} {K : PySem.W.Frag} {mg : Str → Option Value} {base : Heap}
theorem scLawFits : FnScope ["_law_lamps", "_law_rows", "_law_order", "_law_lamp", "_law_spots", "_law_look"] ["_law_lamps", "_law_rows", "_law_order"] (defScope sLawFitsOrder) := ⟨rfl, rfl, rfl, by decide +kernel, rfl, by decide +kernel, by decide +kernel⟩
theorem ok_fits {f : Addr} {fd : FuncData} (F : Fun K "_law_fits_order" "_law_fits_order" sLawFitsOrder f fd) (T : TxtCo mg) (gS : Dfn P w K mg base CX0 1 "_law_seen" ["_law_rows", "_law_lamp"] spLSeen) : FnOk P w K mg base CX0 2 f fd ["_law_lamps", "_law_rows", "_law_order"] (spFits K) := by
  obtain ⟨fS, dS, mSeen, kSeen, bSeen, GSeen⟩ := gS
  refine F.ok scLawFits (fun vs H Q E h => ?_) (fun cdv A outer s H vs Q E hr h => ?_)
  · obtain ⟨l, R, o, ls, rs, os, rfl, _⟩ := h
    rfl
  · obtain ⟨l, R, o, ls, rs, os, rfl, hl, hR, few, ho, kn, k⟩ := h
    have hr1 : Room 1 _ := hr
    refine ⟨_, (pss_cons (ps_for PassesOwn.never rfl (pi_list (pv 0)) (pg_name (i := 3) scLawFits.nd rfl (Or.inl rfl)) (pss_cons (ps_setLc (i := 4) (own := [("_law_look", 5)]) (g := gName 5) (tt := tYes) (te := tBMF (rIndexT K) (tVar 2) (tCons (tVar 5) tNil)) rfl scLawFits.nd rfl rfl (sw_true rfl rfl rfl (by decide +kernel)) (pi_list (pe_call GSeen hr1 (by rfl) mSeen kSeen bSeen .nil pass0 (pa_cons (pv 1) (pa_cons (pv 3) pa_nil)))) (blkOk_by (N := ["_law_lamps", "_law_rows", "_law_order", "_law_lamp", "_law_spots", "_law_look"]) (sc := defScope sLawFitsOrder) (by decide +kernel)) (fun _ _ _ _ _ => (pg_name (i := 5) scLawFits.nd rfl (Or.inl rfl))) (fun _ _ _ _ _ => pts_nil) (fun _ _ _ _ _ => (pe_bmF PySem.F.plainAttrs_tuple PySem.F.slot_tuple_index PySem.F.type_tuple_index (by exact mt_indexT : MtR _ _ (rIndexT K)) (pv 2) (pa_cons (pv 5) pa_nil))))
        (pss_one (ps_if (PW.pt (pw_and (pt_cmpR (op_neD hr.units) (pv 4) (pe_lst pa_nil) (nomark _)) (pw_and1 (pt_cmpR op_ne (pe_op op_add (pe_op op_sub (pe_callB (cr_max rfl) (by rfl) T.max (by decide +kernel) (pa_cons (pv 4) pa_nil)) (pe_callB (cr_min rfl) (by rfl) T.min (by decide +kernel) (pa_cons (pv 4) pa_nil))) pe_int) (pe_callB call_len_seq (by rfl) T.len PySem.boot_len (pa_cons (pv 4) pa_nil)) (nomark _))))) (pss_one (ps_ret pe_bl)) pss_nil))))
        (pss_one (ps_ret pe_bl))), ?_⟩
    refine ⟨_, rfl, l, rfl, ⟨_, SqL.of hl⟩, for_it (walk_list (K := K) (a := l) (xs := ls.map V.str)) (fun i σ H' => ∃ x3 x4, σ = [some (.ref l), some (.ref R), some (.ref o), x3, x4, none] ∧ Same H H' ∧ fitsB (ls.take i) rs os = true)
      ⟨_, _, rfl, Same.refl _, rfl⟩ (fun i σ H' _ ⟨_, _, _, s, _⟩ => SqL.of (s _ _ hl)) ?_ ?_⟩
    · rintro i v σ H1 H2 hi ⟨x3, x4, rfl, s1, kp⟩ ⟨rfl, hv⟩
      obtain ⟨z, hz, hzm, rfl⟩ := st_atH hv
      refine ⟨_, rfl, _, rfl, R, z, rs, rfl, hR.of s1, few, fun H3 q s3 nq hq => ?_⟩
      have s13 := s1.trans s3
      have sl := seen_len (rs := rs) (z := z) (i := rs.length)
      rw [List.take_length] at sl
      refine ⟨q, rfl, ⟨_, SqL.of hq⟩, fun D hD => lc_it (walk_list (K := K) (a := q) (xs := (seenOf rs z).map V.str)) (fun j H' => Same H3 H' ∧ H' D = some (.lst ((placesOf os ((seenOf rs z).take j)).map V.int))) ⟨Same.upd_new hD, upd_same⟩ (fun j H' _ ⟨s, _⟩ => SqL.of (s _ _ hq)) ?_ ?_⟩
      · rintro j y H4 H5 hj ⟨s4, hD4⟩ ⟨rfl, hy⟩
        obtain ⟨u, hu, hum, rfl⟩ := st_atH hy
        have ho5 := ho.of (s13.trans s4)
        have um : u ∈ os := by
          obtain ⟨x, hx, rfl⟩ := List.mem_map.mp (seen_key hum)
          exact kn x hx
        have hof := ho5.2 (fun e => by have := List.map_eq_nil_iff.mp e; rw [this] at um; cases um)
        have f0 := idx_at um
        refine ⟨rfl, _, rfl, ⟨_, _, rfl, hof⟩, _, rfl, o, os, u, os.idxOf u, rfl, rfl, ho5.1, f0.1, f0.2, _, hD4, ?_, fun c o' e => ?_, ?_⟩
        · unfold placesOf
          rw [List.length_map, List.length_map, List.length_take]
          exact small1000 (by omega)
        · rw [upd_ne (ne_of_none e hD)]
          exact s4 _ _ e
        · rw [upd_same, take_next hu]
          unfold placesOf
          rw [List.map_append, List.map_append]
          rfl
      · rintro H4 ⟨s4, hD4⟩
        rw [List.length_map, List.take_length] at hD4
        have step : ∀ b, standB (placesOf os (seenOf rs z)) = b → fitsB (ls.take (i + 1)) rs os = b := fun b e => by
          unfold fitsB at kp ⊢
          rw [take_next hz, List.all_append, kp, List.all_cons, e]
          cases b <;> rfl
        have bad : standB (placesOf os (seenOf rs z)) = false → fitsB ls rs os = false := fun e => by
          unfold fitsB
          rw [List.all_eq_false]
          exact ⟨z, hzm, by rw [e]; decide⟩
        have s14 := s13.trans s4
        generalize placesOf os (seenOf rs z) = ns at *
        refine ⟨_, rfl, Nat.zero_le _, fun e he => ?_⟩
        have s5 := Same.upd_new he (o := .lst ([] : List V))
        have hD5 := s5 _ _ hD4
        have he5 := upd_same (H := H4) (a := e) (o := .lst ([] : List V))
        generalize upd H4 e (.lst ([] : List V)) = H5 at *
        refine ⟨.list (ns.map PyData.int), .list [], .lst (SqL.of hD5) (dpInts K H5 ns), .lst (SqL.of he5) .nil, shapedInts ns, shapedInts [], _, rfl, ?_⟩
        cases ns with
        | nil => exact iteZ (by decide +kernel) ⟨_, _, rfl, s14.trans s5, step _ rfl⟩
        | cons n r =>
          refine iteY rfl ?_
          refine ⟨_, rfl, D, _, rfl, SqL.of hD5, Nat.succ_pos _, fun a ha ma => ⟨_, rfl, D, _, rfl, SqL.of hD5, Nat.succ_pos _, fun b hb mb => ?_⟩⟩
          have e := stand_val ha hb ma mb
          refine ⟨_, _, rfl, rfl, _, _, rfl, rfl, _, rfl, D, _, rfl, .inl (SqL.of hD5), rfl, _, rfl, ?_⟩
          rw [List.length_map]
          by_cases c : a - b = (((n :: r).length : Nat) : Int) - 1
          · refine iteZ ?_ ⟨_, _, rfl, s14.trans s5, step _ (by rw [e, decide_eq_true c])⟩
            rw [decide_eq_true (by show V.int (a - b + 1) = V.int _; rw [show a - b + 1 = (((n :: r).length : Nat) : Int) by omega])]
            rfl
          · refine iteY ?_ ?_
            · rw [decide_eq_false (by intro q; injection q with q; omega)]
              rfl
            · have q := k H5 (s14.trans s5)
              rw [bad (by rw [e, decide_eq_false c])] at q
              exact q
    · rintro σ H1 ⟨x3, x4, rfl, s1, kp⟩
      rw [List.length_map, List.take_length] at kp
      have q := k H1 s1
      rw [kp] at q
      exact q
end
def fct : Nat → Nat
  | 0 => 1
  | n + 1 => (n + 1) * fct n
theorem fct_pos : ∀ n, 1 ≤ fct n
  | 0 => Nat.le_refl _
  | n + 1 => Nat.mul_pos (Nat.succ_pos _) (fct_pos n)
theorem fct_mono {a b : Nat} (h : a ≤ b) : fct a ≤ fct b := by
  induction h with
  | refl => exact Nat.le_refl _
  | @step m _ ih => exact Nat.le_trans ih (Nat.le_mul_of_pos_left _ (Nat.succ_pos _))
theorem flatMap_len {α β : Type} {f : α → List β} {n : Nat} : ∀ {l : List α}, (∀ x ∈ l, (f x).length = n) → (l.flatMap f).length = l.length * n
  | [], _ => by simp
  | x :: r, h => by
    rw [List.flatMap_cons, List.length_append, h x (List.mem_cons_self ..), flatMap_len fun y hy => h y (List.mem_cons_of_mem _ hy), List.length_cons, Nat.add_mul, Nat.one_mul, Nat.add_comm]
theorem st_at {L : List Str} {i : Nat} {v : V} (h : (L.map V.str)[i]? = some v) : ∃ q, L[i]? = some q ∧ q ∈ L ∧ v = .str q := by
  rw [List.getElem?_map] at h
  cases e : L[i]? with
  | none => rw [e] at h; cases h
  | some q => rw [e] at h; exact ⟨q, rfl, List.mem_of_getElem? e, (Option.some.inj h).symm⟩
theorem take_one {α : Type} {l : List α} {i : Nat} {x : α} (h : l[i]? = some x) : l.take (i + 1) = l.take i ++ [x] := by rw [List.take_succ, h]; rfl
/-- the items in the order of their texts, equal ones in their turn -/
def byText {α : Type} (key : α → Str) (L : List α) : List α := L.mergeSort (PySem.W.dataLe false fun a => PyData.str (key a))
theorem perm_byText {α : Type} (key : α → Str) (L : List α) : (byText key L).Perm L := List.mergeSort_perm _ _
/-- sorted lists of texts that are permutations of each other are equal -/
theorem risingS_pw : ∀ (l : List Str) (p : Str), risingS p l = true → (p :: l).Pairwise (fun a b => a.cps.toList ≤ b.cps.toList)
  | [], p, _ => List.pairwise_singleton ..
  | x :: r, p, h => by
    have h2 : (!ltCps x.cps.toList p.cps.toList && risingS x r) = true := h
    rw [Bool.and_eq_true, Bool.not_eq_true', ltCps_eq, decide_eq_false_iff_not] at h2
    have ih := risingS_pw r x h2.2
    refine List.pairwise_cons.mpr ⟨fun y hy => ?_, ih⟩
    have hx : p.cps.toList ≤ x.cps.toList := h2.1
    rcases List.mem_cons.mp hy with e | hy
    · rw [e]; exact hx
    · exact List.le_trans hx ((List.pairwise_cons.mp ih).1 y hy)
theorem sortedS_pw {l : List Str} (h : sortedS l = true) : l.Pairwise (fun a b => a.cps.toList ≤ b.cps.toList) := by
  cases l with
  | nil => exact .nil
  | cons x r => exact risingS_pw r x h
def leT (a b : Str) : Prop := a.cps.toList ≤ b.cps.toList
theorem leT_anti {a b : Str} (h1 : leT a b) (h2 : leT b a) : a = b := by
  have e := List.le_antisymm h1 h2
  cases a; cases b
  congr
  exact Array.ext' e
theorem byLe {α : Type} {key : α → Str} {a b : α} : PySem.W.dataLe false (fun a => PyData.str (key a)) a b = true ↔ leT (key a) (key b) := by
  rw [PySem.W.dataLe_eq]
  show (!PySem.W.dataLt (.str (key b)) (.str (key a))) = true ↔ _
  rw [PySem.W.dataLt_str, Bool.not_eq_true', decide_eq_false_iff_not]
  exact Iff.rfl
theorem byText_eq {α : Type} {key : α → Str} {L M : List α} (p : M.Perm L) (h : M.Pairwise fun a b => leT (key a) (key b)) (inj : ∀ a ∈ M, ∀ b ∈ M, key a = key b → a = b) : byText key L = M := by
  have t := PySem.W.sortLe_total (PyProof.Rows.listOrd PyProof.Rows.itemOrd) false fun a : α => PySem.W.keyToks (PyData.str (key a))
  have q : (byText key L).Perm M := (List.mergeSort_perm _ _).trans p.symm
  refine List.Perm.eq_of_pairwise (le := fun a b => leT (key a) (key b)) (fun a b ha hb h1 h2 => inj a (q.mem_iff.mp ha) b hb (leT_anti h1 h2)) ?_ h q
  exact (List.pairwise_mergeSort (fun a b c => t.trans a b c) (fun a b => by
    have := t.total a b
    simpa using this) L).imp fun x => byLe.mp x
theorem sorted_pw {zs : List Str} (h : sortedS zs = true) : zs.Pairwise leT := sortedS_pw h
theorem byText_pw {α : Type} (key : α → Str) (L : List α) : (byText key L).Pairwise fun a b => leT (key a) (key b) := by
  have t := PySem.W.sortLe_total (PyProof.Rows.listOrd PyProof.Rows.itemOrd) false fun a : α => PySem.W.keyToks (PyData.str (key a))
  exact (List.pairwise_mergeSort (fun a b c => t.trans a b c) (fun a b => by
    have := t.total a b
    simpa using this) L).imp fun x => byLe.mp x
section
variable {X : Cx}
def rCatW (K : PySem.W.Frag) : R2 := fun x y H Q => ∃ a b xs ys, x = .ref a ∧ y = .ref b ∧ SqT K H a xs ∧ SqT K H b ys ∧ xs.length + ys.length ≤ sizeLine ∧ ∀ H' p, Same H H' → SqT K H' p (xs ++ ys) → Q (.ref p) H'
theorem op_catW : OpR X (binaryOp .Add) (rCatW X.K) := by
  intro pins s σ H x y v u Q I rx ry h
  obtain ⟨a, b, xs, ys, rfl, rfl, ha, hb, hz, q⟩ := h
  refine op_catA pins s σ H _ _ v u Q I rx ry ⟨a, b, xs, ys, rfl, rfl, ha, hb, hz, fun e => ?_, fun _ e => ?_, fun _ _ p hp => q _ p (Same.upd_new hp) (SqT.of upd_same)⟩
  · subst e; exact q H b (Same.refl H) hb
  · subst e; exact q H a (Same.refl H) (by rw [List.append_nil]; exact ha)
end
def NoneC (c o : List Str) : Prop := ∀ z ∈ o, z ∉ c
def AllC (c o : List Str) : Prop := ∀ z ∈ o, z ∈ c
def Beside (c o : List Str) : Prop := ∃ a b d, o = a ++ (b ++ d) ∧ NoneC c a ∧ AllC c b ∧ NoneC c d
def pos (o : List Str) (x : Str) : Nat := o.idxOf x
theorem pos_left {a b : List Str} {x : Str} (h : x ∈ a) : pos (a ++ b) x = pos a x := by
  unfold pos
  rw [List.idxOf_append, if_pos h]
theorem pos_right {a b : List Str} {x : Str} (h : x ∉ a) : pos (a ++ b) x = a.length + pos b x := by
  unfold pos
  rw [List.idxOf_append, if_neg h, Nat.add_comm]
abbrev OrdL := List (Addr × List Str)
structure OrdIn (K : PySem.W.Frag) (H : Hp) (p : Addr) (M : OrdL) : Prop where
  lst : H p = some (.lst (M.map fun q => V.ref q.1))
  all : ∀ q ∈ M, SqT K H q.1 (q.2.map V.str)
theorem OrdIn.of {K : PySem.W.Frag} {H H' : Hp} {p : Addr} {M : OrdL} (h : OrdIn K H p M) (s : Same H H') : OrdIn K H' p M := ⟨s _ _ h.lst, fun q hq => Same.tup s (h.all q hq)⟩
/-- a list at D that grows, made since H0 -/
structure OrdOut (K : PySem.W.Frag) (H0 H : Hp) (D : Addr) (M : OrdL) : Prop where
  same : Same H0 H
  at_ : OrdIn K H D M
  new : H0 D = none
theorem upd_tup {K : PySem.W.Frag} {H : Hp} {D a : Addr} {xs ys zs : List V} (hD : H D = some (.lst ys)) (h : SqT K H a xs) : SqT K (upd H D (.lst zs)) a xs := by
  have ne : ∀ {o : HO}, H a = some o → (∀ l, o ≠ .lst l) → a ≠ D := fun e n q => by rw [q, hD] at e; exact n _ (Option.some.inj e).symm
  rcases h with (h | ⟨o, h⟩) | h
  · exact .inl (.inl (by rw [upd_ne (ne h fun l e => by cases e)]; exact h))
  · exact .inl (.inr ⟨o, by rw [upd_ne (ne h fun l e => by cases e)]; exact h⟩)
  · exact .inr h
theorem OrdOut.nil {K : PySem.W.Frag} {H0 : Hp} {D : Addr} (h : H0 D = none) : OrdOut K H0 (upd H0 D (.lst [])) D [] := ⟨Same.upd_new h, ⟨upd_same, fun q hq => absurd hq (by simp)⟩, h⟩
theorem OrdOut.of {K : PySem.W.Frag} {H0 H H' : Hp} {D : Addr} {M : OrdL} (h : OrdOut K H0 H D M) (s : Same H H') : OrdOut K H0 H' D M := ⟨h.same.trans s, h.at_.of s, h.new⟩
theorem OrdOut.put {K : PySem.W.Frag} {H0 H : Hp} {D : Addr} {M N : OrdL} (h : OrdOut K H0 H D M) (n : ∀ q ∈ N, SqT K H q.1 (q.2.map V.str)) : OrdOut K H0 (upd H D (.lst ((M.map fun q => V.ref q.1) ++ N.map fun q => V.ref q.1))) D (M ++ N) := by
  refine ⟨fun a o e => ?_, ⟨?_, fun q hq => ?_⟩, h.new⟩
  · rw [upd_ne (ne_of_none e h.new)]; exact h.same _ _ e
  · rw [upd_same, List.map_append]
  · rcases List.mem_append.mp hq with m | m
    · exact upd_tup h.at_.lst (h.at_.all q m)
    · exact upd_tup h.at_.lst (n q m)
theorem ord_at {M : OrdL} {i : Nat} {v : V} (h : (M.map fun q => V.ref q.1)[i]? = some v) : ∃ q, M[i]? = some q ∧ q ∈ M ∧ v = .ref q.1 := by
  rw [List.getElem?_map] at h
  cases e : M[i]? with
  | none => rw [e] at h; cases h
  | some q => rw [e] at h; exact ⟨q, rfl, List.mem_of_getElem? e, (Option.some.inj h).symm⟩
theorem flatMap_part {α β : Type} (f : α → List β) (l : List α) (j : Nat) : ((l.take j).flatMap f).length ≤ (l.flatMap f).length := by
  have e : l.flatMap f = (l.take j).flatMap f ++ (l.drop j).flatMap f := by rw [← List.flatMap_append, List.take_append_drop]
  rw [e, List.length_append]
  omega
theorem sameB_tup {K : PySem.W.Frag} {b a : Addr} {H H' : Hp} {xs ys : List V} (s : SameB b H H') (hb : H b = some (.lst ys)) (h : SqT K H a xs) : SqT K H' a xs := by
  have ne : ∀ {o : HO}, H a = some o → (∀ l, o ≠ .lst l) → a ≠ b := fun e n q => by rw [q, hb] at e; exact n _ (Option.some.inj e).symm
  rcases h with (h | ⟨o, h⟩) | h
  · exact .inl (.inl (s _ _ (ne h fun l e => by cases e) h))
  · exact .inl (.inr ⟨o, s _ _ (ne h fun l e => by cases e) h⟩)
  · exact .inr h
theorem ords_dp {K : PySem.W.Frag} {H : Hp} : ∀ {N : OrdL}, (∀ q ∈ N, SqT K H q.1 (q.2.map V.str)) → DpAll K H (N.map fun q => V.ref q.1) (N.map fun q => PyData.tuple (q.2.map PyData.str))
  | [], _ => .nil
  | q :: r, h => .cons (.tup (h q (List.mem_cons_self ..)) (dpAll_strs _)) (ords_dp fun z hz => h z (List.mem_cons_of_mem _ hz))
theorem ords_shaped {N : OrdL} (h : ∀ q ∈ N, ∀ z ∈ q.2, canS z) : SeqAt.shaped (.list (N.map fun q => PyData.tuple (q.2.map PyData.str))) = true := by
  have a : ∀ N : OrdL, (∀ q ∈ N, ∀ z ∈ q.2, canS z) → PyData.canLayAll0 (N.map fun q => PyData.tuple (q.2.map PyData.str)) = true ∧ PyData.depthAll (N.map fun q => PyData.tuple (q.2.map PyData.str)) ≤ 1 := by
    intro N
    induction N with
    | nil => intro _; exact ⟨by simp [PyData.canLayAll0], by simp [PyData.depthAll]⟩
    | cons q r ih =>
      intro h
      obtain ⟨i1, i2⟩ := ih fun x hx => h x (List.mem_cons_of_mem _ hx)
      rw [List.map_cons, PyData.canLayAll0, PyData.depthAll, i1, PyData.canLay0, canAll_strs (h q (List.mem_cons_self ..)), PyData.depth, depthAll_strs]
      exact ⟨rfl, by omega⟩
  obtain ⟨a1, a2⟩ := a N h
  unfold SeqAt.shaped
  rw [PyData.canLay0, a1, Bool.true_and, PyData.depth]
  exact decide_eq_true (by omega)
theorem beside_congr {c c' w : List Str} (h : ∀ z, z ∈ c ↔ z ∈ c') : Beside c w ↔ Beside c' w := by
  unfold Beside NoneC AllC
  simp only [h]
/-- a run of an order stands side by side -/
theorem run_beside {w : List Str} (nd : w.Nodup) (i j : Nat) : Beside ((w.drop i).take j) w := by
  refine ⟨w.take i, (w.drop i).take j, (w.drop i).drop j, by rw [List.take_append_drop, List.take_append_drop], fun z hz m => ?_, fun z hz => hz, fun z hz m => ?_⟩
  · have nd' := nd
    rw [← List.take_append_drop i w] at nd'
    exact (List.nodup_append.mp nd').2.2 z hz z (List.mem_of_mem_take m) rfl
  · have nd' : (w.drop i).Nodup := nd.sublist (List.drop_sublist _ _)
    rw [← List.take_append_drop j (w.drop i)] at nd'
    exact (List.nodup_append.mp nd').2.2 z m z hz rfl
theorem OrdIn.ofB {K : PySem.W.Frag} {H H' : Hp} {b p : Addr} {M : OrdL} {us : List V} (h : OrdIn K H p M) (n : p ≠ b) (s : SameB b H H') (hb : H b = some (.lst us)) : OrdIn K H' p M := ⟨s _ _ n h.lst, fun q hq => sameB_tup s hb (h.all q hq)⟩
/-- an order fits: each lamp's looks stand side by side -/
def FitsO (ls : List Str) (rs : List (Str × List Str)) (w0 : List Str) : Prop := ∀ z ∈ ls, Beside (seenOf rs z) w0
theorem seen_keys {rs : List (Str × List Str)} {z x : Str} (h : x ∈ seenOf rs z) : x ∈ keysOf rs := by
  unfold seenOf at h
  obtain ⟨q, hq, rfl⟩ := List.mem_map.mp h
  exact List.mem_map_of_mem (List.mem_filter.mp hq).1
theorem dir_beside {w c : List Str} {o x y : Str} (b : Beside c w) (ho : o ∈ w) (no : o ∉ c) (hx : x ∈ w) (cx : x ∈ c) (hy : y ∈ w) (cy : y ∈ c) : (w.idxOf o < w.idxOf x ↔ w.idxOf o < w.idxOf y) ∧ (w.idxOf x < w.idxOf o ↔ w.idxOf y < w.idxOf o) := by
  obtain ⟨a, m, d, rfl, na, am, ndd⟩ := b
  have pl : ∀ u, u ∈ a ++ (m ++ d) → u ∈ c → u ∉ a ∧ u ∈ m := fun u hu cu => by
    have ua : u ∉ a := fun q => na u q cu
    refine ⟨ua, ?_⟩
    rcases List.mem_append.mp hu with q | q
    · exact absurd q ua
    rcases List.mem_append.mp q with q | q
    · exact q
    · exact absurd cu (ndd u q)
  have pq : ∀ u, u ∉ a → u ∈ m → a.length ≤ (a ++ (m ++ d)).idxOf u ∧ (a ++ (m ++ d)).idxOf u < a.length + m.length := fun u ua um => by
    rw [List.idxOf_append, if_neg ua, List.idxOf_append, if_pos um]
    have := List.idxOf_lt_length_of_mem um
    omega
  obtain ⟨xa, xm⟩ := pl x hx cx
  obtain ⟨ya, ym⟩ := pl y hy cy
  have tx := pq x xa xm
  have ty := pq y ya ym
  by_cases oa : o ∈ a
  · have : (a ++ (m ++ d)).idxOf o < a.length := by
      rw [List.idxOf_append, if_pos oa]; exact List.idxOf_lt_length_of_mem oa
    omega
  · have om : o ∉ m := fun q => no (am o q)
    have : a.length + m.length ≤ (a ++ (m ++ d)).idxOf o := by
      rw [List.idxOf_append, if_neg oa, List.idxOf_append, if_neg om]; omega
    omega
theorem step_dir {ls : List Str} {rs : List (Str × List Str)} {w : List Str} {z : Str} {p q : Pr} (fit : FitsO ls rs w) (wp : w.Perm (keysOf rs)) (hz : z ∈ ls) (h : StepBy rs z p q) : w.idxOf p.1 < w.idxOf p.2 ↔ w.idxOf q.1 < w.idxOf q.2 := by
  have sub : ∀ {y}, y ∈ seenOf rs z → y ∈ w := fun h => wp.mem_iff.mpr (seen_sub h)
  rcases h with ⟨e, ne, h1, h2, h3, h4⟩ | ⟨e, ne, h1, h2, h3, h4⟩
  · rw [← e]
    exact (dir_beside (fit z hz) (wp.mem_iff.mpr h3) h4 (sub h1) h1 (sub h2) h2).2
  · rw [← e]
    exact (dir_beside (fit z hz) (wp.mem_iff.mpr h3) h4 (sub h1) h1 (sub h2) h2).1
theorem way_dir {ls : List Str} {rs : List (Str × List Str)} {w : List Str} {p q : Pr} (fit : FitsO ls rs w) (wp : w.Perm (keysOf rs)) (h : WayL ls rs p q) : w.idxOf p.1 < w.idxOf p.2 ↔ w.idxOf q.1 < w.idxOf q.2 := by
  induction h with
  | start => exact Iff.rfl
  | next _ hz h ih => exact ih.trans (step_dir fit wp hz h)
theorem perm_of {zs w : List Str} (hl : w.length = zs.length) (nd : w.Nodup) (sub : ∀ k ∈ w, k ∈ zs) (nz : zs.Nodup) : w.Perm zs := by
  refine (List.perm_ext_iff_of_nodup nd nz).mpr fun k => ⟨sub k, fun h => ?_⟩
  by_cases m : k ∈ w
  · exact m
  · have := List.Nodup.length_le_of_subset (l₁ := k :: w) (l₂ := zs) (List.nodup_cons.mpr ⟨m, nd⟩) fun j hj => by
      rcases List.mem_cons.mp hj with rfl | hj
      · exact h
      · exact sub j hj
    rw [List.length_cons] at this
    omega
theorem stand_beside {w zs : List Str} (nw : w.Nodup) (nz : zs.Nodup) (sub : ∀ z ∈ zs, z ∈ w) : standB (placesOf w zs) = true ↔ Beside zs w := by
  have pl : ∀ z ∈ zs, ((w.idxOf z : Nat) : Int) ∈ placesOf w zs := fun z hz => List.mem_map_of_mem hz
  have len : (placesOf w zs).length = zs.length := List.length_map _
  constructor
  · intro h
    unfold standB at h
    rw [Bool.or_eq_true] at h
    rcases h with h | h
    · have e : zs = [] := List.map_eq_nil_iff.mp (of_decide_eq_true h)
      rw [e]
      exact ⟨w, [], [], by simp, fun z _ => by simp, fun z hz => absurd hz (by simp), fun z hz => absurd hz (by simp)⟩
    · obtain ⟨a, ha, h⟩ := List.any_eq_true.mp h
      obtain ⟨b, hb, h⟩ := List.any_eq_true.mp h
      rw [Bool.and_eq_true, Bool.and_eq_true, List.all_eq_true, List.all_eq_true] at h
      obtain ⟨⟨h1, h2⟩, h3⟩ := h
      have h3 := of_decide_eq_true h3
      rw [len] at h3
      obtain ⟨za, hza, rfl⟩ := List.mem_map.mp ha
      obtain ⟨zb, hzb, rfl⟩ := List.mem_map.mp hb
      have la := List.idxOf_lt_length_of_mem (sub za hza)
      have inn : ∀ z ∈ zs, z ∈ (w.drop (w.idxOf zb)).take zs.length := fun z hz => by
        have g1 := of_decide_eq_true (h1 _ (pl z hz))
        have g2 := of_decide_eq_true (h2 _ (pl z hz))
        have lz := List.idxOf_lt_length_of_mem (sub z hz)
        refine List.mem_iff_getElem?.mpr ⟨w.idxOf z - w.idxOf zb, ?_⟩
        rw [List.getElem?_take, if_pos (by omega), List.getElem?_drop, show w.idxOf zb + (w.idxOf z - w.idxOf zb) = w.idxOf z by omega]
        rw [List.getElem?_eq_getElem lz, List.getElem_idxOf]
      have tl : ((w.drop (w.idxOf zb)).take zs.length).length = zs.length := by
        rw [List.length_take, List.length_drop]
        have : 0 < zs.length := List.length_pos_iff.mpr (fun e => by rw [e] at hza; cases hza)
        omega
      have pm := perm_of (zs := (w.drop (w.idxOf zb)).take zs.length) (w := zs) tl.symm nz inn ((nw.sublist (List.drop_sublist _ _)).sublist (List.take_sublist _ _))
      exact (beside_congr fun z => pm.mem_iff.symm).mp (run_beside nw (w.idxOf zb) zs.length)
  · rintro ⟨A, B, D, rfl, nA, aB, nD⟩
    by_cases e : zs = []
    · subst e
      rfl
    have inB : ∀ z ∈ zs, z ∈ B := fun z hz => by
      rcases List.mem_append.mp (sub z hz) with h | h
      · exact absurd hz (nA z h)
      · rcases List.mem_append.mp h with h | h
        · exact h
        · exact absurd hz (nD z h)
    have nB : B.Nodup := (List.nodup_append.mp (List.nodup_append.mp nw).2.1).1
    have lB : B.length = zs.length := Nat.le_antisymm (List.Nodup.length_le_of_subset nB fun z hz => aB z hz) (List.Nodup.length_le_of_subset nz fun z hz => inB z hz)
    have at_ : ∀ i (h : i < B.length), (A ++ (B ++ D)).idxOf B[i] = A.length + i := fun i h => by
      have hm : B[i] ∈ B := List.getElem_mem h
      have na : B[i] ∉ A := fun ha => nA _ ha (aB _ hm)
      rw [List.idxOf_append, if_neg na, List.idxOf_append, if_pos hm]
      have : B.idxOf B[i] = i := List.Nodup.idxOf_getElem nB i h
      omega
    have bd : ∀ z ∈ zs, A.length ≤ (A ++ (B ++ D)).idxOf z ∧ (A ++ (B ++ D)).idxOf z < A.length + B.length := fun z hz => by
      obtain ⟨i, hi, rfl⟩ := List.getElem_of_mem (inB z hz)
      rw [at_ i hi]
      omega
    have pos : 0 < B.length := by rw [lB]; exact List.length_pos_iff.mpr e
    unfold standB
    rw [Bool.or_eq_true]
    refine .inr (List.any_eq_true.mpr ⟨_, pl B[B.length - 1] (aB _ (List.getElem_mem _)), List.any_eq_true.mpr ⟨_, pl B[0] (aB _ (List.getElem_mem _)), ?_⟩⟩)
    rw [Bool.and_eq_true, Bool.and_eq_true, List.all_eq_true, List.all_eq_true, at_, at_]
    refine ⟨⟨fun y hy => ?_, fun y hy => ?_⟩, decide_eq_true (by rw [len]; omega)⟩
    · obtain ⟨z, hz, rfl⟩ := List.mem_map.mp hy
      have := bd z hz
      exact decide_eq_true (by omega)
    · obtain ⟨z, hz, rfl⟩ := List.mem_map.mp hy
      have := bd z hz
      exact decide_eq_true (by omega)
theorem seen_nodup {rs : List (Str × List Str)} (nd : (keysOf rs).Nodup) (z : Str) : (seenOf rs z).Nodup := by
  unfold seenOf
  exact nd.sublist (List.filter_sublist.map _)
theorem fits_iff {ls w : List Str} {rs : List (Str × List Str)} (nd : (keysOf rs).Nodup) (p : w.Perm (keysOf rs)) : fitsB ls rs w = true ↔ FitsO ls rs w := by
  unfold fitsB FitsO
  rw [List.all_eq_true]
  have k := fun z => stand_beside (p.nodup_iff.mpr nd) (seen_nodup nd z) fun y hy => p.mem_iff.mpr (seen_keys hy)
  exact ⟨fun h z hz => (k z).mp (h z hz), fun h z hz => (k z).mpr (h z hz)⟩
theorem least_of {α : Type} {C : α → Prop} (f : α → Nat) {a : α} (h : C a) : ∃ q, C q ∧ ∀ q', C q' → f q ≤ f q' := by
  generalize e : f a = n
  induction n using Nat.strongRecOn generalizing a with
  | ind n ih =>
    by_cases c : ∃ q, C q ∧ f q < n
    · obtain ⟨q, hq, l⟩ := c
      exact ih (f q) l hq rfl
    · refine ⟨a, h, fun q' hq' => ?_⟩
      rcases Nat.lt_or_ge (f q') n with l | l
      · exact absurd ⟨q', hq', l⟩ c
      · omega
theorem most_of {α : Type} {C : α → Prop} (f : α → Nat) (n : Nat) (b : ∀ q, C q → f q ≤ n) {a : α} (h : C a) : ∃ q, C q ∧ ∀ q', C q' → f q' ≤ f q := by
  obtain ⟨q, hq, l⟩ := least_of (fun q => n - f q) h
  refine ⟨q, hq, fun q' hq' => ?_⟩
  have := l q' hq'
  have := b q hq
  have := b q' hq'
  omega
theorem pos_at {w : List Str} {x : Str} (h : x ∈ w) : w[pos w x]? = some x := by
  unfold pos
  rw [List.getElem?_eq_getElem (List.idxOf_lt_length_iff.mpr h), List.getElem_idxOf]
theorem pos_ltw {w : List Str} {x : Str} (h : x ∈ w) : pos w x < w.length := List.idxOf_lt_length_iff.mpr h
theorem pos_of {w : List Str} (nd : w.Nodup) {x : Str} {k : Nat} (h : w[k]? = some x) : pos w x = k := by
  obtain ⟨a, e⟩ := List.getElem?_eq_some_iff.mp h
  obtain ⟨b, e2⟩ := List.getElem?_eq_some_iff.mp (pos_at (List.mem_of_getElem? h))
  exact (List.getElem_inj nd).mp (e2.trans e.symm)
theorem pos_inj {w : List Str} {x y : Str} (hx : x ∈ w) (hy : y ∈ w) (e : pos w x = pos w y) : x = y := by
  have h1 := pos_at hx
  rw [e, pos_at hy] at h1
  exact (Option.some.inj h1).symm
/-- the looks of a lamp fill a stretch of the order -/
theorem lamp_iv {c w : List Str} (b : Beside c w) : ∃ l r, l ≤ r ∧ r ≤ w.length ∧ ∀ x ∈ w, x ∈ c ↔ l ≤ pos w x ∧ pos w x < r := by
  obtain ⟨a, m, d, rfl, na, am, ndd⟩ := b
  refine ⟨a.length, a.length + m.length, by omega, by rw [List.length_append, List.length_append]; omega, fun x hx => ?_⟩
  by_cases xa : x ∈ a
  · rw [pos_left xa]
    have := pos_ltw xa
    exact ⟨fun h => absurd h (na x xa), fun h => by omega⟩
  · have hx := (List.mem_append.mp hx).resolve_left xa
    rw [pos_right xa]
    by_cases xm : x ∈ m
    · rw [pos_left xm]
      have := pos_ltw xm
      exact ⟨fun _ => by omega, fun _ => am x xm⟩
    · rw [pos_right xm]
      have hx := (List.mem_append.mp hx).resolve_left xm
      exact ⟨fun h => absurd h (ndd x hx), fun h => by omega⟩
theorem iv_beside {c w : List Str} {l r : Nat} (nd : w.Nodup) (sub : ∀ x ∈ c, x ∈ w) (h : ∀ x ∈ w, x ∈ c ↔ l ≤ pos w x ∧ pos w x < r) : Beside c w := by
  refine (beside_congr fun y => ?_).mp (run_beside nd l (r - l))
  constructor
  · intro hy
    obtain ⟨k, hk⟩ := List.mem_iff_getElem?.mp hy
    rw [List.getElem?_take] at hk
    split at hk
    · rename_i lt
      rw [List.getElem?_drop] at hk
      have e := pos_of nd hk
      exact (h y (List.mem_of_getElem? hk)).mpr (by omega)
    · cases hk
  · intro hy
    have hw := sub y hy
    have g := (h y hw).mp hy
    refine List.mem_iff_getElem?.mpr ⟨pos w y - l, ?_⟩
    rw [List.getElem?_take, if_pos (by omega), List.getElem?_drop, show l + (pos w y - l) = pos w y by omega, pos_at hw]
/-- no lamp overlaps the stretch from i to j -/
def FreeI (ls : List Str) (rs : List (Str × List Str)) (w : List Str) (i j : Nat) : Prop := ∀ z ∈ ls, ∀ x ∈ w, ∀ y ∈ w, ∀ u ∈ w, x ∈ seenOf rs z → y ∉ seenOf rs z → u ∈ seenOf rs z → i ≤ pos w x → pos w x ≤ j → i ≤ pos w y → pos w y ≤ j → i ≤ pos w u ∧ pos w u ≤ j
def InI (w : List Str) (i j : Nat) (p : Pr) : Prop := i ≤ pos w p.1 ∧ pos w p.1 ≤ j ∧ i ≤ pos w p.2 ∧ pos w p.2 ≤ j
section
variable {ls : List Str} {rs : List (Str × List Str)} {w : List Str}
theorem in_way {i j : Nat} {p q : Pr} (F : FreeI ls rs w i j) (wp : w.Perm (keysOf rs)) (h : WayL ls rs p q) (hp : InI w i j p) : InI w i j q := by
  induction h with
  | start => exact hp
  | next _ hz st ih =>
    obtain ⟨a1, a2, b1, b2⟩ := ih
    rcases st with ⟨e, ne, h1, h2, h3, h4⟩ | ⟨e, ne, h1, h2, h3, h4⟩
    · have f := F _ hz _ (wp.mem_iff.mpr (seen_sub h1)) _ (wp.mem_iff.mpr h3) _ (wp.mem_iff.mpr (seen_sub h2)) h1 h4 h2 a1 a2 b1 b2
      exact ⟨f.1, f.2, by rw [← e]; exact b1, by rw [← e]; exact b2⟩
    · have f := F _ hz _ (wp.mem_iff.mpr (seen_sub h1)) _ (wp.mem_iff.mpr h3) _ (wp.mem_iff.mpr (seen_sub h2)) h1 h4 h2 b1 b2 a1 a2
      exact ⟨by rw [← e]; exact a1, by rw [← e]; exact a2, f.1, f.2⟩
theorem way_left {P q : Pr} {z u : Str} (h : WayL ls rs P q) (hz : z ∈ ls) (k : PairOf rs q) (q1 : q.1 ∈ seenOf rs z) (q2 : q.2 ∉ seenOf rs z) (hu : u ∈ seenOf rs z) : WayL ls rs P (u, q.2) := by
  by_cases e : q.1 = u
  · rw [← e]; exact h
  · exact h.next hz (.inl ⟨rfl, e, q1, hu, k.2.1, q2⟩)
theorem way_right {P q : Pr} {z u : Str} (h : WayL ls rs P q) (hz : z ∈ ls) (k : PairOf rs q) (q1 : q.1 ∉ seenOf rs z) (q2 : q.2 ∈ seenOf rs z) (hu : u ∈ seenOf rs z) : WayL ls rs P (q.1, u) := by
  by_cases e : q.2 = u
  · rw [← e]; exact h
  · exact h.next hz (.inr ⟨rfl, e, q2, hu, k.1, q1⟩)
/-- where no tied pair is half in a lamp, all of them are in it or none -/
theorem all_in {P : Pr} {S : List Str} (hS : ∃ z, S = seenOf rs z) (both : ∀ q, WayL ls rs P q → (q.1 ∈ S ↔ q.2 ∈ S)) : ∀ {q}, WayL ls rs P q → (P.1 ∈ S ↔ q.1 ∈ S) := by
  intro q h
  induction h with
  | start => exact Iff.rfl
  | @next s q z h hz st ih =>
    have hq := both _ (h.next hz st)
    have hs := both _ h
    rcases st with ⟨e, _⟩ | ⟨e, _⟩
    · rw [ih, hs, hq, e]
    · rw [ih, e]
/-- the stretch that the tied pairs fill -/
theorem hull {P : Pr} (fit : FitsO ls rs w) (wp : w.Perm (keysOf rs)) (pp : PairOf rs P) (dir : pos w P.1 < pos w P.2) :
    ∃ q, WayL ls rs P q ∧ FreeI ls rs w (pos w q.1) (pos w q.2) ∧ InI w (pos w q.1) (pos w q.2) P := by
  have mem : ∀ q, WayL ls rs P q → PairOf rs q ∧ q.1 ∈ w ∧ q.2 ∈ w ∧ pos w q.1 < pos w q.2 := fun q h => ⟨h.pair pp, wp.mem_iff.mpr (h.pair pp).1, wp.mem_iff.mpr (h.pair pp).2.1, (way_dir fit wp h).mp dir⟩
  obtain ⟨q1, c1, l1⟩ := least_of (C := fun q => WayL ls rs P q) (fun q => pos w q.1) (WayL.start (a := P))
  obtain ⟨q2, c2, l2⟩ := most_of (C := fun q => WayL ls rs P q) (fun q => pos w q.2) w.length (fun q h => Nat.le_of_lt (pos_ltw (mem q h).2.2.1)) (WayL.start (a := P))
  have rng : ∀ q, WayL ls rs P q → InI w (pos w q1.1) (pos w q2.2) q := fun q h => by
    have h1 := l1 q h
    have h2 := l2 q h
    have h3 := (mem q h).2.2.2
    exact ⟨h1, by omega, by omega, h2⟩
  have F : FreeI ls rs w (pos w q1.1) (pos w q2.2) := by
    intro z hz x hx y hy u hu xS yS uS x1 x2 y1 y2
    obtain ⟨l, r, lr, rn, iv⟩ := lamp_iv (fit z hz)
    have ix := (iv x hx).mp xS
    have iu := (iv u hu).mp uS
    have iy : ¬ (l ≤ pos w y ∧ pos w y < r) := fun h => yS ((iv y hy).mpr h)
    have i1 := iv q1.1 (mem _ c1).2.1
    have i2 := iv q2.2 (mem _ c2).2.2.1
    refine Classical.byContradiction fun out => ?_
    rcases Nat.lt_or_ge (pos w u) (pos w q1.1) with lo | lo
    · have both : ∀ q, WayL ls rs P q → (q.1 ∈ seenOf rs z ↔ q.2 ∈ seenOf rs z) := fun q h => by
        obtain ⟨k, m1, m2, d⟩ := mem q h
        constructor
        · intro a
          refine Classical.byContradiction fun b => ?_
          have := l1 _ (way_left h hz k a b uS)
          have this : pos w q1.1 ≤ pos w u := this
          omega
        · intro b
          refine Classical.byContradiction fun a => ?_
          have g := (mem _ (way_right h hz k a b uS)).2.2.2
          have g : pos w q.1 < pos w u := g
          have := l1 q h
          omega
      have e1 : q1.1 ∈ seenOf rs z := i1.mpr (by omega)
      have e2 : ¬ q2.2 ∈ seenOf rs z := fun h => by have := i2.mp h; omega
      exact e2 ((both _ c2).mp ((all_in ⟨z, rfl⟩ both c2).mp ((all_in ⟨z, rfl⟩ both c1).mpr e1)))
    · have hi : pos w q2.2 < pos w u := by omega
      have both : ∀ q, WayL ls rs P q → (q.1 ∈ seenOf rs z ↔ q.2 ∈ seenOf rs z) := fun q h => by
        obtain ⟨k, m1, m2, d⟩ := mem q h
        constructor
        · intro a
          refine Classical.byContradiction fun b => ?_
          have g := (mem _ (way_left h hz k a b uS)).2.2.2
          have g : pos w u < pos w q.2 := g
          have := l2 q h
          omega
        · intro b
          refine Classical.byContradiction fun a => ?_
          have := l2 _ (way_right h hz k a b uS)
          have this : pos w u ≤ pos w q2.2 := this
          omega
      have e2 : q2.2 ∈ seenOf rs z := i2.mpr (by omega)
      have e1 : ¬ q1.1 ∈ seenOf rs z := fun h => by have := i1.mp h; omega
      exact e1 ((all_in ⟨z, rfl⟩ both c1).mp ((all_in ⟨z, rfl⟩ both c2).mpr ((both _ c2).mpr e2)))
  -- the ends of the stretch are a tied pair
  obtain ⟨q, ⟨cq, eq⟩, lq⟩ := most_of (C := fun q => WayL ls rs P q ∧ pos w q.1 = pos w q1.1) (fun q => pos w q.2) w.length (fun q h => Nat.le_of_lt (pos_ltw (mem q h.1).2.2.1)) ⟨c1, rfl⟩
  have top : pos w q.2 = pos w q2.2 := by
    refine Classical.byContradiction fun ne => ?_
    have le := l2 q cq
    have G : FreeI ls rs w (pos w q.1) (pos w q.2) := by
      intro z hz x hx y hy u hu xS yS uS x1 x2 y1 y2
      obtain ⟨f1, f2⟩ := F z hz x hx y hy u hu xS yS uS (by omega) (by omega) (by omega) (by omega)
      refine ⟨by omega, ?_⟩
      refine Classical.byContradiction fun out => ?_
      obtain ⟨l, r, lr, rn, iv⟩ := lamp_iv (fit z hz)
      have ix := (iv x hx).mp xS
      have iu := (iv u hu).mp uS
      have iy : ¬ (l ≤ pos w y ∧ pos w y < r) := fun h => yS ((iv y hy).mpr h)
      obtain ⟨k, m1, m2, d⟩ := mem q cq
      have a : ¬ q.1 ∈ seenOf rs z := fun h => by have := (iv _ m1).mp h; omega
      have b : q.2 ∈ seenOf rs z := (iv _ m2).mpr (by omega)
      have := lq _ ⟨way_right cq hz k a b uS, eq⟩
      have this : pos w u ≤ pos w q.2 := this
      omega
    have self : InI w (pos w q.1) (pos w q.2) q := ⟨Nat.le_refl _, Nat.le_of_lt (mem q cq).2.2.2, Nat.le_of_lt (mem q cq).2.2.2, Nat.le_refl _⟩
    have := (in_way G wp (cq.symm.trans c2) self).2.2.2
    omega
  refine ⟨q, cq, ?_, ?_⟩
  · rw [eq, top]; exact F
  · rw [eq, top]; exact rng P .start
theorem tied_of_hull {P Q : Pr} (fit : FitsO ls rs w) (wp : w.Perm (keysOf rs)) (hP : PairOf rs P) (hQ : PairOf rs Q) (dP : pos w P.1 < pos w P.2) (dQ : pos w Q.1 < pos w Q.2)
    (same : ∀ i j, FreeI ls rs w i j → j < w.length → (InI w i j P ↔ InI w i j Q)) : WayL ls rs P Q := by
  obtain ⟨p, cp, fp, ip⟩ := hull fit wp hP dP
  obtain ⟨q, cq, fq, iq⟩ := hull fit wp hQ dQ
  have kp := cp.pair hP
  have kq := cq.pair hQ
  have hp1 := wp.mem_iff.mpr kp.1
  have hp2 := wp.mem_iff.mpr kp.2.1
  have hq1 := wp.mem_iff.mpr kq.1
  have hq2 := wp.mem_iff.mpr kq.2.1
  have a := in_way fp wp cq ((same _ _ fp (pos_ltw hp2)).mp ip)
  have b := in_way fq wp cp ((same _ _ fq (pos_ltw hq2)).mpr iq)
  obtain ⟨a1, a2, a3, a4⟩ := a
  obtain ⟨b1, b2, b3, b4⟩ := b
  have e1 : p.1 = q.1 := pos_inj hp1 hq1 (by omega)
  have e2 : p.2 = q.2 := pos_inj hp2 hq2 (by omega)
  have e : p = q := Prod.ext e1 e2
  rw [e] at cp
  exact cp.trans cq.symm
end
/-- a stretch turned round -/
def sg (i j k : Nat) : Nat := if i ≤ k ∧ k ≤ j then i + j - k else k
theorem sg_sg {i j k : Nat} : sg i j (sg i j k) = k := by
  unfold sg
  by_cases c : i ≤ k ∧ k ≤ j
  · rw [if_pos c, if_pos (by omega)]; omega
  · rw [if_neg c, if_neg c]
theorem sg_lt {i j k n : Nat} (hj : j < n) (h : k < n) : sg i j k < n := by
  unfold sg
  split <;> omega
def turnW (i j : Nat) (w : List Str) : List Str := (List.range w.length).map fun k => w.getD (sg i j k) ""
theorem turnW_at {i j k : Nat} {w : List Str} (hj : j < w.length) (h : k < w.length) : (turnW i j w)[k]? = w[sg i j k]? := by
  unfold turnW
  rw [List.getElem?_map, List.getElem?_range h, List.getElem?_eq_getElem (sg_lt hj h)]
  show some (w.getD _ _) = _
  rw [List.getD_eq_getElem?_getD, List.getElem?_eq_getElem (sg_lt hj h)]
  rfl
section
variable {ls : List Str} {rs : List (Str × List Str)} {w : List Str} {i j : Nat}
theorem turnW_len : (turnW i j w).length = w.length := by
  unfold turnW
  rw [List.length_map, List.length_range]
theorem turnW_nd (nd : w.Nodup) (hj : j < w.length) : (turnW i j w).Nodup := by
  refine List.pairwise_iff_getElem.mpr fun a b ha hb ab e => ?_
  rw [turnW_len] at ha hb
  have h1 := turnW_at (i := i) hj ha
  have h2 := turnW_at (i := i) hj hb
  rw [List.getElem?_eq_getElem (by rw [turnW_len]; exact ha)] at h1
  rw [List.getElem?_eq_getElem (by rw [turnW_len]; exact hb)] at h2
  have q := (pos_of nd h1.symm).symm.trans ((congrArg (pos w) e).trans (pos_of nd h2.symm))
  have r := congrArg (sg i j) q
  rw [sg_sg, sg_sg] at r
  omega
theorem turnW_mem (hj : j < w.length) {x : Str} : x ∈ turnW i j w ↔ x ∈ w := by
  constructor
  · intro h
    obtain ⟨k, hk⟩ := List.mem_iff_getElem?.mp h
    have kl := (List.getElem?_eq_some_iff.mp hk).1
    rw [turnW_len] at kl
    rw [turnW_at hj kl] at hk
    exact List.mem_of_getElem? hk
  · intro h
    refine List.mem_of_getElem? (i := sg i j (pos w x)) ?_
    rw [turnW_at hj (sg_lt hj (pos_ltw h)), sg_sg, pos_at h]
theorem turnW_pos (nd : w.Nodup) (hj : j < w.length) {x : Str} (h : x ∈ w) : pos (turnW i j w) x = sg i j (pos w x) := by
  refine pos_of (turnW_nd nd hj) ?_
  rw [turnW_at hj (sg_lt hj (pos_ltw h)), sg_sg, pos_at h]
theorem turnW_perm (nd : w.Nodup) (hj : j < w.length) : (turnW i j w).Perm w := (List.perm_ext_iff_of_nodup (turnW_nd nd hj) nd).mpr fun _ => turnW_mem hj
theorem turnW_fits (fit : FitsO ls rs w) (wp : w.Perm (keysOf rs)) (nd : w.Nodup) (F : FreeI ls rs w i j) (hj : j < w.length) : FitsO ls rs (turnW i j w) := by
  intro z hz
  obtain ⟨l, r, lr, rn, iv⟩ := lamp_iv (fit z hz)
  have look : ∀ k, k < w.length → ∃ x ∈ w, pos w x = k := fun k h => ⟨w[k], List.getElem_mem h, pos_of nd (List.getElem?_eq_getElem h)⟩
  have sub : ∀ x ∈ seenOf rs z, x ∈ turnW i j w := fun x hx => (turnW_mem hj).mpr (wp.mem_iff.mpr (seen_sub hx))
  by_cases A : r ≤ i ∨ j < l ∨ l = r ∨ (l ≤ i ∧ j < r) ∨ j < i
  · refine iv_beside (turnW_nd nd hj) sub (l := l) (r := r) fun x hx => ?_
    have hx := (turnW_mem hj).mp hx
    rw [iv x hx, turnW_pos nd hj hx]
    unfold sg
    split <;> omega
  · have f : i ≤ l ∧ r ≤ j + 1 := by
      obtain ⟨x, hx, ex⟩ := look (if l ≤ i then i else l) (by split <;> omega)
      obtain ⟨y, hy, ey⟩ := look (if i < l then i else j) (by split <;> omega)
      obtain ⟨u, hu, eu⟩ := look l (by omega)
      obtain ⟨v, hv, ev⟩ := look (r - 1) (by omega)
      have xS := (iv x hx).mpr (by rw [ex]; split <;> omega)
      have yS : y ∉ seenOf rs z := fun h => by
        have := (iv y hy).mp h
        rw [ey] at this
        split at this <;> omega
      have f1 := F z hz x hx y hy u hu xS yS ((iv u hu).mpr (by omega)) (by rw [ex]; split <;> omega) (by rw [ex]; split <;> omega) (by rw [ey]; split <;> omega) (by rw [ey]; split <;> omega)
      have f2 := F z hz x hx y hy v hv xS yS ((iv v hv).mpr (by omega)) (by rw [ex]; split <;> omega) (by rw [ex]; split <;> omega) (by rw [ey]; split <;> omega) (by rw [ey]; split <;> omega)
      omega
    refine iv_beside (turnW_nd nd hj) sub (l := i + j + 1 - r) (r := i + j + 1 - l) fun x hx => ?_
    have hx := (turnW_mem hj).mp hx
    rw [iv x hx, turnW_pos nd hj hx]
    unfold sg
    split <;> omega
/-- THE CONVERSE of way_dir: pairs that stand the same way in every order that fits are tied -/
theorem tied_of_same {P Q : Pr} (fit : FitsO ls rs w) (wp : w.Perm (keysOf rs)) (nd : w.Nodup) (hP : PairOf rs P) (hQ : PairOf rs Q)
    (same : ∀ o : List Str, o.Perm (keysOf rs) → FitsO ls rs o → (pos o P.1 < pos o P.2 ↔ pos o Q.1 < pos o Q.2)) : WayL ls rs P Q := by
  have p1 := wp.mem_iff.mpr hP.1
  have p2 := wp.mem_iff.mpr hP.2.1
  have q1 := wp.mem_iff.mpr hQ.1
  have q2 := wp.mem_iff.mpr hQ.2.1
  have neP : pos w P.1 ≠ pos w P.2 := fun e => hP.2.2 (pos_inj p1 p2 e)
  have neQ : pos w Q.1 ≠ pos w Q.2 := fun e => hQ.2.2 (pos_inj q1 q2 e)
  have s0 := same w wp fit
  have ins : ∀ i j, FreeI ls rs w i j → j < w.length → (InI w i j P ↔ InI w i j Q) := fun i j F hj => by
    have s1 := same (turnW i j w) ((turnW_perm nd hj).trans wp) (turnW_fits fit wp nd F hj)
    rw [turnW_pos nd hj p1, turnW_pos nd hj p2, turnW_pos nd hj q1, turnW_pos nd hj q2] at s1
    unfold sg at s1
    unfold InI
    constructor
    · rintro ⟨a, b, c, d⟩
      rw [if_pos ⟨a, b⟩, if_pos ⟨c, d⟩] at s1
      by_cases u : i ≤ pos w Q.1 ∧ pos w Q.1 ≤ j <;> by_cases v : i ≤ pos w Q.2 ∧ pos w Q.2 ≤ j
      · omega
      · rw [if_pos u, if_neg v] at s1; omega
      · rw [if_neg u, if_pos v] at s1; omega
      · rw [if_neg u, if_neg v] at s1; omega
    · rintro ⟨a, b, c, d⟩
      rw [if_pos (c := i ≤ pos w Q.1 ∧ pos w Q.1 ≤ j) ⟨a, b⟩, if_pos (c := i ≤ pos w Q.2 ∧ pos w Q.2 ≤ j) ⟨c, d⟩] at s1
      by_cases u : i ≤ pos w P.1 ∧ pos w P.1 ≤ j <;> by_cases v : i ≤ pos w P.2 ∧ pos w P.2 ≤ j
      · omega
      · rw [if_pos u, if_neg v] at s1; omega
      · rw [if_neg u, if_pos v] at s1; omega
      · rw [if_neg u, if_neg v] at s1; omega
  rcases Nat.lt_or_ge (pos w P.1) (pos w P.2) with d | d
  · exact tied_of_hull fit wp hP hQ d (s0.mp d) ins
  · have dP : pos w P.2 < pos w P.1 := by omega
    have dQ : pos w Q.2 < pos w Q.1 := by
      rcases Nat.lt_or_ge (pos w Q.1) (pos w Q.2) with k | k
      · have := s0.mpr k; omega
      · omega
    have r := tied_of_hull (P := rev2 P) (Q := rev2 Q) fit wp ⟨hP.2.1, hP.1, hP.2.2.symm⟩ ⟨hQ.2.1, hQ.1, hQ.2.2.symm⟩ dP dQ fun i j F hj => by
      have := ins i j F hj
      unfold InI rev2 at *
      dsimp only at *
      omega
    exact r.rev
end
def srt (zs : List Str) : List Str := byText (fun z => z) zs
theorem srt_perm (zs : List Str) : (srt zs).Perm zs := perm_byText _ _
theorem srt_eq {ys zs : List Str} (p : ys.Perm zs) (h : sortedS ys = true) : ys = srt zs := (byText_eq p (sorted_pw h) fun _ _ _ _ e => e).symm
theorem srt_pw (zs : List Str) : (srt zs).Pairwise leT := byText_pw _ _
def growS (zs w : List Str) : List (List Str) := (zs.filter fun z => decide (z ∉ w)).map fun z => w ++ [z]
def permsN (zs : List Str) : Nat → List (List Str)
  | 0 => [[]]
  | t + 1 => (permsN zs t).flatMap (growS zs)
theorem mem_perms {zs : List Str} : ∀ {t : Nat} {w : List Str}, w ∈ permsN zs t ↔ w.length = t ∧ w.Nodup ∧ ∀ k ∈ w, k ∈ zs
  | 0, w => by
    show w ∈ ([[]] : List (List Str)) ↔ _
    rw [List.mem_singleton]
    constructor
    · rintro rfl; simp
    · rintro ⟨h, _⟩; exact List.eq_nil_of_length_eq_zero h
  | t + 1, w => by
    unfold permsN growS
    rw [List.mem_flatMap]
    constructor
    · rintro ⟨v, hv, h⟩
      obtain ⟨k, hk, rfl⟩ := List.mem_map.mp h
      obtain ⟨k1, k2⟩ := List.mem_filter.mp hk
      have k2 := of_decide_eq_true k2
      obtain ⟨a1, a2, a3⟩ := mem_perms.mp hv
      refine ⟨by simp [a1], List.nodup_append.mpr ⟨a2, by simp, fun a ha b hb e => k2 (by rw [List.mem_singleton] at hb; rw [← hb, ← e]; exact ha)⟩, fun j hj => ?_⟩
      rcases List.mem_append.mp hj with h | h
      · exact a3 j h
      · rw [List.mem_singleton.mp h]; exact k1
    · rintro ⟨h1, h2, h3⟩
      rcases List.eq_nil_or_concat w with rfl | ⟨v, k, rfl⟩
      · simp at h1
      · simp only [List.concat_eq_append] at h1 h2 h3 ⊢
        obtain ⟨n1, _, n3⟩ := List.nodup_append.mp h2
        refine ⟨v, mem_perms.mpr ⟨by simpa using h1, n1, fun j hj => h3 j (by simp [hj])⟩, List.mem_map.mpr ⟨k, List.mem_filter.mpr ⟨h3 k (by simp), decide_eq_true fun hk => n3 k hk k (by simp) rfl⟩, rfl⟩⟩
theorem mem_perms_all {zs w : List Str} (nd : zs.Nodup) : w ∈ permsN zs zs.length ↔ w.Perm zs := by
  rw [mem_perms]
  exact ⟨fun ⟨a, b, c⟩ => perm_of a b c nd, fun p => ⟨p.length_eq, p.nodup_iff.mpr nd, fun k hk => p.mem_iff.mp hk⟩⟩
theorem perms_nodup {zs : List Str} (nd : zs.Nodup) : ∀ t, (permsN zs t).Nodup
  | 0 => by show ([[]] : List (List Str)).Nodup; simp
  | t + 1 => by
    unfold permsN growS
    refine List.pairwise_flatMap.mpr ⟨fun w _ => ?_, ?_⟩
    · refine List.Pairwise.map _ (fun a b ne e => ne ?_) (List.Pairwise.sublist List.filter_sublist nd)
      have := List.append_cancel_left e
      simpa using this
    · refine List.Pairwise.imp (fun {w w'} ne => ?_) (perms_nodup nd t)
      intro u hu v hv e
      obtain ⟨i, _, rfl⟩ := List.mem_map.mp hu
      obtain ⟨j, _, rfl⟩ := List.mem_map.mp hv
      exact ne (List.append_inj' e rfl).1
theorem rest_lenS {zs w : List Str} (nd : w.Nodup) (sub : ∀ k ∈ w, k ∈ zs) (nz : zs.Nodup) : (zs.filter fun k => decide (k ∉ w)).length + w.length = zs.length := by
  have pp : (w ++ zs.filter fun k => decide (k ∉ w)).Perm zs := by
    refine (List.perm_ext_iff_of_nodup ?_ nz).mpr fun k => ?_
    · exact List.nodup_append.mpr ⟨nd, List.Pairwise.sublist List.filter_sublist nz, fun a ha b hb e => of_decide_eq_true (List.mem_filter.mp hb).2 (e ▸ ha)⟩
    · rw [List.mem_append, List.mem_filter]
      constructor
      · rintro (h | ⟨h, _⟩)
        · exact sub k h
        · exact h
      · intro h
        by_cases m : k ∈ w
        · exact .inl m
        · exact .inr ⟨h, decide_eq_true m⟩
  have := pp.length_eq
  rw [List.length_append] at this
  omega
theorem perms_len {zs : List Str} (nd : zs.Nodup) : ∀ t, t ≤ zs.length → (permsN zs t).length * fct (zs.length - t) = fct zs.length
  | 0, _ => by show 1 * fct (zs.length - 0) = fct zs.length; rw [Nat.one_mul, Nat.sub_zero]
  | t + 1, h => by
    have ih := perms_len nd t (by omega)
    unfold permsN
    rw [flatMap_len (n := zs.length - t) fun w hw => ?_, ← ih]
    · obtain ⟨m, hm⟩ : ∃ m, zs.length - t = m + 1 := ⟨zs.length - t - 1, by omega⟩
      rw [hm, show zs.length - (t + 1) = m by omega, Nat.mul_assoc]
      congr 1
    · obtain ⟨h1, h2, h3⟩ := mem_perms.mp hw
      unfold growS
      rw [List.length_map]
      have := rest_lenS h2 h3 nd
      omega
theorem perms_le {zs : List Str} (nd : zs.Nodup) (five : zs.length ≤ 5) {t : Nat} (h : t ≤ zs.length) : (permsN zs t).length ≤ 120 := by
  have e := perms_len nd t h
  have p := fct_pos (zs.length - t)
  have m : fct zs.length ≤ fct 5 := fct_mono five
  have f : fct 5 = 120 := by decide
  have : (permsN zs t).length * 1 ≤ (permsN zs t).length * fct (zs.length - t) := Nat.mul_le_mul_left _ p
  omega
structure TxtPm (mg : Str → Option Value) : Prop where
  len : mg "len" = none
  list : mg "list" = none
  range : mg "range" = none
  sorted : mg "sorted" = none
def spPerms (K : PySem.W.Frag) : Sp := fun vs H Q _ => ∃ (a : Addr) (zs : List Str), vs = [.ref a] ∧ H a = some (.lst (zs.map V.str)) ∧ zs.Nodup ∧ zs.length ≤ 5 ∧ ∀ H' p M, Same H H' → H p = none → OrdIn K H' p M → M.map (·.2) = permsN (srt zs) zs.length → Q (.ref p) H'
section
variable {P : Program} {w : World} {K : PySem.W.Frag} {mg : Str → Option Value} {base : Heap}
theorem scPerms : FnScope ["_law_names_here", "_law_found", "_law_turn", "_law_longer", "_law_order", "_law_name_here"] ["_law_names_here"] (defScope sLawPerms) := ⟨rfl, rfl, rfl, by decide +kernel, rfl, by decide +kernel, by decide +kernel⟩
theorem ok_perms {f : Addr} {fd : FuncData} (F : Fun K "_law_perms" "_law_perms" sLawPerms f fd) (T : TxtPm mg) : FnOk P w K mg base CX0 1 f fd ["_law_names_here"] (spPerms K) := by
  refine F.ok scPerms (fun vs H Q E h => ?_) (fun cdv A outer s H vs Q E hr h => ?_)
  · obtain ⟨a, zs, rfl, _⟩ := h
    rfl
  · obtain ⟨a, zs, rfl, ha, nd, five, k⟩ := h
    refine ⟨_, (pss_cons (ps_set (i := 1) scPerms.nd rfl (Or.inl rfl) (pe_lst (pa_cons (pe_tup pa_nil) pa_nil)))
        (pss_cons (ps_for PassesOwn.never rfl (pi_range1 (by rfl) T.range (pa_cons (pe_callB call_len_seq (by rfl) T.len PySem.boot_len (pa_cons (pv 0) pa_nil)) pa_nil)) (pg_name (i := 2) scPerms.nd rfl (Or.inl rfl)) (pss_cons (ps_set (i := 3) scPerms.nd rfl (Or.inl rfl) (pe_lst pa_nil))
        (pss_cons (ps_for PassesOwn.never rfl (pi_list (pv 1)) (pg_name (i := 4) scPerms.nd rfl (Or.inr rfl)) (pss_one (ps_expr (pe_bm PySem.F.plainAttrs_list PySem.F.slot_list_extend PySem.F.type_list_extend mt_extend (pv 3) (pa_cons (pe_lc (own := [("_law_name_here", 5)]) (g := gName 5) rfl scPerms.nd (pi_list (pe_callB cr_sortedS (by rfl) T.sorted (by decide +kernel) (pa_cons (pv 0) pa_nil))) (blkOk_by (N := ["_law_names_here", "_law_found", "_law_turn", "_law_longer", "_law_order", "_law_name_here"]) (sc := defScope sLawPerms) (by decide +kernel)) (fun _ _ _ _ _ => (pg_name (i := 5) scPerms.nd rfl (Or.inl rfl))) (fun _ _ _ _ _ => (pts_one (pt_cmpR (by exact op_notIn_seq : OpR _ _ (rIn K true)) (pv 5) (pv 4) (by rfl)))) (fun _ _ _ _ _ => (pe_op (by exact op_catW : OpR _ _ (rCatW K)) (pv 4) (pe_tup (pa_cons (pv 5) pa_nil))))) pa_nil)))))
        (pss_one (ps_set (i := 1) scPerms.nd rfl (Or.inl rfl) (pe_callTy call_list_of (by rfl) T.list (by decide +kernel) (pa_cons (pv 3) pa_nil)))))))
        (pss_one (ps_ret (pv 1))))), ?_⟩
    have nds : (srt zs).Nodup := (srt_perm zs).nodup_iff.mpr nd
    have sl : (srt zs).length = zs.length := (srt_perm zs).length_eq
    have nn : (((zs.map V.str).length : Nat) : Int).toNat = zs.length := by rw [List.length_map]; omega
    refine ⟨by show 0 ≤ sizeLine; decide, fun e0 he0 => ⟨by show 1 ≤ sizeLine; decide, fun f0 hf0 => ?_⟩⟩
    have s0 := (Same.upd_new he0 (o := .tup [])).trans (Same.upd_new hf0 (o := .lst [V.ref e0]))
    have nf0 : H f0 = none := (Same.upd_new he0 (o := .tup [])).free hf0
    have w0 : OrdIn K (upd (upd H e0 (.tup [])) f0 (.lst [V.ref e0])) f0 [(e0, [])] := ⟨upd_same, fun q hq => by
      rw [List.mem_singleton.mp hq]
      exact SqT.of ((Same.upd_new hf0) _ _ upd_same)⟩
    generalize upd (upd H e0 (.tup [])) f0 (.lst [V.ref e0]) = H0 at *
    refine ⟨_, rfl, a, _, rfl, .inl (SqL.of (s0 _ _ ha)), _, rfl, by omega, by rw [List.length_map]; omega, for_range (lo := 0) (n := (((zs.map V.str).length : Nat) : Int).toNat) (fun t σ H' => ∃ fa M x2 x3 x4, σ = [some (.ref a), some (.ref fa), x2, x3, x4, none] ∧ Same H H' ∧ H fa = none ∧ OrdIn K H' fa M ∧ M.map (·.2) = permsN (srt zs) t)
      ⟨f0, _, none, none, none, rfl, s0, nf0, w0, rfl⟩ ?_ ?_⟩
    · rintro t σ H1 ht ⟨fa, M, x2, x3, x4, rfl, s1, nfa, w1, eM⟩
      rw [nn] at ht
      refine ⟨Nat.zero_le _, fun D hD => ?_⟩
      have wl1 := perms_le nds (by omega) (t := t) (by omega)
      have wl2 := perms_le nds (by omega) (t := t + 1) (by omega)
      have eW : permsN (srt zs) (t + 1) = M.flatMap fun q => growS (srt zs) q.2 := by
        show (permsN (srt zs) t).flatMap (growS (srt zs)) = _
        rw [← eM, List.flatMap_map]
      rw [← eM, List.length_map] at wl1
      refine ⟨_, rfl, fa, rfl, ⟨_, SqL.of ((Same.upd_new hD) _ _ w1.lst)⟩, for_it (walk_list (K := K) (a := fa) (xs := M.map fun q => V.ref q.1)) (fun j σ H' => ∃ M' x4, σ = [some (.ref a), some (.ref fa), some (.int (0 + (t : Nat))), some (.ref D), x4, none] ∧ OrdOut K H1 H' D M' ∧ M'.map (·.2) = (M.take j).flatMap fun q => growS (srt zs) q.2)
        ⟨[], x4, rfl, OrdOut.nil hD, rfl⟩ (fun j σ H' _ ⟨_, _, _, h, _⟩ => SqL.of (h.same _ _ w1.lst)) ?_ ?_⟩
      · rintro j v σ H2 H3 hj ⟨M', x4, rfl, w2, eM'⟩ ⟨rfl, hv⟩
        obtain ⟨q, hq, hqm, rfl⟩ := ord_at hv
        have hq2 := Same.tup w2.same (w1.all q hqm)
        obtain ⟨ql, _, _⟩ := mem_perms.mp (show q.2 ∈ permsN (srt zs) t by rw [← eM]; exact List.mem_map_of_mem hqm)
        have e1 : (M.take (j + 1)).flatMap (fun q => growS (srt zs) q.2) = (M.take j).flatMap (fun q => growS (srt zs) q.2) ++ growS (srt zs) q.2 := by rw [take_one hq, List.flatMap_append, List.flatMap_cons, List.flatMap_nil, List.append_nil]
        have l1 : ((M.take (j + 1)).flatMap fun q => growS (srt zs) q.2).length ≤ 120 := by
          have := flatMap_part (fun q : Addr × List Str => growS (srt zs) q.2) M (j + 1)
          rw [← eW] at this
          omega
        refine ⟨_, rfl, .inl ⟨rfl, _, SqL.of w2.at_.lst⟩, _, rfl, a, zs, rfl, SqL.of (w2.same _ _ (s1 _ _ ha)), by omega, fun ys g yp ysd hg => ⟨g, rfl, ⟨_, SqL.of upd_same⟩, fun E hE => ?_⟩⟩
        obtain rfl := srt_eq yp ysd
        have sg := Same.upd_new hg (o := .lst ((srt zs).map V.str))
        have hg1 := upd_same (H := H3) (a := g) (o := .lst ((srt zs).map V.str))
        have w2 := w2.of sg
        have hq2 := Same.tup sg hq2
        generalize upd H3 g (.lst ((srt zs).map V.str)) = H4 at *
        refine lc_it (walk_list (K := K) (a := g) (xs := (srt zs).map V.str)) (fun i H' => ∃ N, OrdOut K H4 H' E N ∧ N.map (·.2) = growS ((srt zs).take i) q.2) ⟨[], OrdOut.nil hE, rfl⟩ (fun i H' _ ⟨_, h, _⟩ => SqL.of (h.same _ _ hg1)) ?_ ?_
        · rintro i v H5 H6 hi ⟨N, w4, eN⟩ ⟨rfl, hv⟩
          obtain ⟨z, hz, hzm, rfl⟩ := st_at hv
          have hq4 := Same.tup w4.same hq2
          refine ⟨rfl, _, rfl, _, rfl, q.1, _, rfl, .inr hq4, rfl, flat_strs q.2, _, rfl, ?_⟩
          show if (!inV (.str z) (q.2.map V.str)) = true then _ else _
          rw [inV_str]
          have nl : N.length ≤ i := by
            have := congrArg List.length eN
            unfold growS at this
            rw [List.length_map, List.length_map] at this
            have l2 := List.length_filter_le (fun k => decide (k ∉ q.2)) ((srt zs).take i)
            rw [List.length_take] at l2
            omega
          rw [List.length_map] at hi
          by_cases m : z ∈ q.2
          · refine iteZ (by rw [decide_eq_true m]; rfl) ⟨N, w4, ?_⟩
            unfold growS at eN ⊢
            rw [eN, take_one hz, List.filter_append, List.filter_cons_of_neg (by simpa using m), List.filter_nil, List.append_nil]
          · refine iteY (by rw [decide_eq_false m]; rfl) ?_
            refine ⟨_, rfl, _, rfl, by show 1 ≤ sizeLine; decide, fun r hr0 => ⟨q.1, r, _, _, rfl, rfl, Same.tup (Same.upd_new hr0) hq4, SqT.of upd_same, ?_, fun H7 p s7 hp => ?_⟩⟩
            · rw [List.length_map, ql]; exact Nat.le_of_lt (small1000 (by show t + 1 ≤ 1000; omega))
            · have s5 := (Same.upd_new hr0 (o := .tup [V.str z])).trans s7
              have w5 := w4.of s5
              refine ⟨_, w5.at_.lst, ?_, N ++ [(p, q.2 ++ [z])], w5.put (N := [(p, q.2 ++ [z])]) fun x hx => ?_, ?_⟩
              · rw [List.length_map]; exact small1000 (by omega)
              · rw [List.mem_singleton.mp hx]
                show SqT K H7 p ((q.2 ++ [z]).map V.str)
                rw [List.map_append]
                exact hp
              · unfold growS at eN ⊢
                rw [List.map_append, eN, take_one hz, List.filter_append, List.filter_cons_of_pos (by simpa using m), List.filter_nil, List.map_append]
                rfl
        · rintro H5 ⟨N, w4, eN⟩
          rw [List.length_map, List.take_length] at eN
          have w24 := w2.of w4.same
          have lens : M'.length + N.length ≤ 120 := by
            have a := congrArg List.length eM'
            have b : N.length = (growS (srt zs) q.2).length := by rw [← List.length_map (f := (·.2)) (as := N), eN]
            rw [List.length_map] at a
            rw [e1, List.length_append] at l1
            omega
          refine ⟨D, E, _, _, rfl, rfl, w24.at_.lst, w4.at_.lst, ?_, M' ++ N, some (.ref q.1), rfl, w24.put fun x hx => w4.at_.all x hx, ?_⟩
          · rw [List.length_map, List.length_map]; exact Nat.le_of_lt (small1000 (by omega))
          · rw [List.map_append, eM', e1, eN]
      · rintro σ H2 ⟨M', x4, rfl, w2, eM'⟩
        rw [List.length_map, List.take_length, ← eW] at eM'
        refine ⟨_, rfl, D, _, rfl, .inl (SqL.of w2.at_.lst), fun l hl => ⟨l, M', _, _, _, rfl, s1.trans (w2.same.trans (Same.upd_new hl)), s1.free (w2.same.free hl), ⟨upd_same, fun q hq => Same.tup (Same.upd_new hl) (w2.at_.all q hq)⟩, eM'⟩⟩
    · rintro σ H1 ⟨fa, M, x2, x3, x4, rfl, s1, nfa, w1, eM⟩
      rw [nn] at eM
      exact ⟨_, rfl, k _ fa M s1 nfa w1 eM⟩
end
structure OrdInF (K : PySem.W.Frag) (H : Hp) (p : Addr) (M : OrdL) : Prop where
  lst : H p = some (.lst (M.map fun q => V.ref q.1))
  all : ∀ q ∈ M, TupG K H q.1 (q.2.map V.str)
theorem OrdInF.of {K : PySem.W.Frag} {H H' : Hp} {p : Addr} {M : OrdL} (h : OrdInF K H p M) (s : Same H H') : OrdInF K H' p M := ⟨s _ _ h.lst, fun q hq => (h.all q hq).of s⟩
/-- a list at D that grows, made since H0 -/
structure OrdOutF (K : PySem.W.Frag) (H0 H : Hp) (D : Addr) (M : OrdL) : Prop where
  same : Same H0 H
  at_ : OrdInF K H D M
  new : H0 D = none
theorem upd_tupG {K : PySem.W.Frag} {H : Hp} {D a : Addr} {xs ys zs : List V} (hD : H D = some (.lst ys)) (h : TupG K H a xs) : TupG K (upd H D (.lst zs)) a xs := ⟨upd_tup hD h.1, fun n => by
  obtain ⟨ob, d, e⟩ := h.2 n
  exact ⟨ob, d, by rw [upd_ne (fun q => by rw [q, hD] at e; cases e)]; exact e⟩⟩
theorem TupG.ofB {K : PySem.W.Frag} {H H' : Hp} {b a : Addr} {xs us : List V} (h : TupG K H a xs) (s : SameB b H H') (hb : H b = some (.lst us)) : TupG K H' a xs := ⟨sameB_tup s hb h.1, fun n => by
  obtain ⟨ob, d, e⟩ := h.2 n
  exact ⟨ob, d, s _ _ (fun q => by rw [q, hb] at e; cases e) e⟩⟩
theorem OrdOutF.nil {K : PySem.W.Frag} {H0 : Hp} {D : Addr} (h : H0 D = none) : OrdOutF K H0 (upd H0 D (.lst [])) D [] := ⟨Same.upd_new h, ⟨upd_same, fun q hq => absurd hq (by simp)⟩, h⟩
theorem OrdOutF.of {K : PySem.W.Frag} {H0 H H' : Hp} {D : Addr} {M : OrdL} (h : OrdOutF K H0 H D M) (s : Same H H') : OrdOutF K H0 H' D M := ⟨h.same.trans s, h.at_.of s, h.new⟩
theorem OrdOutF.put {K : PySem.W.Frag} {H0 H : Hp} {D : Addr} {M N : OrdL} (h : OrdOutF K H0 H D M) (n : ∀ q ∈ N, TupG K H q.1 (q.2.map V.str)) : OrdOutF K H0 (upd H D (.lst ((M.map fun q => V.ref q.1) ++ N.map fun q => V.ref q.1))) D (M ++ N) := by
  refine ⟨fun a o e => ?_, ⟨?_, fun q hq => ?_⟩, h.new⟩
  · rw [upd_ne (ne_of_none e h.new)]; exact h.same _ _ e
  · rw [upd_same, List.map_append]
  · rcases List.mem_append.mp hq with m | m
    · exact upd_tupG h.at_.lst (h.at_.all q m)
    · exact upd_tupG h.at_.lst (n q m)
def spPermsF (K : PySem.W.Frag) : Sp := fun vs H Q _ => ∃ (a : Addr) (zs : List Str), vs = [.ref a] ∧ H a = some (.lst (zs.map V.str)) ∧ zs.Nodup ∧ zs.length ≤ 5 ∧ ∀ H' p M, Same H H' → H p = none → OrdInF K H' p M → M.map (·.2) = permsN (srt zs) zs.length → Q (.ref p) H'
section
variable {P : Program} {w : World} {K : PySem.W.Frag} {mg : Str → Option Value} {base : Heap}
theorem scPermsF : FnScope ["_law_names_here", "_law_found", "_law_turn", "_law_longer", "_law_order", "_law_name_here"] ["_law_names_here"] (defScope sLawPerms) := ⟨rfl, rfl, rfl, by decide +kernel, rfl, by decide +kernel, by decide +kernel⟩
theorem ok_permsF {f : Addr} {fd : FuncData} (F : Fun K "_law_perms" "_law_perms" sLawPerms f fd) (T : TxtPm mg) : FnOk P w K mg base CX0 1 f fd ["_law_names_here"] (spPermsF K) := by
  refine F.ok scPermsF (fun vs H Q E h => ?_) (fun cdv A outer s H vs Q E hr h => ?_)
  · obtain ⟨a, zs, rfl, _⟩ := h
    rfl
  · obtain ⟨a, zs, rfl, ha, nd, five, k⟩ := h
    refine ⟨_, (pss_cons (ps_set (i := 1) scPermsF.nd rfl (Or.inl rfl) (pe_lst (pa_cons (pe_tup pa_nil) pa_nil)))
        (pss_cons (ps_for PassesOwn.never rfl (pi_range1 (by rfl) T.range (pa_cons (pe_callB call_len_seq (by rfl) T.len PySem.boot_len (pa_cons (pv 0) pa_nil)) pa_nil)) (pg_name (i := 2) scPermsF.nd rfl (Or.inl rfl)) (pss_cons (ps_set (i := 3) scPermsF.nd rfl (Or.inl rfl) (pe_lst pa_nil))
        (pss_cons (ps_for PassesOwn.never rfl (pi_list (pv 1)) (pg_name (i := 4) scPermsF.nd rfl (Or.inr rfl)) (pss_one (ps_expr (pe_bm PySem.F.plainAttrs_list PySem.F.slot_list_extend PySem.F.type_list_extend mt_extend (pv 3) (pa_cons (pe_lc (own := [("_law_name_here", 5)]) (g := gName 5) rfl scPermsF.nd (pi_list (pe_callB cr_sortedS (by rfl) T.sorted (by decide +kernel) (pa_cons (pv 0) pa_nil))) (blkOk_by (N := ["_law_names_here", "_law_found", "_law_turn", "_law_longer", "_law_order", "_law_name_here"]) (sc := defScope sLawPerms) (by decide +kernel)) (fun _ _ _ _ _ => (pg_name (i := 5) scPermsF.nd rfl (Or.inl rfl))) (fun _ _ _ _ _ => (pts_one (pt_cmpR (by exact op_notIn_seq : OpR _ _ (rIn K true)) (pv 5) (pv 4) (by rfl)))) (fun _ _ _ _ _ => (pe_op (by exact op_catTF : OpR _ _ (rCatF K)) (pv 4) (pe_tupF (pa_cons (pv 5) pa_nil))))) pa_nil)))))
        (pss_one (ps_set (i := 1) scPermsF.nd rfl (Or.inl rfl) (pe_callTy call_list_of (by rfl) T.list (by decide +kernel) (pa_cons (pv 3) pa_nil)))))))
        (pss_one (ps_ret (pv 1))))), ?_⟩
    have nds : (srt zs).Nodup := (srt_perm zs).nodup_iff.mpr nd
    have sl : (srt zs).length = zs.length := (srt_perm zs).length_eq
    have nn : (((zs.map V.str).length : Nat) : Int).toNat = zs.length := by rw [List.length_map]; omega
    refine ⟨by show 0 ≤ sizeLine; decide, fun e0 he0 => ⟨by show 1 ≤ sizeLine; decide, fun f0 hf0 => ?_⟩⟩
    have s0 := (Same.upd_new he0 (o := .tup [])).trans (Same.upd_new hf0 (o := .lst [V.ref e0]))
    have nf0 : H f0 = none := (Same.upd_new he0 (o := .tup [])).free hf0
    have w0 : OrdInF K (upd (upd H e0 (.tup [])) f0 (.lst [V.ref e0])) f0 [(e0, [])] := ⟨upd_same, fun q hq => by
      rw [List.mem_singleton.mp hq]
      exact ⟨SqT.of ((Same.upd_new hf0) _ _ upd_same), fun n => absurd rfl n⟩⟩
    generalize upd (upd H e0 (.tup [])) f0 (.lst [V.ref e0]) = H0 at *
    refine ⟨_, rfl, a, _, rfl, .inl (SqL.of (s0 _ _ ha)), _, rfl, by omega, by rw [List.length_map]; omega, for_range (lo := 0) (n := (((zs.map V.str).length : Nat) : Int).toNat) (fun t σ H' => ∃ fa M x2 x3 x4, σ = [some (.ref a), some (.ref fa), x2, x3, x4, none] ∧ Same H H' ∧ H fa = none ∧ OrdInF K H' fa M ∧ M.map (·.2) = permsN (srt zs) t)
      ⟨f0, _, none, none, none, rfl, s0, nf0, w0, rfl⟩ ?_ ?_⟩
    · rintro t σ H1 ht ⟨fa, M, x2, x3, x4, rfl, s1, nfa, w1, eM⟩
      rw [nn] at ht
      refine ⟨Nat.zero_le _, fun D hD => ?_⟩
      have wl1 := perms_le nds (by omega) (t := t) (by omega)
      have wl2 := perms_le nds (by omega) (t := t + 1) (by omega)
      have eW : permsN (srt zs) (t + 1) = M.flatMap fun q => growS (srt zs) q.2 := by
        show (permsN (srt zs) t).flatMap (growS (srt zs)) = _
        rw [← eM, List.flatMap_map]
      rw [← eM, List.length_map] at wl1
      refine ⟨_, rfl, fa, rfl, ⟨_, SqL.of ((Same.upd_new hD) _ _ w1.lst)⟩, for_it (walk_list (K := K) (a := fa) (xs := M.map fun q => V.ref q.1)) (fun j σ H' => ∃ M' x4, σ = [some (.ref a), some (.ref fa), some (.int (0 + (t : Nat))), some (.ref D), x4, none] ∧ OrdOutF K H1 H' D M' ∧ M'.map (·.2) = (M.take j).flatMap fun q => growS (srt zs) q.2)
        ⟨[], x4, rfl, OrdOutF.nil hD, rfl⟩ (fun j σ H' _ ⟨_, _, _, h, _⟩ => SqL.of (h.same _ _ w1.lst)) ?_ ?_⟩
      · rintro j v σ H2 H3 hj ⟨M', x4, rfl, w2, eM'⟩ ⟨rfl, hv⟩
        obtain ⟨q, hq, hqm, rfl⟩ := ord_at hv
        have hq2 := (w1.all q hqm).of w2.same
        obtain ⟨ql, _, _⟩ := mem_perms.mp (show q.2 ∈ permsN (srt zs) t by rw [← eM]; exact List.mem_map_of_mem hqm)
        have e1 : (M.take (j + 1)).flatMap (fun q => growS (srt zs) q.2) = (M.take j).flatMap (fun q => growS (srt zs) q.2) ++ growS (srt zs) q.2 := by rw [take_one hq, List.flatMap_append, List.flatMap_cons, List.flatMap_nil, List.append_nil]
        have l1 : ((M.take (j + 1)).flatMap fun q => growS (srt zs) q.2).length ≤ 120 := by
          have := flatMap_part (fun q : Addr × List Str => growS (srt zs) q.2) M (j + 1)
          rw [← eW] at this
          omega
        refine ⟨_, rfl, .inl ⟨rfl, _, SqL.of w2.at_.lst⟩, _, rfl, a, zs, rfl, SqL.of (w2.same _ _ (s1 _ _ ha)), by omega, fun ys g yp ysd hg => ⟨g, rfl, ⟨_, SqL.of upd_same⟩, fun E hE => ?_⟩⟩
        obtain rfl := srt_eq yp ysd
        have sg := Same.upd_new hg (o := .lst ((srt zs).map V.str))
        have hg1 := upd_same (H := H3) (a := g) (o := .lst ((srt zs).map V.str))
        have w2 := w2.of sg
        have hq2 := hq2.of sg
        generalize upd H3 g (.lst ((srt zs).map V.str)) = H4 at *
        refine lc_it (walk_list (K := K) (a := g) (xs := (srt zs).map V.str)) (fun i H' => ∃ N, OrdOutF K H4 H' E N ∧ N.map (·.2) = growS ((srt zs).take i) q.2) ⟨[], OrdOutF.nil hE, rfl⟩ (fun i H' _ ⟨_, h, _⟩ => SqL.of (h.same _ _ hg1)) ?_ ?_
        · rintro i v H5 H6 hi ⟨N, w4, eN⟩ ⟨rfl, hv⟩
          obtain ⟨z, hz, hzm, rfl⟩ := st_at hv
          have hq4 := hq2.of w4.same
          refine ⟨rfl, _, rfl, _, rfl, q.1, _, rfl, .inr hq4.1, rfl, flat_strs q.2, _, rfl, ?_⟩
          show if (!inV (.str z) (q.2.map V.str)) = true then _ else _
          rw [inV_str]
          have nl : N.length ≤ i := by
            have := congrArg List.length eN
            unfold growS at this
            rw [List.length_map, List.length_map] at this
            have l2 := List.length_filter_le (fun k => decide (k ∉ q.2)) ((srt zs).take i)
            rw [List.length_take] at l2
            omega
          rw [List.length_map] at hi
          by_cases m : z ∈ q.2
          · refine iteZ (by rw [decide_eq_true m]; rfl) ⟨N, w4, ?_⟩
            unfold growS at eN ⊢
            rw [eN, take_one hz, List.filter_append, List.filter_cons_of_neg (by simpa using m), List.filter_nil, List.append_nil]
          · refine iteY (by rw [decide_eq_false m]; rfl) ?_
            refine ⟨_, rfl, _, rfl, by show 1 ≤ sizeLine; decide, fun r ob hr0 hob => ⟨q.1, r, _, _, rfl, rfl, (hq4.of (Same.upd_new hr0)).1, ⟨ob, hob, upd_same⟩, by simp, ?_, fun H7 p s7 hp => ?_⟩⟩
            · rw [List.length_map, ql]; exact Nat.le_of_lt (small1000 (by show t + 1 ≤ 1000; omega))
            · have s5 := (Same.upd_new hr0 (o := .frz ob (.tup [V.str z]))).trans s7
              have w5 := w4.of s5
              refine ⟨_, w5.at_.lst, ?_, N ++ [(p, q.2 ++ [z])], w5.put (N := [(p, q.2 ++ [z])]) fun x hx => ?_, ?_⟩
              · rw [List.length_map]; exact small1000 (by omega)
              · rw [List.mem_singleton.mp hx]
                show TupG K H7 p ((q.2 ++ [z]).map V.str)
                rw [List.map_append]
                exact hp.g
              · unfold growS at eN ⊢
                rw [List.map_append, eN, take_one hz, List.filter_append, List.filter_cons_of_pos (by simpa using m), List.filter_nil, List.map_append]
                rfl
        · rintro H5 ⟨N, w4, eN⟩
          rw [List.length_map, List.take_length] at eN
          have w24 := w2.of w4.same
          have lens : M'.length + N.length ≤ 120 := by
            have a := congrArg List.length eM'
            have b : N.length = (growS (srt zs) q.2).length := by rw [← List.length_map (f := (·.2)) (as := N), eN]
            rw [List.length_map] at a
            rw [e1, List.length_append] at l1
            omega
          refine ⟨D, E, _, _, rfl, rfl, w24.at_.lst, w4.at_.lst, ?_, M' ++ N, some (.ref q.1), rfl, w24.put fun x hx => w4.at_.all x hx, ?_⟩
          · rw [List.length_map, List.length_map]; exact Nat.le_of_lt (small1000 (by omega))
          · rw [List.map_append, eM', e1, eN]
      · rintro σ H2 ⟨M', x4, rfl, w2, eM'⟩
        rw [List.length_map, List.take_length, ← eW] at eM'
        refine ⟨_, rfl, D, _, rfl, .inl (SqL.of w2.at_.lst), fun l hl => ⟨l, M', _, _, _, rfl, s1.trans (w2.same.trans (Same.upd_new hl)), s1.free (w2.same.free hl), ⟨upd_same, fun q hq => (w2.at_.all q hq).of (Same.upd_new hl)⟩, eM'⟩⟩
    · rintro σ H1 ⟨fa, M, x2, x3, x4, rfl, s1, nfa, w1, eM⟩
      rw [nn] at eM
      exact ⟨_, rfl, k _ fa M s1 nfa w1 eM⟩
end
end Dl

/-! _law_keeps of no pairs, _law_good -/
namespace Dl
open PySem PySem.Spec PyProof.Rows L2
def spKeeps0 : Sp := fun vs H Q _ => ∃ p o : Addr, vs = [.ref p, .ref o] ∧ H p = some (.lst []) ∧ Q (.bl true) H
def goodL (ls : List Str) (rs : List (Str × List Str)) : List (List Str) := (permsN (srt (keysOf rs)) (keysOf rs).length).filter (fitsB ls rs)
theorem good_mem {ls : List Str} {rs : List (Str × List Str)} (nd : (keysOf rs).Nodup) {w : List Str} : w ∈ goodL ls rs ↔ w.Perm (keysOf rs) ∧ FitsO ls rs w := by
  have nds : (srt (keysOf rs)).Nodup := (srt_perm _).nodup_iff.mpr nd
  have sl : (srt (keysOf rs)).length = (keysOf rs).length := (srt_perm _).length_eq
  have mem : w ∈ permsN (srt (keysOf rs)) (keysOf rs).length ↔ w.Perm (keysOf rs) := by
    rw [← sl, mem_perms_all nds]
    exact ⟨fun h => h.trans (srt_perm _), fun h => h.trans (srt_perm _).symm⟩
  unfold goodL
  rw [List.mem_filter, mem]
  exact ⟨fun ⟨a, b⟩ => ⟨a, (fits_iff nd a).mp b⟩, fun ⟨a, b⟩ => ⟨a, (fits_iff nd a).mpr b⟩⟩
def spGood (K : PySem.W.Frag) : Sp := fun vs H Q _ => ∃ (l R p : Addr) (ls : List Str) (rs : List (Str × List Str)), vs = [.ref l, .ref R, .ref p] ∧ H l = some (.lst (ls.map V.str)) ∧ RowsS H R rs ∧ rs.length ≤ 5 ∧ (keysOf rs).Nodup ∧ H p = some (.lst []) ∧
  ∀ H' g M, Same H H' → H g = none → OrdInF K H' g M → M.map (·.2) = goodL ls rs → M.length ≤ 120 → Q (.ref g) H'
section
variable {P : Program} {w : World} {K : PySem.W.Frag} {mg : Str → Option Value} {base : Heap}
theorem scKeeps0 : FnScope ["_law_pairs", "_law_order", "_law_pair_here"] ["_law_pairs", "_law_order"] (defScope sLawKeeps) := ⟨rfl, rfl, rfl, by decide +kernel, rfl, by decide +kernel, by decide +kernel⟩
theorem ok_keeps0 {f : Addr} {fd : FuncData} (F : Fun K "_law_keeps" "_law_keeps" sLawKeeps f fd) : FnOk P w K mg base CX0 1 f fd ["_law_pairs", "_law_order"] spKeeps0 := by
  refine F.ok scKeeps0 (fun vs H Q E h => ?_) (fun cdv A outer s H vs Q E hr h => ?_)
  · obtain ⟨p, o, rfl, _⟩ := h
    rfl
  · obtain ⟨p, o, rfl, hp, k⟩ := h
    refine ⟨_, (pss_cons (ps_for PassesOwn.never rfl (pi_list (pv 0)) (pg_name (i := 2) scKeeps0.nd rfl (Or.inl rfl)) (pss_one (ps_if (pt_cmpR op_gt (pe_bmF PySem.F.plainAttrs_tuple PySem.F.slot_tuple_index PySem.F.type_tuple_index mt_indexT (pv 1) (pa_cons (pe_ix ix_tup (pv 2) pe_int (fun _ _ => rfl)) pa_nil)) (pe_bmF PySem.F.plainAttrs_tuple PySem.F.slot_tuple_index PySem.F.type_tuple_index mt_indexT (pv 1) (pa_cons (pe_ix ix_tup (pv 2) pe_int (fun _ _ => rfl)) pa_nil)) (nomark _)) (pss_one (ps_ret pe_bl)) pss_nil)))
        (pss_one (ps_ret pe_bl))), ?_⟩
    refine ⟨_, rfl, p, rfl, ⟨_, SqL.of hp⟩, for_it (walk_list (K := K) (a := p) (xs := [])) (fun i σ H' => σ = [some (.ref p), some (.ref o), none] ∧ H' = H) ⟨rfl, rfl⟩ (fun i σ H' _ ⟨_, e⟩ => by rw [e]; exact SqL.of hp) ?_ ?_⟩
    · rintro i v σ H1 H2 hi _ _
      exact absurd hi (Nat.not_lt_zero _)
    · rintro σ H1 ⟨rfl, rfl⟩
      exact k
theorem scGood : FnScope ["_law_lamps", "_law_rows", "_law_pairs", "_law_found", "_law_order", "_law_row"] ["_law_lamps", "_law_rows", "_law_pairs"] (defScope sLawGood) := ⟨rfl, rfl, rfl, by decide +kernel, rfl, by decide +kernel, by decide +kernel⟩
theorem ok_good {f : Addr} {fd : FuncData} (F : Fun K "_law_good" "_law_good" sLawGood f fd) (gP : Dfn P w K mg base CX0 1 "_law_perms" ["_law_names_here"] (spPermsF K)) (gK : Dfn P w K mg base CX0 1 "_law_keeps" ["_law_pairs", "_law_order"] spKeeps0)
    (gF : Dfn P w K mg base CX0 2 "_law_fits_order" ["_law_lamps", "_law_rows", "_law_order"] (spFits K)) : FnOk P w K mg base CX0 3 f fd ["_law_lamps", "_law_rows", "_law_pairs"] (spGood K) := by
  obtain ⟨fP, dP, mP, kP, bP, GP⟩ := gP
  obtain ⟨fK, dK, mK, kK, bK, GK⟩ := gK
  obtain ⟨fF, dF, mF, kF, bF, GF⟩ := gF
  refine F.ok scGood (fun vs H Q E h => ?_) (fun cdv A outer s H vs Q E hr h => ?_)
  · obtain ⟨l, R, p, ls, rs, rfl, _⟩ := h
    rfl
  · obtain ⟨l, R, p, ls, rs, rfl, hl0, hR0, few, nd, hp0, k⟩ := h
    have hr1 : Room 1 _ := hr.mono (by decide)
    have hr2 : Room 2 _ := hr
    refine ⟨_, (pss_cons (ps_set (i := 3) scGood.nd rfl (Or.inl rfl) (pe_lst pa_nil))
        (pss_cons (ps_for PassesOwn.never rfl (pi_list (pe_call GP hr1 (by rfl) mP kP bP .nil pass0 (pa_cons (pe_lc (own := [("_law_row", 5)]) (g := gName 5) (tt := tYes) (te := tOp (rIxT K) (tVar 5) (tC (.int 0))) rfl scGood.nd (pi_list (pv 1)) (blkOk_by (N := ["_law_lamps", "_law_rows", "_law_pairs", "_law_found", "_law_order", "_law_row"]) (sc := defScope sLawGood) (by decide +kernel)) (fun _ _ _ _ _ => pg_name (i := 5) scGood.nd rfl (Or.inl rfl)) (fun _ _ _ _ _ => pts_nil) (fun _ _ _ _ _ => pe_ix (by exact ix_tup : IxR _ (rIxT K)) (pv 5) pe_int (fun _ _ => rfl))) pa_nil))) (pg_name (i := 4) scGood.nd rfl (Or.inl rfl)) (pss_one (ps_if (PW.pt (pw_and (pt_val (pe_call GK hr1 (by rfl) mK kK bK .nil pass0 (pa_cons (pv 2) (pa_cons (pv 4) pa_nil)))) (pw_and1 (pt_val (pe_call GF hr2 (by rfl) mF kF bF .nil pass0 (pa_cons (pv 0) (pa_cons (pv 1) (pa_cons (pv 4) pa_nil)))))))) (pss_one (ps_expr (pe_bm PySem.F.plainAttrs_list PySem.F.slot_list_append PySem.F.type_list_append mt_append (pv 3) (pa_cons (pv 4) pa_nil)))) pss_nil)))
        (pss_one (ps_ret (pv 3))))), ?_⟩
    refine ⟨Nat.zero_le _, fun g hg => ?_⟩
    have s0 := Same.upd_new hg (o := .lst ([] : List V))
    have w0 : OrdOutF K H (upd H g (.lst [])) g [] := OrdOutF.nil hg
    have hl := s0 _ _ hl0
    have hR := hR0.of s0
    have hp := s0 _ _ hp0
    generalize upd H g (.lst ([] : List V)) = H0 at *
    obtain ⟨rows, hRl, hrows, edat⟩ := id hR.ex
    have lr : rows.length = rs.length := by
      have := congrArg List.length edat
      rwa [List.length_map, List.length_map] at this
    have lref : (refsOf rows).length = rows.length := List.length_map _
    have rowi : ∀ {i : Nat} {r : RowIn}, rows[i]? = some r → ∃ x, rs[i]? = some x ∧ r.look = .str x.1 := fun {i r} h => by
      have := congrArg (fun l => l[i]?) edat
      simp only [List.getElem?_map, h, Option.map_some] at this
      cases e : rs[i]? with
      | none => rw [e] at this; cases this
      | some x => rw [e] at this; exact ⟨x, rfl, congrArg Prod.fst (Option.some.inj this)⟩
    refine ⟨_, rfl, R, rfl, ⟨_, SqL.of hRl⟩, fun D hD => lc_it (walk_list (K := K) (a := R) (xs := refsOf rows)) (fun i H' => Same H0 H' ∧ H' D = some (.lst ((keysOf (rs.take i)).map V.str))) ⟨Same.upd_new hD, upd_same⟩ (fun i H' _ ⟨s, _⟩ => SqL.of (s _ _ hRl)) ?_ ?_⟩
    · rintro i v H1 H2 hi ⟨s1, hd⟩ ⟨rfl, hv⟩
      obtain ⟨r, hr0, rfl⟩ := map_at (show (rows.map fun r => V.ref r.t)[i]? = some v from hv)
      obtain ⟨x, hx, ex⟩ := rowi hr0
      have g := (hrows r (List.mem_of_getElem? hr0)).of s1
      rw [lref] at hi
      refine ⟨rfl, _, rfl, r.t, _, 0, _, rfl, rfl, SqT.of g.pair, (atI_nat (j := 0) rfl), _, hd, ?_, fun b o e => ?_, ?_⟩
      · rw [List.length_map]
        unfold keysOf
        rw [List.length_map, List.length_take]
        exact small1000 (by omega)
      · rw [upd_ne (ne_of_none e hD)]
        exact s1 _ _ e
      · rw [upd_same, take_one hx]
        unfold keysOf
        rw [List.map_append, List.map_append, ex]
        rfl
    rintro H1 ⟨s1, hd⟩
    rw [lref, lr, List.take_length] at hd
    have klen : (keysOf rs).length ≤ 5 := by unfold keysOf; rw [List.length_map]; exact few
    refine ⟨D, keysOf rs, rfl, hd, nd, klen, fun H2 o M s2 no hM eM => ?_⟩
    have s12 := s1.trans s2
    have w2 := w0.of s12
    have nds : (srt (keysOf rs)).Nodup := (srt_perm _).nodup_iff.mpr nd
    have perm : ∀ q ∈ M, q.2.Perm (keysOf rs) := fun q hq => by
      have m : q.2 ∈ permsN (srt (keysOf rs)) (keysOf rs).length := by rw [← eM]; exact List.mem_map_of_mem hq
      rw [← (srt_perm (keysOf rs)).length_eq] at m
      exact ((mem_perms_all nds).mp m).trans (srt_perm _)
    have lM : (M.map fun q => V.ref q.1).length = M.length := List.length_map _
    have M120 : M.length ≤ 120 := by
      have := perms_le nds (by rw [(srt_perm (keysOf rs)).length_eq]; exact klen) (t := (keysOf rs).length) (by rw [(srt_perm (keysOf rs)).length_eq]; exact Nat.le_refl _)
      rw [← eM, List.length_map] at this
      exact this
    have ng : o ≠ g := fun e => by rw [e, (w0.of s1).at_.lst] at no; cases no
    have eF : ∀ i, (M.take i).length ≤ 120 := fun i => by rw [List.length_take]; omega
    have hkn : ∀ z ∈ M, ∀ x ∈ rs, x.1 ∈ z.2 := fun z hz x hx => (perm z hz).mem_iff.mpr (List.mem_map_of_mem (f := fun x : Str × List Str => x.1) hx)
    refine ⟨o, rfl, ⟨_, SqL.of hM.lst⟩, for_it (walk_list (K := K) (a := o) (xs := M.map fun q => V.ref q.1)) (fun i σ H' => ∃ x4 : Option V, σ = [some (.ref l), some (.ref R), some (.ref p), some (.ref g), x4, none] ∧ SameB g H2 H' ∧ OrdOutF K H H' g ((M.take i).filter fun q => fitsB ls rs q.2)) ⟨none, rfl, SameB.of (Same.refl _), w2⟩ (fun i σ H' _ ⟨_, _, s, _⟩ => SqL.of (s _ _ ng hM.lst)) ?_ ?_⟩
    · rintro i v σ H3 H4 hi ⟨x4, rfl, s3, w3⟩ ⟨rfl, hv⟩
      obtain ⟨z, hz, hzm, rfl⟩ := ord_at hv
      have tz := (hM.all z hzm).ofB s3 w2.at_.lst
      have nxt : (M.take (i + 1)).filter (fun q => fitsB ls rs q.2) = (M.take i).filter (fun q => fitsB ls rs q.2) ++ if fitsB ls rs z.2 = true then [z] else [] := by
        rw [take_one hz, List.filter_append]
        congr 1
        by_cases c : fitsB ls rs z.2 = true
        · rw [if_pos c, List.filter_cons_of_pos (by exact c)]; rfl
        · rw [if_neg c, List.filter_cons_of_neg (by exact c)]; rfl
      refine ⟨_, rfl, _, rfl, p, z.1, rfl, w3.same _ _ hp0, _, rfl, ?_⟩
      refine iteT ⟨_, rfl, _, rfl, _, rfl, l, R, z.1, ls, rs, z.2, rfl, w3.same _ _ hl0, hR0.of w3.same, by omega, tz, hkn z hzm, fun H5 s5 => ⟨_, rfl, ?_⟩⟩
      have w5 := w3.of s5
      cases ef : fitsB ls rs z.2 with
      | false => exact iteF ⟨_, rfl, s3.trans (SameB.of s5), by rw [nxt, ef, if_neg (by decide), List.append_nil]; exact w5⟩
      | true =>
        refine iteT ⟨_, rfl, .inl ⟨rfl, _, SqL.of w5.at_.lst⟩, _, rfl, g, _, _, rfl, rfl, w5.at_.lst, ?_, ?_⟩
        · rw [List.length_map]
          have := List.length_filter_le (fun q : Addr × List Str => fitsB ls rs q.2) (M.take i)
          have := eF i
          exact small1000 (by omega)
        · refine ⟨_, rfl, fun d o' n e => by rw [upd_ne n]; exact s5 _ _ (s3 _ _ n e), ?_⟩
          have u := w5.put (N := [z]) fun q hq => by rw [List.mem_singleton.mp hq]; exact tz.of s5
          rw [nxt, ef, if_pos rfl]
          exact u
    · rintro σ H3 ⟨x4, rfl, s3, w3⟩
      rw [lM, List.take_length] at w3
      have fl := List.length_filter_le (fun q : Addr × List Str => fitsB ls rs q.2) M
      refine ⟨_, rfl, k H3 g _ w3.same hg w3.at_ ?_ (by omega)⟩
      unfold goodL
      rw [← eM, List.filter_map]
      rfl
end
end Dl

/-! the law -/
namespace Dl
open PySem PySem.Spec PyProof.Rows L2
structure TxtL23 (mg : Str → Option Value) : Prop where
  list : mg "list" = none
def bfB (p : Pr) (w : List Str) : Bool := decide (((w.idxOf p.1 : Nat) : Int) < ((w.idxOf p.2 : Nat) : Int))
theorem dpBls (K : PySem.W.Frag) (H : Hp) : ∀ bs : List Bool, DpAll K H (bs.map V.bl) (bs.map PyData.bool)
  | [] => .nil
  | b :: r => .cons (.bl b) (dpBls K H r)
theorem canBls : ∀ bs : List Bool, PyData.canLayAll0 (bs.map PyData.bool) = true
  | [] => rfl
  | n :: r => by
    rw [List.map_cons, PyData.canLayAll0, canBls r, PyData.canLay0]
    rfl
theorem depBls : ∀ bs : List Bool, PyData.depthAll (bs.map PyData.bool) ≤ 1
  | [] => by simp [PyData.depthAll]
  | n :: r => by
    rw [List.map_cons, PyData.depthAll, PyData.depth]
    have := depBls r
    omega
theorem shapedBls (bs : List Bool) : SeqAt.shaped (.list (bs.map PyData.bool)) = true := by
  unfold SeqAt.shaped
  rw [Bool.and_eq_true, PyData.canLay0, PyData.depth]
  exact ⟨canBls bs, decide_eq_true (by have := depBls bs; omega)⟩
theorem eqvBls : ∀ as bs : List Bool, PyData.eqvAll (as.map PyData.bool) (bs.map PyData.bool) = decide (as = bs)
  | [], [] => by simp [PyData.eqvAll]
  | [], _ :: _ => by simp [PyData.eqvAll]
  | _ :: _, [] => by simp [PyData.eqvAll]
  | a :: r, b :: q => by
    rw [List.map_cons, List.map_cons, PyData.eqvAll, eqvBls r q]
    cases a <;> cases b <;> simp [PyData.eqv]
theorem eqvB (as bs : List Bool) : PyData.eqv (.list (as.map PyData.bool)) (.list (bs.map PyData.bool)) = decide (as = bs) := by
  rw [PyData.eqv, eqvBls]
/-- the pairs that stand the same way in all orders that fit are the tied ones -/
theorem forced23 {ls : List Str} {rs : List (Str × List Str)} {p s : Pr} {G : List (List Str)} (nd : (keysOf rs).Nodup) (hG : ∀ w, w ∈ G ↔ w.Perm (keysOf rs) ∧ FitsO ls rs w) (ne : G ≠ []) (hp : PairOf rs p) (hs : PairOf rs s) : WayL ls rs p s ↔ G.map (bfB s) = G.map (bfB p) := by
  constructor
  · intro h
    refine List.map_congr_left fun w hw => ?_
    obtain ⟨wp, fit⟩ := (hG w).mp hw
    have := way_dir fit wp h
    exact decide_eq_decide.mpr (by omega)
  · intro e
    obtain ⟨w, hw⟩ := List.exists_mem_of_ne_nil _ ne
    obtain ⟨wp, fit⟩ := (hG w).mp hw
    refine tied_of_same fit wp (wp.nodup_iff.mpr nd) hp hs fun o op fo => ?_
    have := List.map_inj_left.mp e o ((hG o).mpr ⟨op, fo⟩)
    have := decide_eq_decide.mp this
    show o.idxOf p.1 < o.idxOf p.2 ↔ o.idxOf s.1 < o.idxOf s.2
    omega
def spLaw23 (K : PySem.W.Frag) : Sp := fun vs H Q _ => ∃ (a : Addr) (ns : List Int), vs = [.ref a] ∧ SqL K H a (ns.map V.int) ∧ ns.length ≤ 63 ∧ ∀ H', Q (.bl true) H'
section
variable {P : Program} {w : World} {K : PySem.W.Frag} {mg : Str → Option Value} {base : Heap} {C : Cs} {CT CI : Addr}
theorem scLaw23 : FnScope ["_law_script", "_law_bag_here", "_law_lamps", "_law_looks", "_law_rows", "_law_good_here", "_law_pair_here", "_law_told", "_law_stands", "_law_first", "_law_second", "_law_same", "_law_order"] ["_law_script"] (defScope sLaw) := ⟨rfl, rfl, rfl, by decide +kernel, rfl, by decide +kernel, by decide +kernel⟩
set_option pp.maxSteps 400 in
theorem ok_law23 {f : Addr} {fd : FuncData} (F : Fun K "law" "law" sLaw f fd) (T : TxtL23 mg) (gTab : mg "Table" = some (.ref CT))
    (init : ∃ fT fdT, Mk K CT fT ∧ Binds K fdT ["self", "lamps", "looks"] [] ∧ FnOk P w K mg base (L2.CX P w) 8 fT fdT ["self", "lamps", "looks"] (spTabInit2 K CT C))
    (gTi : Dfn P w K mg base (L2.CX P w) 7 "tied" ["table", "pair"] (spTied CT CI C))
    (gB : Dfn P w K mg base CX0 1 "_law_bag" ["_law_script"] (spBag K)) (gT : Dfn P w K mg base CX0 1 "_law_take" ["_law_bag_here", "_law_size"] spTake)
    (gN : Dfn P w K mg base CX0 3 "_law_names" ["_law_bag_here", "_law_count"] spNames) (gPl : Dfn P w K mg base CX0 2 "_law_planted_rows" ["_law_bag_here", "_law_lamps", "_law_looks"] spRows3)
    (gFl : Dfn P w K mg base CX0 2 "_law_flipped" ["_law_bag_here", "_law_lamps", "_law_rows"] spFlip) (gG : Dfn P w K mg base CX0 1 "_law_given" ["_law_rows", "_law_way"] spGiven)
    (gGo : Dfn P w K mg base CX0 3 "_law_good" ["_law_lamps", "_law_rows", "_law_pairs"] (spGood K)) (gP : Dfn P w K mg base CX0 2 "_law_pair" ["_law_bag_here", "_law_looks"] spLPair) :
    FnOk P w K mg base CX0 10 f fd ["_law_script"] (spLaw23 K) := by
  obtain ⟨fM, fdM, M, bM, GM⟩ := init
  obtain ⟨fTi, dTi, mTied, kTied, bTied, GTied⟩ := gTi
  obtain ⟨fB, dB, mBag, kBag, bBag, GBag⟩ := gB
  obtain ⟨fT, dT, mTake, kTake, bTake, GTake⟩ := gT
  obtain ⟨fN, dN, mNames, kNames, bNames, GNames⟩ := gN
  obtain ⟨fPl, dPl, mPlanted, kPlanted, bPlanted, GPlanted⟩ := gPl
  obtain ⟨fFl, dFl, mFlipped, kFlipped, bFlipped, GFlipped⟩ := gFl
  obtain ⟨fG, dG, mGiven, kGiven, bGiven, GGiven⟩ := gG
  obtain ⟨fGo, dGo, mGood, kGood, bGood, GGood⟩ := gGo
  obtain ⟨fP, dP, mPair, kPair, bPair, GPair⟩ := gP
  refine F.ok scLaw23 (fun vs H Q E h => ?_) (fun cdv A outer s H vs Q E hr h => ?_)
  · obtain ⟨a, ns, rfl, _⟩ := h
    rfl
  · obtain ⟨a0, ns, rfl, hS, hlen, k⟩ := h
    have hr9 : Room 9 _ := hr
    have hr7 : Room 7 _ := hr.mono (by decide)
    have hr3 : Room 3 _ := hr.mono (by decide)
    have hr2 : Room 2 _ := hr.mono (by decide)
    have hr1 : Room 1 _ := hr.mono (by decide)
    refine ⟨_, (pss_cons (ps_set (i := 1) scLaw23.nd rfl (Or.inl rfl) (pe_call GBag hr1 (by rfl) mBag kBag bBag .nil pass0 (pa_cons (pv 0) pa_nil)))
        (pss_cons (ps_set (i := 2) scLaw23.nd rfl (Or.inl rfl) (pe_call GNames hr3 (by rfl) mNames kNames bNames .nil pass0 (pa_cons (pv 1) (pa_cons (pe_call GTake hr1 (by rfl) mTake kTake bTake .nil pass0 (pa_cons (pv 1) (pa_cons pe_int pa_nil))) pa_nil))))
        (pss_cons (ps_set (i := 3) scLaw23.nd rfl (Or.inl rfl) (pe_call GNames hr3 (by rfl) mNames kNames bNames .nil pass0 (pa_cons (pv 1) (pa_cons (pe_op op_add pe_int (pe_call GTake hr1 (by rfl) mTake kTake bTake .nil pass0 (pa_cons (pv 1) (pa_cons pe_int pa_nil)))) pa_nil))))
        (pss_cons (ps_set (i := 4) scLaw23.nd rfl (Or.inl rfl) (pe_call GPlanted hr2 (by rfl) mPlanted kPlanted bPlanted .nil pass0 (pa_cons (pv 1) (pa_cons (pv 2) (pa_cons (pv 3) pa_nil)))))
        (C8.pss_cut (ps_if (pt_cmpR op_eq (pe_call GTake hr1 (by rfl) mTake kTake bTake .nil pass0 (pa_cons (pv 1) (pa_cons pe_int pa_nil))) pe_int (nomark _)) (pss_one (ps_set (i := 4) scLaw23.nd rfl (Or.inl rfl) (pe_call GFlipped hr2 (by rfl) mFlipped kFlipped bFlipped .nil pass0 (pa_cons (pv 1) (pa_cons (pv 2) (pa_cons (pv 4) pa_nil)))))) pss_nil)
        (pss_cons (ps_set (i := 5) scLaw23.nd rfl (Or.inl rfl) (pe_call GGood hr3 (by rfl) mGood kGood bGood .nil pass0 (pa_cons (pv 2) (pa_cons (pv 4) (pa_cons (pe_lst pa_nil) pa_nil)))))
        (pss_cons (ps_if (pt_cmpR (op_eqD hr.units) (pv 5) (pe_lst pa_nil) (nomark _)) (pss_one (ps_ret pe_bl)) pss_nil)
        (pss_cons (ps_set (i := 6) scLaw23.nd rfl (Or.inr rfl) (pe_call GPair hr2 (by rfl) mPair kPair bPair .nil pass0 (pa_cons (pv 1) (pa_cons (pv 3) pa_nil))))
        (pss_cons (ps_set (i := 7) scLaw23.nd rfl (Or.inl rfl) (pe_call GTied hr7 (by rfl) mTied kTied bTied .nil passL (pa_cons (pe_make M GM hr9 (by rfl) gTab bM .nil passL (pa_cons (pe_callTy call_list_of (by rfl) T.list (by decide +kernel) (pa_cons (pv 2) pa_nil)) (pa_cons (pe_call GGiven hr1 (by rfl) mGiven kGiven bGiven .nil pass0 (pa_cons (pv 4) (pa_cons pe_int pa_nil))) pa_nil))) (pa_cons (pv 6) pa_nil))))
        (pss_cons (ps_setLc (i := 8) (own := [("_law_order", 12)]) (g := gName 12) (tt := tYes) (te := tOp (rI0 fun i j => .bl (decide (i < j))) (tBMF (rIndexT K) (tVar 12) (tCons (tOp (rIxT K) (tVar 6) (tC (.int 0))) tNil)) (tBMF (rIndexT K) (tVar 12) (tCons (tOp (rIxT K) (tVar 6) (tC (.int 1))) tNil))) rfl scLaw23.nd rfl rfl (sw_true rfl rfl rfl (by decide +kernel)) (pi_list (pv 5)) (blkOk_by (N := ["_law_script", "_law_bag_here", "_law_lamps", "_law_looks", "_law_rows", "_law_good_here", "_law_pair_here", "_law_told", "_law_stands", "_law_first", "_law_second", "_law_same", "_law_order"]) (sc := defScope sLaw) (by decide +kernel)) (fun _ _ _ _ _ => (pg_name (i := 12) scLaw23.nd rfl (Or.inl rfl))) (fun _ _ _ _ _ => pts_nil) (fun _ _ _ _ _ => (pe_cmpR op_lt (pe_bmF PySem.F.plainAttrs_tuple PySem.F.slot_tuple_index PySem.F.type_tuple_index (by exact mt_indexT : MtR _ _ (rIndexT K)) (pv 12) (pa_cons (pe_ix (by exact ix_tup : IxR _ (rIxT K)) (pv 6) pe_int (fun _ _ => rfl)) pa_nil)) (pe_bmF PySem.F.plainAttrs_tuple PySem.F.slot_tuple_index PySem.F.type_tuple_index (by exact mt_indexT : MtR _ _ (rIndexT K)) (pv 12) (pa_cons (pe_ix (by exact ix_tup : IxR _ (rIxT K)) (pv 6) pe_int (fun _ _ => rfl)) pa_nil)) (nomark _))))
        (pss_cons (ps_for PassesOwn.never rfl (pi_list (pv 3)) (pg_name (i := 9) scLaw23.nd rfl (Or.inr rfl)) (pss_one (ps_for PassesOwn.never rfl (pi_list (pv 3)) (pg_name (i := 10) scLaw23.nd rfl (Or.inr rfl)) (pss_one (ps_if (pt_cmpR op_ne (pv 9) (pv 10) (nomark _)) (pss_cons (ps_set (i := 11) scLaw23.nd rfl (Or.inl rfl) (pe_cmpR (op_eqD hr.units) (pe_lc (own := [("_law_order", 12)]) (g := gName 12) (tt := tYes) (te := tOp (rI0 fun i j => .bl (decide (i < j))) (tBMF (rIndexT K) (tVar 12) (tCons (tVar 9) tNil)) (tBMF (rIndexT K) (tVar 12) (tCons (tVar 10) tNil))) rfl scLaw23.nd (pi_list (pv 5)) (blkOk_by (N := ["_law_script", "_law_bag_here", "_law_lamps", "_law_looks", "_law_rows", "_law_good_here", "_law_pair_here", "_law_told", "_law_stands", "_law_first", "_law_second", "_law_same", "_law_order"]) (sc := defScope sLaw) (by decide +kernel)) (fun _ _ _ _ _ => (pg_name (i := 12) scLaw23.nd rfl (Or.inl rfl))) (fun _ _ _ _ _ => pts_nil) (fun _ _ _ _ _ => (pe_cmpR op_lt (pe_bmF PySem.F.plainAttrs_tuple PySem.F.slot_tuple_index PySem.F.type_tuple_index (by exact mt_indexT : MtR _ _ (rIndexT K)) (pv 12) (pa_cons (pv 9) pa_nil)) (pe_bmF PySem.F.plainAttrs_tuple PySem.F.slot_tuple_index PySem.F.type_tuple_index (by exact mt_indexT : MtR _ _ (rIndexT K)) (pv 12) (pa_cons (pv 10) pa_nil)) (nomark _)))) (pv 8) (nomark _)))
        (pss_one (ps_if (pt_cmpR op_ne (pe_cmpR (op_inD (room65 hr)) (pe_tup (pa_cons (pv 9) (pa_cons (pv 10) pa_nil))) (pv 7) (by rfl)) (pv 11) (nomark _)) (pss_one (ps_ret pe_bl)) pss_nil))) pss_nil)))))
        (pss_one (ps_ret pe_bl))))))))))))), ?_⟩
    refine ⟨_, rfl, a0, ns, rfl, hS, hlen, fun H1 b L s1 hb0 hL hok => ?_⟩
    refine ⟨_, rfl, _, rfl, b, L, 6, rfl, hL, hok, by decide, by decide, fun L1 n ok1 n0 n1 => ⟨b, L1, n, rfl, upd_same, ok1, by omega, by omega, fun H2 a L2 ls s2 han ha hb2 ok2 okl hz => ?_⟩⟩
    have nab : a ≠ b := fun e => by rw [e, upd_same] at han; cases han
    have lfew : ls.length ≤ 5 := by omega
    clear hL hok s1 s2 ok1 han hz n0 n1 hb0
    -- the looks
    refine ⟨_, rfl, _, rfl, b, L2, 4, rfl, hb2, ok2, by decide, by decide, fun L3 m ok3 m0 m1 => ⟨_, _, rfl, rfl, b, L3, _, rfl, upd_same, ok3, by omega, by omega, fun H4 c L4 ks s4 hcn hc hb4 ok4 okk hk => ?_⟩⟩
    have ncb : c ≠ b := fun e => by rw [e, upd_same] at hcn; cases hcn
    have ha4 := s4 _ _ nab (draw_same (L := L3) _ _ nab ha)
    have kfew : 2 ≤ ks.length ∧ ks.length ≤ 5 := by omega
    clear s4 hcn hk m0 m1 ok3 ha hb2 ok2
    -- the rows
    refine ⟨_, rfl, _, rfl, _, rfl, b, a, c, ls, ks, rfl, ⟨L4, hb4, ok4⟩, nab, ncb, ha4, hc, by omega, by omega, fun H5 R5 rows5 s5 hb5 hR5 => ?_⟩
    have ha5 := s5 _ _ nab ha4
    have hc5 := s5 _ _ ncb hc
    clear s5 hb4 ok4 ha4 hc
    refine ⟨fun σ H' => ∃ (R : Addr) (rows : List RowIn), σ = [some (.ref a0), some (.ref b), some (.ref a), some (.ref c), some (.ref R), none, none, none, none, none, none, none, none] ∧ H' a = some (.lst (ls.map V.str)) ∧ H' c = some (.lst (ks.map V.str)) ∧ BagIn H' b ∧ RowsD b ls ks H' R rows, ?_, ?_⟩
    · obtain ⟨L5, hb5, ok5⟩ := hb5
      refine ⟨_, rfl, b, L5, 4, rfl, hb5, ok5, by decide, by decide, fun L6 n6 ok6 n60 n61 => ⟨rfl, _, rfl, ?_⟩⟩
      have s6 : SameB b H5 (upd H5 b (.lst (L6.map V.int))) := draw_same
      have hb6 : BagIn (upd H5 b (.lst (L6.map V.int))) b := BagIn.upd ok6
      have ha6 := s6 _ _ nab ha5
      have hc6 := s6 _ _ ncb hc5
      have hR6 := hR5.of ⟨_, hb5⟩ s6
      generalize upd H5 b (.lst (L6.map V.int)) = H6 at *
      refine ite2 (fun _ => ?_) (fun _ => ?_)
      · exact ⟨_, rfl, _, rfl, _, rfl, b, a, R5, ls, ks, rows5, rfl, hb6, nab, ha6, hR6, okl.bag, okk.bag, by omega, by omega, fun H' R' rows' s' hb' hR' => ⟨R', rows', rfl, s' _ _ nab ha6, s' _ _ ncb hc6, hb', hR'⟩⟩
      · exact ⟨R5, rows5, rfl, ha6, hc6, hb6, hR6⟩
    rintro σ H7 ⟨R, rows, rfl, ha7, hc7, hb7, hR7⟩
    clear ha5 hc5 hb5 hR5
    obtain ⟨rs, hdat, hks, hsub⟩ := rows_rs' hR7.all hR7.looks
    have ok := tabok_of okl okk hks hsub
    have hkeys : keysOf rs = ks := hks
    have hrl : rows.length = rs.length := by
      have e := congrArg List.length hdat
      rw [List.length_map, List.length_map] at e
      exact e
    have hrk : rs.length ≤ 5 := by
      have e := congrArg List.length hks
      rw [List.length_map] at e
      omega
    have rows7 : RowsS H7 R rs := ⟨⟨rows, hR7.lst, fun r hr => (hR7.all r hr).g, hdat⟩⟩
    -- the orders that fit
    refine ⟨_, rfl, _, rfl, Nat.zero_le _, fun p0 hp0 => ?_⟩
    have s8 := Same.upd_new hp0 (o := .lst ([] : List V))
    have hp8 := upd_same (H := H7) (a := p0) (o := .lst ([] : List V))
    generalize upd H7 p0 (.lst ([] : List V)) = H8 at *
    refine ⟨a, R, p0, ls, rs, rfl, s8 _ _ ha7, rows7.of s8, hrk, ok.knd, hp8, fun H9 g MG s9 ng8 hM eM MG120 => ?_⟩
    have ngb : g ≠ b := fun e => by
      obtain ⟨xs, h⟩ := (hb7.of s8).lst
      rw [e, h] at ng8; cases ng8
    have s79 := s8.trans s9
    have ha9 := s79 _ _ ha7
    have hc9 := s79 _ _ hc7
    have hb9 := hb7.of s79
    have hR9 : RowsD b ls ks H9 R rows := hR7.of hb7.lst (SameB.of s79)
    clear s8 hp8 s9 s79 ha7 hc7 hb7 hR7 rows7 hp0
    have hG : ∀ w, w ∈ goodL ls rs ↔ w.Perm (keysOf rs) ∧ FitsO ls rs w := fun w => good_mem ok.knd
    have gcan : ∀ q ∈ MG, ∀ z ∈ q.2, canS z := fun q hq z hz => by
      have m : q.2 ∈ goodL ls rs := by rw [← eM]; exact List.mem_map_of_mem hq
      exact okk.bag z (by rw [← hkeys]; exact ((hG _).mp m).1.mem_iff.mp hz)
    refine ⟨_, rfl, Nat.zero_le _, fun e0 he0 => ?_⟩
    have s10 := Same.upd_new he0 (o := .lst ([] : List V))
    have he10 := upd_same (H := H9) (a := e0) (o := .lst ([] : List V))
    generalize upd H9 e0 (.lst ([] : List V)) = H10 at *
    have hM10 := hM.of s10
    refine ⟨_, .list [], .lst (SqL.of hM10.lst) (ords_dp fun q hq => (hM10.all q hq).1), .lst (SqL.of he10) .nil, ords_shaped gcan, by decide +kernel, _, rfl, ?_⟩
    rw [eqv_nil]
    refine ite2 (fun _ => k _) (fun ne => ?_)
    have gne : goodL ls rs ≠ [] := fun e => ne (by rw [← eM] at e; rw [List.map_eq_nil_iff.mp e]; rfl)
    -- the pair
    have hc10 := s10 _ _ hc9
    have ha10 := s10 _ _ ha9
    have hb10 := hb9.of s10
    have hR10 : RowsD b ls ks H10 R rows := hR9.of hb9.lst (SameB.of s10)
    refine ⟨_, rfl, _, rfl, b, c, ks, rfl, hb10, ncb, hc10, okk.nd, kfew.1, by omega, fun H11 q p s11 hb11 _ hq p1 p2 pne => ?_⟩
    have pr : PairOf rs p := by
      rw [← hkeys] at p1 p2
      exact ⟨p1, p2, pne⟩
    have ha11 := s11 _ _ nab ha10
    have hc11 := s11 _ _ ncb hc10
    have hR11 := hR10.of hb10.lst s11
    have hM11 : OrdInF K H11 g MG := ⟨s11 _ _ ngb hM10.lst, fun q hq => (hM10.all q hq).ofB s11 (hb10.lst.choose_spec)⟩
    clear s10 he10 he0 hM10 hM ha9 hb9 hc9 hR9 s11 ha10 hR10 hc10 hb10
    -- the table
    refine ⟨_, rfl, a, _, rfl, .inl (SqL.of ha11), fun l hl0 => ?_⟩
    have s12 := Same.upd_new hl0 (o := .lst (ls.map V.str))
    have hl12 := upd_same (H := H11) (a := l) (o := .lst (ls.map V.str))
    generalize upd H11 l (.lst (ls.map V.str)) = H12 at *
    refine ⟨_, rfl, R, 1, rows, rfl, .inr rfl, s12 _ _ hR11.lst, fun r hr => ((hR11.all r hr).g).of s12, by omega, fun H13 R' rows' s13 _ hR' hrw' hdat' => ?_⟩
    refine fun x dx nx ndx nex => make_ok (ts := rs.map (turnOf 1)) nx ndx nex (s13 _ _ hl12) hR' (fun r hr => (hrw' r hr).1) (by rw [hdat', turned_map hdat]) (turn_mem ok 1) (init_turn ok 1) (fun z hz => okl.valid hz) (by omega) (by rw [List.length_map]; omega) fun H14 s14 hT14 => ?_
    have t14 := s12.trans (s13.trans s14)
    have hq14 := t14 _ _ hq
    have hc14 := t14 _ _ hc11
    have hM14 := hM11.of t14
    clear t14 s12 s13 s14 hl12 hl0 hR' hrw' hdat' nx ndx nex ha11 hc11 hR11 hM11 hq hb11
    -- told
    refine ⟨_, rfl, ?_⟩
    dsimp only [tNil, List.cons_append, List.nil_append]
    refine tied_ok hT14 ok (by omega) hq14 pr fun H15 W s15 _ tW => ?_
    obtain ⟨B, hB, sB, mB⟩ := tW.lp
    have hq15 := s15 _ _ hq14
    have hc15 := s15 _ _ hc14
    have hM15 := hM14.of s15
    clear s15 hT14 hq14 hc14 hM14 tW
    have zperm : ∀ z ∈ MG, z.2.Perm (keysOf rs) := fun z hz => ((hG z.2).mp (by rw [← eM]; exact List.mem_map_of_mem hz)).1
    have inz : ∀ z ∈ MG, ∀ y ∈ keysOf rs, y ∈ z.2 := fun z hz y hy => (zperm z hz).mem_iff.mpr hy
    have lG : (MG.map fun q => V.ref q.1).length = MG.length := List.length_map _
    refine ⟨_, rfl, g, rfl, ⟨_, SqL.of hM15.lst⟩, fun S hS => lc_it (walk_list (K := K) (a := g) (xs := MG.map fun q => V.ref q.1)) (fun i H' => Same H15 H' ∧ H' S = some (.lst (((MG.take i).map fun z => bfB p z.2).map V.bl))) ⟨Same.upd_new hS, upd_same⟩ (fun i H' _ ⟨s, _⟩ => SqL.of (s _ _ hM15.lst)) ?_ ?_⟩
    · rintro i v H16 H17 hi ⟨s16, hS16⟩ ⟨rfl, hv⟩
      obtain ⟨z, hz, hzm, rfl⟩ := ord_at hv
      have tz := (hM15.all z hzm).of s16
      have q16 := s16 _ _ hq15
      have m0 := inz z hzm p.1 pr.1
      have f0 := idx_at m0
      have f1 := idx_at (inz z hzm p.2 pr.2.1)
      have hof := tz.2 (fun e => by have := List.map_eq_nil_iff.mp e; rw [this] at m0; cases m0)
      refine ⟨rfl, _, rfl, ⟨_, _, rfl, hof⟩, _, rfl, q, _, 0, _, rfl, rfl, SqT.of q16, (atI_nat (j := 0) rfl), z.1, z.2, p.1, z.2.idxOf p.1, rfl, rfl, tz.1, f0.1, f0.2, ⟨_, rfl, ⟨_, _, rfl, hof⟩, _, rfl, q, _, 1, _, rfl, rfl, SqT.of q16, (atI_nat (j := 1) rfl), z.1, z.2, p.2, z.2.idxOf p.2, rfl, rfl, tz.1, f1.1, f1.2, ?_⟩⟩
      refine ⟨_, _, rfl, rfl, _, hS16, ?_, fun d o e => by rw [upd_ne (ne_of_none e hS)]; exact s16 _ _ e, ?_⟩
      · rw [List.length_map, List.length_map, List.length_take]
        exact small1000 (by omega)
      · rw [upd_same, take_one hz, List.map_append, List.map_append]
        rfl
    rintro H16 ⟨s16, hS16⟩
    rw [lG, List.take_length] at hS16
    have hc16 := s16 _ _ hc15
    have hM16 := hM15.of s16
    have hB16 := hB.of s16
    clear s16 hc15 hM15 hq15 hB hS
    -- each pair
    refine ⟨_, rfl, c, rfl, ⟨_, SqL.of hc16⟩, for_it (walk_list (K := K) (a := c) (xs := ks.map V.str)) (fun i σ H' => ∃ (x9 x10 x11 : Option V), σ = [some (.ref a0), some (.ref b), some (.ref a), some (.ref c), some (.ref R), some (.ref g), some (.ref q), some (.ref W), some (.ref S), x9, x10, x11, none] ∧ Same H16 H') ⟨none, none, none, rfl, Same.refl _⟩ (fun i σ H' _ ⟨_, _, _, _, s⟩ => SqL.of (s _ _ hc16)) ?_ ?_⟩
    · rintro i v σ H17 H18 hi ⟨x9, x10, x11, rfl, s17⟩ ⟨rfl, hv⟩
      obtain ⟨u, hu, hum, rfl⟩ := st_atH hv
      refine ⟨_, rfl, c, rfl, ⟨_, SqL.of (s17 _ _ hc16)⟩, for_it (walk_list (K := K) (a := c) (xs := ks.map V.str)) (fun i σ H' => ∃ (x10 x11 : Option V), σ = [some (.ref a0), some (.ref b), some (.ref a), some (.ref c), some (.ref R), some (.ref g), some (.ref q), some (.ref W), some (.ref S), some (.str u), x10, x11, none] ∧ Same H16 H') ⟨x10, x11, rfl, s17⟩ (fun i σ H' _ ⟨_, _, _, s⟩ => SqL.of (s _ _ hc16)) ?_ ?_⟩
      · rintro j v σ H19 H20 hj ⟨x10, x11, rfl, s19⟩ ⟨rfl, hv⟩
        obtain ⟨y, hy, hym, rfl⟩ := st_atH hv
        refine ⟨_, rfl, _, rfl, rfl, _, rfl, ite2 (fun ne => ?_) (fun _ => ⟨_, _, rfl, s19⟩)⟩
        have ne : u ≠ y := fun e => by rw [e, decide_eq_true rfl] at ne; cases ne
        have prs : PairOf rs (u, y) := ⟨by rw [hkeys]; exact hum, by rw [hkeys]; exact hym, ne⟩
        have hM19 := hM16.of s19
        refine ⟨_, rfl, g, rfl, ⟨_, SqL.of hM19.lst⟩, fun D hD => lc_it (walk_list (K := K) (a := g) (xs := MG.map fun q => V.ref q.1)) (fun i H' => Same H20 H' ∧ H' D = some (.lst (((MG.take i).map fun z => bfB (u, y) z.2).map V.bl))) ⟨Same.upd_new hD, upd_same⟩ (fun i H' _ ⟨s, _⟩ => SqL.of (s _ _ hM19.lst)) ?_ ?_⟩
        · rintro i v H21 H22 hi ⟨s21, hD21⟩ ⟨rfl, hv⟩
          obtain ⟨z, hz, hzm, rfl⟩ := ord_at hv
          have tz := (hM19.all z hzm).of s21
          have m0 := inz z hzm u prs.1
          have f0 := idx_at m0
          have f1 := idx_at (inz z hzm y prs.2.1)
          have hof := tz.2 (fun e => by have := List.map_eq_nil_iff.mp e; rw [this] at m0; cases m0)
          refine ⟨rfl, _, rfl, ⟨_, _, rfl, hof⟩, _, rfl, z.1, z.2, u, z.2.idxOf u, rfl, rfl, tz.1, f0.1, f0.2, ⟨_, rfl, ⟨_, _, rfl, hof⟩, _, rfl, z.1, z.2, y, z.2.idxOf y, rfl, rfl, tz.1, f1.1, f1.2, ?_⟩⟩
          refine ⟨_, _, rfl, rfl, _, hD21, ?_, fun d o e => by rw [upd_ne (ne_of_none e hD)]; exact s21 _ _ e, ?_⟩
          · rw [List.length_map, List.length_map, List.length_take]
            exact small1000 (by omega)
          · rw [upd_same, take_one hz, List.map_append, List.map_append]
            rfl
        rintro H21 ⟨s21, hD21⟩
        rw [lG, List.take_length] at hD21
        have t21 := s19.trans s21
        refine ⟨_, rfl, _, _, .lst (SqL.of hD21) (dpBls K H21 _), .lst (SqL.of (t21 _ _ hS16)) (dpBls K H21 _), shapedBls _, shapedBls _, ?_⟩
        rw [eqvB]
        refine ⟨_, rfl, _, rfl, by show 2 ≤ sizeLine; decide, fun t ht => ?_⟩
        have s22 := Same.upd_new ht (o := .tup [.str u, .str y])
        have h22 : upd H21 t (.tup [.str u, .str y]) t = some (.tup ((pk (u, y)).map V.str)) := upd_same
        generalize upd H21 t (.tup [.str u, .str y]) = H22 at *
        have hB22 := hB16.of (t21.trans s22)
        have gB : GoodTs (lpK B) := fun z hz => by
          obtain ⟨e, he, rfl⟩ := List.mem_map.mp hz
          exact good_of ok (((mB e.2).mp (List.mem_map_of_mem he)).pair pr)
        have key : pk (u, y) ∈ lpK B ↔ (MG.map fun z => bfB (u, y) z.2) = MG.map fun z => bfB p z.2 := by
          have f := forced23 (s := (u, y)) ok.knd hG gne pr prs
          rw [← eM, List.map_map, List.map_map] at f
          refine Iff.trans ⟨fun h => ?_, fun h => ?_⟩ f
          · obtain ⟨e, he, ee⟩ := List.mem_map.mp h
            have e2 : e.2 = (u, y) := by
              injection ee with e3 e4
              injection e4 with e5
              exact Prod.ext e3 e5
            exact (mB _).mp (by rw [← e2]; exact List.mem_map_of_mem he)
          · obtain ⟨e, he, ee⟩ := List.mem_map.mp ((mB _).mpr h)
            exact List.mem_map.mpr ⟨e, he, by rw [ee]⟩
        refine ⟨_, rfl, txData (pk (u, y)), (lpK B).map txData, txP_dp (k := pk (u, y)) h22, hB22.dp, txP_shaped (good_of ok prs), txsP_shaped gB, _, rfl, rfl, _, rfl, iteZ ?_ ⟨_, _, rfl, t21.trans s22⟩⟩
        rw [txP_any, decide_eq_decide.mpr key, decide_eq_true rfl]
        rfl
      · rintro σ H19 ⟨x10, x11, rfl, s19⟩
        exact ⟨_, _, _, rfl, s19⟩
    · rintro σ H17 ⟨x9, x10, x11, rfl, s17⟩
      exact k _
end
end Dl

namespace Dl
open PySem PySem.Spec PyProof.Rows L2
theorem all_mk {l : PySem.W.OpenLaw} {w : World} {K : PySem.W.Frag} {h : Heap} {mg : Str → Option Value} {fa f_is_name f_check_name f_check_new f_check_known f_check_all_known f_distinct_names f_check_shown f_chosen_of f_check_pair f_reached f_leads f_tied f_law_bag f_law_take f_law_name f_law_names f_law_planted_rows f_law_flipped f_law_seen f_law_given f_law_perms f_law_fits_order f_law_keeps f_law_good f_law_pair f_law C_InvalidName f_InvalidName C_DuplicateName f_DuplicateName C_UnknownName f_UnknownName C_TooMany f_TooMany C_InvalidNote f_InvalidNote C_Table f_Table_init f_Table_seen : Addr} (X : K.In h) (G : h.Ns mainGlobals mg) (hfa : mg "law" = some (.ref fa))
    {od_is_name an_is_name od_check_name an_check_name od_check_new an_check_new od_check_known an_check_known od_check_all_known an_check_all_known od_distinct_names an_distinct_names od_check_shown an_check_shown od_chosen_of an_chosen_of od_check_pair an_check_pair od_reached an_reached od_leads an_leads od_tied an_tied od_law_bag an_law_bag od_law_take an_law_take od_law_name an_law_name od_law_names an_law_names od_law_planted_rows an_law_planted_rows od_law_flipped an_law_flipped od_law_seen an_law_seen od_law_given an_law_given od_law_perms an_law_perms od_law_fits_order an_law_fits_order od_law_keeps an_law_keeps od_law_good an_law_good od_law_pair an_law_pair od_law an_law od_InvalidName an_InvalidName od_DuplicateName an_DuplicateName od_UnknownName an_UnknownName od_TooMany an_TooMany od_InvalidNote an_InvalidNote od_Table_init an_Table_init od_Table_seen an_Table_seen : Option Addr} {sl_is_name sl_check_name sl_check_new sl_check_known sl_check_all_known sl_distinct_names sl_check_shown sl_chosen_of sl_check_pair sl_reached sl_leads sl_tied sl_law_bag sl_law_take sl_law_name sl_law_names sl_law_planted_rows sl_law_flipped sl_law_seen sl_law_given sl_law_perms sl_law_fits_order sl_law_keeps sl_law_good sl_law_pair sl_law sl_InvalidName sl_DuplicateName sl_UnknownName sl_TooMany sl_InvalidNote sl_Table_init sl_Table_seen : Array (Option Value)} {oc_is_name kV_is_name dc_is_name pm_is_name cd_is_name ct_is_name oc_check_name kV_check_name dc_check_name pm_check_name cd_check_name ct_check_name oc_check_new kV_check_new dc_check_new pm_check_new cd_check_new ct_check_new oc_check_known kV_check_known dc_check_known pm_check_known cd_check_known ct_check_known oc_check_all_known kV_check_all_known dc_check_all_known pm_check_all_known cd_check_all_known ct_check_all_known oc_distinct_names kV_distinct_names dc_distinct_names pm_distinct_names cd_distinct_names ct_distinct_names oc_check_shown kV_check_shown dc_check_shown pm_check_shown cd_check_shown ct_check_shown oc_chosen_of kV_chosen_of dc_chosen_of pm_chosen_of cd_chosen_of ct_chosen_of oc_check_pair kV_check_pair dc_check_pair pm_check_pair cd_check_pair ct_check_pair oc_reached kV_reached dc_reached pm_reached cd_reached ct_reached oc_leads kV_leads dc_leads pm_leads cd_leads ct_leads oc_tied kV_tied dc_tied pm_tied cd_tied ct_tied oc_law_bag kV_law_bag dc_law_bag pm_law_bag cd_law_bag ct_law_bag oc_law_take kV_law_take dc_law_take pm_law_take cd_law_take ct_law_take oc_law_name kV_law_name dc_law_name pm_law_name cd_law_name ct_law_name oc_law_names kV_law_names dc_law_names pm_law_names cd_law_names ct_law_names oc_law_planted_rows kV_law_planted_rows dc_law_planted_rows pm_law_planted_rows cd_law_planted_rows ct_law_planted_rows oc_law_flipped kV_law_flipped dc_law_flipped pm_law_flipped cd_law_flipped ct_law_flipped oc_law_seen kV_law_seen dc_law_seen pm_law_seen cd_law_seen ct_law_seen oc_law_given kV_law_given dc_law_given pm_law_given cd_law_given ct_law_given oc_law_perms kV_law_perms dc_law_perms pm_law_perms cd_law_perms ct_law_perms oc_law_fits_order kV_law_fits_order dc_law_fits_order pm_law_fits_order cd_law_fits_order ct_law_fits_order oc_law_keeps kV_law_keeps dc_law_keeps pm_law_keeps cd_law_keeps ct_law_keeps oc_law_good kV_law_good dc_law_good pm_law_good cd_law_good ct_law_good oc_law_pair kV_law_pair dc_law_pair pm_law_pair cd_law_pair ct_law_pair oc_law kV_law dc_law pm_law cd_law ct_law oc_InvalidName kV_InvalidName dc_InvalidName pm_InvalidName cd_InvalidName ct_InvalidName oc_DuplicateName kV_DuplicateName dc_DuplicateName pm_DuplicateName cd_DuplicateName ct_DuplicateName oc_UnknownName kV_UnknownName dc_UnknownName pm_UnknownName cd_UnknownName ct_UnknownName oc_TooMany kV_TooMany dc_TooMany pm_TooMany cd_TooMany ct_TooMany oc_InvalidNote kV_InvalidNote dc_InvalidNote pm_InvalidNote cd_InvalidNote ct_InvalidNote oc_Table_init kV_Table_init dc_Table_init pm_Table_init cd_Table_init ct_Table_init oc_Table_seen kV_Table_seen dc_Table_seen pm_Table_seen cd_Table_seen ct_Table_seen : Value} {t_LONGEST t_SIGNS t_LIMIT : Tok}
    {nm_InvalidName q_InvalidName : Str} {N_InvalidName : Addr} {bs_InvalidName bm_InvalidName : List Value} {sn_InvalidName : List Str} {sub_InvalidName : List Value} {ab_InvalidName : Bool} {col_InvalidName : Option Bool} {dd_InvalidName : Option Addr} {m0_InvalidName m1_InvalidName m2_InvalidName m3_InvalidName m5_InvalidName : Option Value}
    {nm_DuplicateName q_DuplicateName : Str} {N_DuplicateName : Addr} {bs_DuplicateName bm_DuplicateName : List Value} {sn_DuplicateName : List Str} {sub_DuplicateName : List Value} {ab_DuplicateName : Bool} {col_DuplicateName : Option Bool} {dd_DuplicateName : Option Addr} {m0_DuplicateName m1_DuplicateName m2_DuplicateName m3_DuplicateName m5_DuplicateName : Option Value}
    {nm_UnknownName q_UnknownName : Str} {N_UnknownName : Addr} {bs_UnknownName bm_UnknownName : List Value} {sn_UnknownName : List Str} {sub_UnknownName : List Value} {ab_UnknownName : Bool} {col_UnknownName : Option Bool} {dd_UnknownName : Option Addr} {m0_UnknownName m1_UnknownName m2_UnknownName m3_UnknownName m5_UnknownName : Option Value}
    {nm_TooMany q_TooMany : Str} {N_TooMany : Addr} {bs_TooMany bm_TooMany : List Value} {sn_TooMany : List Str} {sub_TooMany : List Value} {ab_TooMany : Bool} {col_TooMany : Option Bool} {dd_TooMany : Option Addr} {m0_TooMany m1_TooMany m2_TooMany m3_TooMany m5_TooMany : Option Value}
    {nm_InvalidNote q_InvalidNote : Str} {N_InvalidNote : Addr} {bs_InvalidNote bm_InvalidNote : List Value} {sn_InvalidNote : List Str} {sub_InvalidNote : List Value} {ab_InvalidNote : Bool} {col_InvalidNote : Option Bool} {dd_InvalidNote : Option Addr} {m0_InvalidNote m1_InvalidNote m2_InvalidNote m3_InvalidNote m5_InvalidNote : Option Value}
    (a_is_name : PySem.W.nsIn K mainGlobals "is_name" = some (some (.ref f_is_name)))
    (l_is_name : K.lookup f_is_name = some ⟨oc_is_name, od_is_name, .func (PySem.W.fnOf "is_name" "is_name" (defArgs sIsName) (defBody sIsName) (defScope sIsName) .none kV_is_name dc_is_name pm_is_name an_is_name cd_is_name ct_is_name), sl_is_name⟩)
    (c_is_name : PySem.W.codeIn K cd_is_name "is_name" = true)
    (k_is_name : PySem.W.keepIn K (.ref f_is_name) = true)
    (a_check_name : PySem.W.nsIn K mainGlobals "check_name" = some (some (.ref f_check_name)))
    (l_check_name : K.lookup f_check_name = some ⟨oc_check_name, od_check_name, .func (PySem.W.fnOf "check_name" "check_name" (defArgs sCheckName) (defBody sCheckName) (defScope sCheckName) .none kV_check_name dc_check_name pm_check_name an_check_name cd_check_name ct_check_name), sl_check_name⟩)
    (c_check_name : PySem.W.codeIn K cd_check_name "check_name" = true)
    (k_check_name : PySem.W.keepIn K (.ref f_check_name) = true)
    (a_check_new : PySem.W.nsIn K mainGlobals "check_new" = some (some (.ref f_check_new)))
    (l_check_new : K.lookup f_check_new = some ⟨oc_check_new, od_check_new, .func (PySem.W.fnOf "check_new" "check_new" (defArgs sCheckNew) (defBody sCheckNew) (defScope sCheckNew) .none kV_check_new dc_check_new pm_check_new an_check_new cd_check_new ct_check_new), sl_check_new⟩)
    (c_check_new : PySem.W.codeIn K cd_check_new "check_new" = true)
    (k_check_new : PySem.W.keepIn K (.ref f_check_new) = true)
    (a_check_known : PySem.W.nsIn K mainGlobals "check_known" = some (some (.ref f_check_known)))
    (l_check_known : K.lookup f_check_known = some ⟨oc_check_known, od_check_known, .func (PySem.W.fnOf "check_known" "check_known" (defArgs sCheckKnown) (defBody sCheckKnown) (defScope sCheckKnown) .none kV_check_known dc_check_known pm_check_known an_check_known cd_check_known ct_check_known), sl_check_known⟩)
    (c_check_known : PySem.W.codeIn K cd_check_known "check_known" = true)
    (k_check_known : PySem.W.keepIn K (.ref f_check_known) = true)
    (a_check_all_known : PySem.W.nsIn K mainGlobals "check_all_known" = some (some (.ref f_check_all_known)))
    (l_check_all_known : K.lookup f_check_all_known = some ⟨oc_check_all_known, od_check_all_known, .func (PySem.W.fnOf "check_all_known" "check_all_known" (defArgs sCheckAll) (defBody sCheckAll) (defScope sCheckAll) .none kV_check_all_known dc_check_all_known pm_check_all_known an_check_all_known cd_check_all_known ct_check_all_known), sl_check_all_known⟩)
    (c_check_all_known : PySem.W.codeIn K cd_check_all_known "check_all_known" = true)
    (k_check_all_known : PySem.W.keepIn K (.ref f_check_all_known) = true)
    (a_distinct_names : PySem.W.nsIn K mainGlobals "distinct_names" = some (some (.ref f_distinct_names)))
    (l_distinct_names : K.lookup f_distinct_names = some ⟨oc_distinct_names, od_distinct_names, .func (PySem.W.fnOf "distinct_names" "distinct_names" (defArgs sDistinct) (defBody sDistinct) (defScope sDistinct) .none kV_distinct_names dc_distinct_names pm_distinct_names an_distinct_names cd_distinct_names ct_distinct_names), sl_distinct_names⟩)
    (c_distinct_names : PySem.W.codeIn K cd_distinct_names "distinct_names" = true)
    (k_distinct_names : PySem.W.keepIn K (.ref f_distinct_names) = true)
    (a_check_shown : PySem.W.nsIn K mainGlobals "_check_shown" = some (some (.ref f_check_shown)))
    (l_check_shown : K.lookup f_check_shown = some ⟨oc_check_shown, od_check_shown, .func (PySem.W.fnOf "_check_shown" "_check_shown" (defArgs sCheckShown) (defBody sCheckShown) (defScope sCheckShown) .none kV_check_shown dc_check_shown pm_check_shown an_check_shown cd_check_shown ct_check_shown), sl_check_shown⟩)
    (c_check_shown : PySem.W.codeIn K cd_check_shown "_check_shown" = true)
    (k_check_shown : PySem.W.keepIn K (.ref f_check_shown) = true)
    (a_chosen_of : PySem.W.nsIn K mainGlobals "_chosen_of" = some (some (.ref f_chosen_of)))
    (l_chosen_of : K.lookup f_chosen_of = some ⟨oc_chosen_of, od_chosen_of, .func (PySem.W.fnOf "_chosen_of" "_chosen_of" (defArgs sChosen) (defBody sChosen) (defScope sChosen) .none kV_chosen_of dc_chosen_of pm_chosen_of an_chosen_of cd_chosen_of ct_chosen_of), sl_chosen_of⟩)
    (c_chosen_of : PySem.W.codeIn K cd_chosen_of "_chosen_of" = true)
    (k_chosen_of : PySem.W.keepIn K (.ref f_chosen_of) = true)
    (a_check_pair : PySem.W.nsIn K mainGlobals "check_pair" = some (some (.ref f_check_pair)))
    (l_check_pair : K.lookup f_check_pair = some ⟨oc_check_pair, od_check_pair, .func (PySem.W.fnOf "check_pair" "check_pair" (defArgs sCheckPair) (defBody sCheckPair) (defScope sCheckPair) .none kV_check_pair dc_check_pair pm_check_pair an_check_pair cd_check_pair ct_check_pair), sl_check_pair⟩)
    (c_check_pair : PySem.W.codeIn K cd_check_pair "check_pair" = true)
    (k_check_pair : PySem.W.keepIn K (.ref f_check_pair) = true)
    (a_reached : PySem.W.nsIn K mainGlobals "reached" = some (some (.ref f_reached)))
    (l_reached : K.lookup f_reached = some ⟨oc_reached, od_reached, .func (PySem.W.fnOf "reached" "reached" (defArgs sReached) (defBody sReached) (defScope sReached) .none kV_reached dc_reached pm_reached an_reached cd_reached ct_reached), sl_reached⟩)
    (c_reached : PySem.W.codeIn K cd_reached "reached" = true)
    (k_reached : PySem.W.keepIn K (.ref f_reached) = true)
    (a_leads : PySem.W.nsIn K mainGlobals "_leads" = some (some (.ref f_leads)))
    (l_leads : K.lookup f_leads = some ⟨oc_leads, od_leads, .func (PySem.W.fnOf "_leads" "_leads" (defArgs sLeads) (defBody sLeads) (defScope sLeads) .none kV_leads dc_leads pm_leads an_leads cd_leads ct_leads), sl_leads⟩)
    (c_leads : PySem.W.codeIn K cd_leads "_leads" = true)
    (k_leads : PySem.W.keepIn K (.ref f_leads) = true)
    (a_tied : PySem.W.nsIn K mainGlobals "tied" = some (some (.ref f_tied)))
    (l_tied : K.lookup f_tied = some ⟨oc_tied, od_tied, .func (PySem.W.fnOf "tied" "tied" (defArgs sTied) (defBody sTied) (defScope sTied) .none kV_tied dc_tied pm_tied an_tied cd_tied ct_tied), sl_tied⟩)
    (c_tied : PySem.W.codeIn K cd_tied "tied" = true)
    (k_tied : PySem.W.keepIn K (.ref f_tied) = true)
    (a_law_bag : PySem.W.nsIn K mainGlobals "_law_bag" = some (some (.ref f_law_bag)))
    (l_law_bag : K.lookup f_law_bag = some ⟨oc_law_bag, od_law_bag, .func (PySem.W.fnOf "_law_bag" "_law_bag" (defArgs sBag) (defBody sBag) (defScope sBag) .none kV_law_bag dc_law_bag pm_law_bag an_law_bag cd_law_bag ct_law_bag), sl_law_bag⟩)
    (c_law_bag : PySem.W.codeIn K cd_law_bag "_law_bag" = true)
    (k_law_bag : PySem.W.keepIn K (.ref f_law_bag) = true)
    (a_law_take : PySem.W.nsIn K mainGlobals "_law_take" = some (some (.ref f_law_take)))
    (l_law_take : K.lookup f_law_take = some ⟨oc_law_take, od_law_take, .func (PySem.W.fnOf "_law_take" "_law_take" (defArgs sTake) (defBody sTake) (defScope sTake) .none kV_law_take dc_law_take pm_law_take an_law_take cd_law_take ct_law_take), sl_law_take⟩)
    (c_law_take : PySem.W.codeIn K cd_law_take "_law_take" = true)
    (k_law_take : PySem.W.keepIn K (.ref f_law_take) = true)
    (a_law_name : PySem.W.nsIn K mainGlobals "_law_name" = some (some (.ref f_law_name)))
    (l_law_name : K.lookup f_law_name = some ⟨oc_law_name, od_law_name, .func (PySem.W.fnOf "_law_name" "_law_name" (defArgs sLawName) (defBody sLawName) (defScope sLawName) .none kV_law_name dc_law_name pm_law_name an_law_name cd_law_name ct_law_name), sl_law_name⟩)
    (c_law_name : PySem.W.codeIn K cd_law_name "_law_name" = true)
    (k_law_name : PySem.W.keepIn K (.ref f_law_name) = true)
    (a_law_names : PySem.W.nsIn K mainGlobals "_law_names" = some (some (.ref f_law_names)))
    (l_law_names : K.lookup f_law_names = some ⟨oc_law_names, od_law_names, .func (PySem.W.fnOf "_law_names" "_law_names" (defArgs sLawNames) (defBody sLawNames) (defScope sLawNames) .none kV_law_names dc_law_names pm_law_names an_law_names cd_law_names ct_law_names), sl_law_names⟩)
    (c_law_names : PySem.W.codeIn K cd_law_names "_law_names" = true)
    (k_law_names : PySem.W.keepIn K (.ref f_law_names) = true)
    (a_law_planted_rows : PySem.W.nsIn K mainGlobals "_law_planted_rows" = some (some (.ref f_law_planted_rows)))
    (l_law_planted_rows : K.lookup f_law_planted_rows = some ⟨oc_law_planted_rows, od_law_planted_rows, .func (PySem.W.fnOf "_law_planted_rows" "_law_planted_rows" (defArgs sLawPlantedRows) (defBody sLawPlantedRows) (defScope sLawPlantedRows) .none kV_law_planted_rows dc_law_planted_rows pm_law_planted_rows an_law_planted_rows cd_law_planted_rows ct_law_planted_rows), sl_law_planted_rows⟩)
    (c_law_planted_rows : PySem.W.codeIn K cd_law_planted_rows "_law_planted_rows" = true)
    (k_law_planted_rows : PySem.W.keepIn K (.ref f_law_planted_rows) = true)
    (a_law_flipped : PySem.W.nsIn K mainGlobals "_law_flipped" = some (some (.ref f_law_flipped)))
    (l_law_flipped : K.lookup f_law_flipped = some ⟨oc_law_flipped, od_law_flipped, .func (PySem.W.fnOf "_law_flipped" "_law_flipped" (defArgs sLawFlipped) (defBody sLawFlipped) (defScope sLawFlipped) .none kV_law_flipped dc_law_flipped pm_law_flipped an_law_flipped cd_law_flipped ct_law_flipped), sl_law_flipped⟩)
    (c_law_flipped : PySem.W.codeIn K cd_law_flipped "_law_flipped" = true)
    (k_law_flipped : PySem.W.keepIn K (.ref f_law_flipped) = true)
    (a_law_seen : PySem.W.nsIn K mainGlobals "_law_seen" = some (some (.ref f_law_seen)))
    (l_law_seen : K.lookup f_law_seen = some ⟨oc_law_seen, od_law_seen, .func (PySem.W.fnOf "_law_seen" "_law_seen" (defArgs sLawSeen) (defBody sLawSeen) (defScope sLawSeen) .none kV_law_seen dc_law_seen pm_law_seen an_law_seen cd_law_seen ct_law_seen), sl_law_seen⟩)
    (c_law_seen : PySem.W.codeIn K cd_law_seen "_law_seen" = true)
    (k_law_seen : PySem.W.keepIn K (.ref f_law_seen) = true)
    (a_law_given : PySem.W.nsIn K mainGlobals "_law_given" = some (some (.ref f_law_given)))
    (l_law_given : K.lookup f_law_given = some ⟨oc_law_given, od_law_given, .func (PySem.W.fnOf "_law_given" "_law_given" (defArgs sLawGiven) (defBody sLawGiven) (defScope sLawGiven) .none kV_law_given dc_law_given pm_law_given an_law_given cd_law_given ct_law_given), sl_law_given⟩)
    (c_law_given : PySem.W.codeIn K cd_law_given "_law_given" = true)
    (k_law_given : PySem.W.keepIn K (.ref f_law_given) = true)
    (a_law_perms : PySem.W.nsIn K mainGlobals "_law_perms" = some (some (.ref f_law_perms)))
    (l_law_perms : K.lookup f_law_perms = some ⟨oc_law_perms, od_law_perms, .func (PySem.W.fnOf "_law_perms" "_law_perms" (defArgs sLawPerms) (defBody sLawPerms) (defScope sLawPerms) .none kV_law_perms dc_law_perms pm_law_perms an_law_perms cd_law_perms ct_law_perms), sl_law_perms⟩)
    (c_law_perms : PySem.W.codeIn K cd_law_perms "_law_perms" = true)
    (k_law_perms : PySem.W.keepIn K (.ref f_law_perms) = true)
    (a_law_fits_order : PySem.W.nsIn K mainGlobals "_law_fits_order" = some (some (.ref f_law_fits_order)))
    (l_law_fits_order : K.lookup f_law_fits_order = some ⟨oc_law_fits_order, od_law_fits_order, .func (PySem.W.fnOf "_law_fits_order" "_law_fits_order" (defArgs sLawFitsOrder) (defBody sLawFitsOrder) (defScope sLawFitsOrder) .none kV_law_fits_order dc_law_fits_order pm_law_fits_order an_law_fits_order cd_law_fits_order ct_law_fits_order), sl_law_fits_order⟩)
    (c_law_fits_order : PySem.W.codeIn K cd_law_fits_order "_law_fits_order" = true)
    (k_law_fits_order : PySem.W.keepIn K (.ref f_law_fits_order) = true)
    (a_law_keeps : PySem.W.nsIn K mainGlobals "_law_keeps" = some (some (.ref f_law_keeps)))
    (l_law_keeps : K.lookup f_law_keeps = some ⟨oc_law_keeps, od_law_keeps, .func (PySem.W.fnOf "_law_keeps" "_law_keeps" (defArgs sLawKeeps) (defBody sLawKeeps) (defScope sLawKeeps) .none kV_law_keeps dc_law_keeps pm_law_keeps an_law_keeps cd_law_keeps ct_law_keeps), sl_law_keeps⟩)
    (c_law_keeps : PySem.W.codeIn K cd_law_keeps "_law_keeps" = true)
    (k_law_keeps : PySem.W.keepIn K (.ref f_law_keeps) = true)
    (a_law_good : PySem.W.nsIn K mainGlobals "_law_good" = some (some (.ref f_law_good)))
    (l_law_good : K.lookup f_law_good = some ⟨oc_law_good, od_law_good, .func (PySem.W.fnOf "_law_good" "_law_good" (defArgs sLawGood) (defBody sLawGood) (defScope sLawGood) .none kV_law_good dc_law_good pm_law_good an_law_good cd_law_good ct_law_good), sl_law_good⟩)
    (c_law_good : PySem.W.codeIn K cd_law_good "_law_good" = true)
    (k_law_good : PySem.W.keepIn K (.ref f_law_good) = true)
    (a_law_pair : PySem.W.nsIn K mainGlobals "_law_pair" = some (some (.ref f_law_pair)))
    (l_law_pair : K.lookup f_law_pair = some ⟨oc_law_pair, od_law_pair, .func (PySem.W.fnOf "_law_pair" "_law_pair" (defArgs sLawPair) (defBody sLawPair) (defScope sLawPair) .none kV_law_pair dc_law_pair pm_law_pair an_law_pair cd_law_pair ct_law_pair), sl_law_pair⟩)
    (c_law_pair : PySem.W.codeIn K cd_law_pair "_law_pair" = true)
    (k_law_pair : PySem.W.keepIn K (.ref f_law_pair) = true)
    (a_law : PySem.W.nsIn K mainGlobals "law" = some (some (.ref f_law)))
    (l_law : K.lookup f_law = some ⟨oc_law, od_law, .func (PySem.W.fnOf "law" "law" (defArgs sLaw) (defBody sLaw) (defScope sLaw) .none kV_law dc_law pm_law an_law cd_law ct_law), sl_law⟩)
    (c_law : PySem.W.codeIn K cd_law "law" = true)
    (k_law : PySem.W.keepIn K (.ref f_law) = true)
    (a_InvalidName : PySem.W.nsIn K mainGlobals "InvalidName" = some (some (.ref C_InvalidName)))
    (x_InvalidName : K.lookup C_InvalidName = some (excClassObj nm_InvalidName q_InvalidName C_InvalidName N_InvalidName bs_InvalidName bm_InvalidName true sn_InvalidName sub_InvalidName ab_InvalidName col_InvalidName dd_InvalidName m0_InvalidName m1_InvalidName m2_InvalidName m3_InvalidName m5_InvalidName "ValueError.__new__"))
    (hb_InvalidName : PySem.HandSPX.refsVE bm_InvalidName = true)
    (sa_InvalidName : PySem.W.findIn K (.ref C_InvalidName) "__setattr__" = some (some (.builtin "object.__setattr__")))
    (e_InvalidName : PySem.W.subIn K (.ref C_InvalidName) (.type "BaseException") = some true)
    (tc_InvalidName : PySem.W.typeIn K (.ref C_InvalidName) = some (.type "type"))
    (kc_InvalidName : PySem.W.keepIn K (.ref C_InvalidName) = true)
    (no_InvalidName : PySem.W.findIn K (.ref C_InvalidName) "name" = some none)
    (i_InvalidName : PySem.W.findIn K (.ref C_InvalidName) "__init__" = some (some (.ref f_InvalidName)))
    (ti_InvalidName : PySem.W.typeIn K (.ref f_InvalidName) = some (.type "function"))
    (l_InvalidName : K.lookup f_InvalidName = some ⟨oc_InvalidName, od_InvalidName, .func (PySem.W.fnOf "__init__" "InvalidName.__init__" (defArgs sInv) (defBody sInv) (defScope sInv) .none kV_InvalidName dc_InvalidName pm_InvalidName an_InvalidName cd_InvalidName ct_InvalidName), sl_InvalidName⟩)
    (c_InvalidName : PySem.W.codeIn K cd_InvalidName "InvalidName.__init__" = true)
    (k_InvalidName : PySem.W.keepIn K (.ref f_InvalidName) = true)
    (a_DuplicateName : PySem.W.nsIn K mainGlobals "DuplicateName" = some (some (.ref C_DuplicateName)))
    (x_DuplicateName : K.lookup C_DuplicateName = some (excClassObj nm_DuplicateName q_DuplicateName C_DuplicateName N_DuplicateName bs_DuplicateName bm_DuplicateName true sn_DuplicateName sub_DuplicateName ab_DuplicateName col_DuplicateName dd_DuplicateName m0_DuplicateName m1_DuplicateName m2_DuplicateName m3_DuplicateName m5_DuplicateName "ValueError.__new__"))
    (hb_DuplicateName : PySem.HandSPX.refsVE bm_DuplicateName = true)
    (sa_DuplicateName : PySem.W.findIn K (.ref C_DuplicateName) "__setattr__" = some (some (.builtin "object.__setattr__")))
    (e_DuplicateName : PySem.W.subIn K (.ref C_DuplicateName) (.type "BaseException") = some true)
    (tc_DuplicateName : PySem.W.typeIn K (.ref C_DuplicateName) = some (.type "type"))
    (kc_DuplicateName : PySem.W.keepIn K (.ref C_DuplicateName) = true)
    (no_DuplicateName : PySem.W.findIn K (.ref C_DuplicateName) "name" = some none)
    (i_DuplicateName : PySem.W.findIn K (.ref C_DuplicateName) "__init__" = some (some (.ref f_DuplicateName)))
    (ti_DuplicateName : PySem.W.typeIn K (.ref f_DuplicateName) = some (.type "function"))
    (l_DuplicateName : K.lookup f_DuplicateName = some ⟨oc_DuplicateName, od_DuplicateName, .func (PySem.W.fnOf "__init__" "DuplicateName.__init__" (defArgs sDup) (defBody sDup) (defScope sDup) .none kV_DuplicateName dc_DuplicateName pm_DuplicateName an_DuplicateName cd_DuplicateName ct_DuplicateName), sl_DuplicateName⟩)
    (c_DuplicateName : PySem.W.codeIn K cd_DuplicateName "DuplicateName.__init__" = true)
    (k_DuplicateName : PySem.W.keepIn K (.ref f_DuplicateName) = true)
    (a_UnknownName : PySem.W.nsIn K mainGlobals "UnknownName" = some (some (.ref C_UnknownName)))
    (x_UnknownName : K.lookup C_UnknownName = some (excClassObj nm_UnknownName q_UnknownName C_UnknownName N_UnknownName bs_UnknownName bm_UnknownName true sn_UnknownName sub_UnknownName ab_UnknownName col_UnknownName dd_UnknownName m0_UnknownName m1_UnknownName m2_UnknownName m3_UnknownName m5_UnknownName "ValueError.__new__"))
    (hb_UnknownName : PySem.HandSPX.refsVE bm_UnknownName = true)
    (sa_UnknownName : PySem.W.findIn K (.ref C_UnknownName) "__setattr__" = some (some (.builtin "object.__setattr__")))
    (e_UnknownName : PySem.W.subIn K (.ref C_UnknownName) (.type "BaseException") = some true)
    (tc_UnknownName : PySem.W.typeIn K (.ref C_UnknownName) = some (.type "type"))
    (kc_UnknownName : PySem.W.keepIn K (.ref C_UnknownName) = true)
    (no_UnknownName : PySem.W.findIn K (.ref C_UnknownName) "name" = some none)
    (i_UnknownName : PySem.W.findIn K (.ref C_UnknownName) "__init__" = some (some (.ref f_UnknownName)))
    (ti_UnknownName : PySem.W.typeIn K (.ref f_UnknownName) = some (.type "function"))
    (l_UnknownName : K.lookup f_UnknownName = some ⟨oc_UnknownName, od_UnknownName, .func (PySem.W.fnOf "__init__" "UnknownName.__init__" (defArgs sUnk) (defBody sUnk) (defScope sUnk) .none kV_UnknownName dc_UnknownName pm_UnknownName an_UnknownName cd_UnknownName ct_UnknownName), sl_UnknownName⟩)
    (c_UnknownName : PySem.W.codeIn K cd_UnknownName "UnknownName.__init__" = true)
    (k_UnknownName : PySem.W.keepIn K (.ref f_UnknownName) = true)
    (a_TooMany : PySem.W.nsIn K mainGlobals "TooMany" = some (some (.ref C_TooMany)))
    (x_TooMany : K.lookup C_TooMany = some (excClassObj nm_TooMany q_TooMany C_TooMany N_TooMany bs_TooMany bm_TooMany true sn_TooMany sub_TooMany ab_TooMany col_TooMany dd_TooMany m0_TooMany m1_TooMany m2_TooMany m3_TooMany m5_TooMany "ValueError.__new__"))
    (hb_TooMany : PySem.HandSPX.refsVE bm_TooMany = true)
    (sa_TooMany : PySem.W.findIn K (.ref C_TooMany) "__setattr__" = some (some (.builtin "object.__setattr__")))
    (e_TooMany : PySem.W.subIn K (.ref C_TooMany) (.type "BaseException") = some true)
    (tc_TooMany : PySem.W.typeIn K (.ref C_TooMany) = some (.type "type"))
    (kc_TooMany : PySem.W.keepIn K (.ref C_TooMany) = true)
    (no_TooMany : PySem.W.findIn K (.ref C_TooMany) "limit" = some none)
    (i_TooMany : PySem.W.findIn K (.ref C_TooMany) "__init__" = some (some (.ref f_TooMany)))
    (ti_TooMany : PySem.W.typeIn K (.ref f_TooMany) = some (.type "function"))
    (l_TooMany : K.lookup f_TooMany = some ⟨oc_TooMany, od_TooMany, .func (PySem.W.fnOf "__init__" "TooMany.__init__" (defArgs sMany) (defBody sMany) (defScope sMany) .none kV_TooMany dc_TooMany pm_TooMany an_TooMany cd_TooMany ct_TooMany), sl_TooMany⟩)
    (c_TooMany : PySem.W.codeIn K cd_TooMany "TooMany.__init__" = true)
    (k_TooMany : PySem.W.keepIn K (.ref f_TooMany) = true)
    (a_InvalidNote : PySem.W.nsIn K mainGlobals "InvalidNote" = some (some (.ref C_InvalidNote)))
    (x_InvalidNote : K.lookup C_InvalidNote = some (excClassObj nm_InvalidNote q_InvalidNote C_InvalidNote N_InvalidNote bs_InvalidNote bm_InvalidNote true sn_InvalidNote sub_InvalidNote ab_InvalidNote col_InvalidNote dd_InvalidNote m0_InvalidNote m1_InvalidNote m2_InvalidNote m3_InvalidNote m5_InvalidNote "ValueError.__new__"))
    (hb_InvalidNote : PySem.HandSPX.refsVE bm_InvalidNote = true)
    (sa_InvalidNote : PySem.W.findIn K (.ref C_InvalidNote) "__setattr__" = some (some (.builtin "object.__setattr__")))
    (e_InvalidNote : PySem.W.subIn K (.ref C_InvalidNote) (.type "BaseException") = some true)
    (tc_InvalidNote : PySem.W.typeIn K (.ref C_InvalidNote) = some (.type "type"))
    (kc_InvalidNote : PySem.W.keepIn K (.ref C_InvalidNote) = true)
    (no_InvalidNote : PySem.W.findIn K (.ref C_InvalidNote) "before" = some none)
    (i_InvalidNote : PySem.W.findIn K (.ref C_InvalidNote) "__init__" = some (some (.ref f_InvalidNote)))
    (ti_InvalidNote : PySem.W.typeIn K (.ref f_InvalidNote) = some (.type "function"))
    (l_InvalidNote : K.lookup f_InvalidNote = some ⟨oc_InvalidNote, od_InvalidNote, .func (PySem.W.fnOf "__init__" "InvalidNote.__init__" (defArgs sInvalidNoteInit) (defBody sInvalidNoteInit) (defScope sInvalidNoteInit) .none kV_InvalidNote dc_InvalidNote pm_InvalidNote an_InvalidNote cd_InvalidNote ct_InvalidNote), sl_InvalidNote⟩)
    (c_InvalidNote : PySem.W.codeIn K cd_InvalidNote "InvalidNote.__init__" = true)
    (k_InvalidNote : PySem.W.keepIn K (.ref f_InvalidNote) = true)
    (a_Table : PySem.W.nsIn K mainGlobals "Table" = some (some (.ref C_Table)))
    (pg_Table : PySem.W.plainGet K C_Table Str.empty = true)
    (hd_Table : PySem.W.hasDictIn K C_Table = true)
    (po_Table : PySem.W.plainOver K C_Table = true)
    (sa_Table : PySem.W.findIn K (.ref C_Table) "__setattr__" = some (some (.builtin "object.__setattr__")))
    (mk_Table : PySem.W.makesIn K C_Table = true)
    (kc_Table : PySem.W.keepIn K (.ref C_Table) = true)
    (n_Table_lamps : PySem.W.findIn K (.ref C_Table) "lamps" = some none)
    (n_Table_looks : PySem.W.findIn K (.ref C_Table) "looks" = some none)
    (n_Table__shown : PySem.W.findIn K (.ref C_Table) "_shown" = some none)
    (i_Table_init : PySem.W.findIn K (.ref C_Table) "__init__" = some (some (.ref f_Table_init)))
    (fn_Table_init : PySem.W.isFn K (.ref f_Table_init) = true)
    (l_Table_init : K.lookup f_Table_init = some ⟨oc_Table_init, od_Table_init, .func (PySem.W.fnOf "__init__" "Table.__init__" (defArgs sTabInit) (defBody sTabInit) (defScope sTabInit) .none kV_Table_init dc_Table_init pm_Table_init an_Table_init cd_Table_init ct_Table_init), sl_Table_init⟩)
    (c_Table_init : PySem.W.codeIn K cd_Table_init "Table.__init__" = true)
    (k_Table_init : PySem.W.keepIn K (.ref f_Table_init) = true)
    (i_Table_seen : PySem.W.findIn K (.ref C_Table) "seen" = some (some (.ref f_Table_seen)))
    (fn_Table_seen : PySem.W.isFn K (.ref f_Table_seen) = true)
    (l_Table_seen : K.lookup f_Table_seen = some ⟨oc_Table_seen, od_Table_seen, .func (PySem.W.fnOf "seen" "Table.seen" (defArgs sTableSeen) (defBody sTableSeen) (defScope sTableSeen) .none kV_Table_seen dc_Table_seen pm_Table_seen an_Table_seen cd_Table_seen ct_Table_seen), sl_Table_seen⟩)
    (c_Table_seen : PySem.W.codeIn K cd_Table_seen "Table.seen" = true)
    (k_Table_seen : PySem.W.keepIn K (.ref f_Table_seen) = true)
    (q_after : PySem.W.findIn K (.ref C_InvalidNote) "after" = some none)
    (z_len : PySem.W.nsIn K mainGlobals "len" = some none)
    (z_int : PySem.W.nsIn K mainGlobals "int" = some none)
    (z_tuple : PySem.W.nsIn K mainGlobals "tuple" = some none)
    (z_abs : PySem.W.nsIn K mainGlobals "abs" = some none)
    (z_isinstance : PySem.W.nsIn K mainGlobals "isinstance" = some none)
    (z_str : PySem.W.nsIn K mainGlobals "str" = some none)
    (z_all : PySem.W.nsIn K mainGlobals "all" = some none)
    (z_list : PySem.W.nsIn K mainGlobals "list" = some none)
    (z_range : PySem.W.nsIn K mainGlobals "range" = some none)
    (z_enumerate : PySem.W.nsIn K mainGlobals "enumerate" = some none)
    (z_sorted : PySem.W.nsIn K mainGlobals "sorted" = some none)
    (z_min : PySem.W.nsIn K mainGlobals "min" = some none)
    (z_max : PySem.W.nsIn K mainGlobals "max" = some none)
    (v_LONGEST : PySem.W.nsIn K mainGlobals "LONGEST" = some (some (.int 12 t_LONGEST)))
    (v_SIGNS : PySem.W.nsIn K mainGlobals "SIGNS" = some (some (.str SG t_SIGNS)))
    (v_LIMIT : PySem.W.nsIn K mainGlobals "LIMIT" = some (some (.int 24 t_LIMIT))) :
    ∃ fd : FuncData, (∀ (s : Shared) (v : Value), BindsTo s fd ⟨[v], []⟩ [("_law_script", v)]) ∧ ∀ base : Heap, K.In base → base.Ns mainGlobals mg → FnOk l.prog w K mg base CX0 10 fa fd ["_law_script"] (spLaw23 K) := by
  have e := hfa.symm.trans (PySem.W.mg_of X G a_law)
  cases e
  have n_len := PySem.W.mg_none_of X G z_len
  have n_int := PySem.W.mg_none_of X G z_int
  have n_tuple := PySem.W.mg_none_of X G z_tuple
  have n_abs := PySem.W.mg_none_of X G z_abs
  have n_isinstance := PySem.W.mg_none_of X G z_isinstance
  have n_str := PySem.W.mg_none_of X G z_str
  have n_all := PySem.W.mg_none_of X G z_all
  have n_list := PySem.W.mg_none_of X G z_list
  have n_range := PySem.W.mg_none_of X G z_range
  have n_enumerate := PySem.W.mg_none_of X G z_enumerate
  have n_sorted := PySem.W.mg_none_of X G z_sorted
  have n_min := PySem.W.mg_none_of X G z_min
  have n_max := PySem.W.mg_none_of X G z_max
  have TB : TxtB mg := ⟨n_len, n_int, n_abs⟩
  have TN : TxtN mg := ⟨n_isinstance, n_str, n_len, n_all, ⟨_, PySem.W.mg_of X G v_LONGEST⟩, ⟨_, PySem.W.mg_of X G v_SIGNS⟩⟩
  have TM : TxtM mg := ⟨n_range, n_len, n_str⟩
  have TR : TxtR mg := ⟨n_range, n_len, n_list⟩
  have TP : TxtP mg := ⟨n_len, n_int, n_range⟩
  have TL : TxtL23 mg := ⟨n_list⟩
  have TC : TxtCo mg := ⟨n_len, n_max, n_min, n_all, n_sorted, n_enumerate⟩
  have cl : Cls K C_Table := ⟨pg_Table, hd_Table, po_Table, sa_Table⟩
  have TT : TxtT K mg C_Table := ⟨cl, n_Table_lamps, n_Table_looks, n_Table__shown, n_len, n_tuple, ⟨_, PySem.W.mg_of X G v_LIMIT⟩⟩
  have E_N : ErrN K mg C_InvalidNote f_InvalidNote := ⟨⟨⟨_, _, _, _, _, _, _, _, _, _, _, _, _, _, _, x_InvalidNote, hb_InvalidNote⟩, sa_InvalidNote, e_InvalidNote, tc_InvalidNote, kc_InvalidNote⟩, PySem.W.mg_of X G a_InvalidNote, i_InvalidNote, ti_InvalidNote, no_InvalidNote, q_after⟩
  have E_InvalidName : ErrC K mg "InvalidName" "name" C_InvalidName f_InvalidName := ⟨⟨⟨_, _, _, _, _, _, _, _, _, _, _, _, _, _, _, x_InvalidName, hb_InvalidName⟩, sa_InvalidName, e_InvalidName, tc_InvalidName, kc_InvalidName⟩, PySem.W.mg_of X G a_InvalidName, i_InvalidName, ti_InvalidName, no_InvalidName⟩
  have E_DuplicateName : ErrC K mg "DuplicateName" "name" C_DuplicateName f_DuplicateName := ⟨⟨⟨_, _, _, _, _, _, _, _, _, _, _, _, _, _, _, x_DuplicateName, hb_DuplicateName⟩, sa_DuplicateName, e_DuplicateName, tc_DuplicateName, kc_DuplicateName⟩, PySem.W.mg_of X G a_DuplicateName, i_DuplicateName, ti_DuplicateName, no_DuplicateName⟩
  have E_UnknownName : ErrC K mg "UnknownName" "name" C_UnknownName f_UnknownName := ⟨⟨⟨_, _, _, _, _, _, _, _, _, _, _, _, _, _, _, x_UnknownName, hb_UnknownName⟩, sa_UnknownName, e_UnknownName, tc_UnknownName, kc_UnknownName⟩, PySem.W.mg_of X G a_UnknownName, i_UnknownName, ti_UnknownName, no_UnknownName⟩
  have E_TooMany : ErrC K mg "TooMany" "limit" C_TooMany f_TooMany := ⟨⟨⟨_, _, _, _, _, _, _, _, _, _, _, _, _, _, _, x_TooMany, hb_TooMany⟩, sa_TooMany, e_TooMany, tc_TooMany, kc_TooMany⟩, PySem.W.mg_of X G a_TooMany, i_TooMany, ti_TooMany, no_TooMany⟩
  let cs : Cs := ⟨C_InvalidName, C_DuplicateName, C_UnknownName, C_TooMany⟩
  have F_InvalidName := fun_mk (st := sInv) l_InvalidName c_InvalidName k_InvalidName
  have b_InvalidName := F_InvalidName.binds (ps := ["self", "name"]) fun _ _ _ _ _ _ us hl => match us, hl with | [_, _], _ => rfl
  have F_DuplicateName := fun_mk (st := sDup) l_DuplicateName c_DuplicateName k_DuplicateName
  have b_DuplicateName := F_DuplicateName.binds (ps := ["self", "name"]) fun _ _ _ _ _ _ us hl => match us, hl with | [_, _], _ => rfl
  have F_UnknownName := fun_mk (st := sUnk) l_UnknownName c_UnknownName k_UnknownName
  have b_UnknownName := F_UnknownName.binds (ps := ["self", "name"]) fun _ _ _ _ _ _ us hl => match us, hl with | [_, _], _ => rfl
  have F_TooMany := fun_mk (st := sMany) l_TooMany c_TooMany k_TooMany
  have b_TooMany := F_TooMany.binds (ps := ["self", "limit"]) fun _ _ _ _ _ _ us hl => match us, hl with | [_, _], _ => rfl
  have F_InvalidNote := fun_mk (st := sInvalidNoteInit) l_InvalidNote c_InvalidNote k_InvalidNote
  have b_InvalidNote := F_InvalidNote.binds (ps := ["self", "before", "after"]) fun _ _ _ _ _ _ us hl => match us, hl with | [_, _, _], _ => rfl
  have F_is_name := fun_mk (st := sIsName) l_is_name c_is_name k_is_name
  have b_is_name := F_is_name.binds (ps := ["value"]) fun _ _ _ _ _ _ us hl => match us, hl with | [_], _ => rfl
  have F_check_name := fun_mk (st := sCheckName) l_check_name c_check_name k_check_name
  have b_check_name := F_check_name.binds (ps := ["name"]) fun _ _ _ _ _ _ us hl => match us, hl with | [_], _ => rfl
  have F_check_new := fun_mk (st := sCheckNew) l_check_new c_check_new k_check_new
  have b_check_new := F_check_new.binds (ps := ["name", "earlier"]) fun _ _ _ _ _ _ us hl => match us, hl with | [_, _], _ => rfl
  have F_check_known := fun_mk (st := sCheckKnown) l_check_known c_check_known k_check_known
  have b_check_known := F_check_known.binds (ps := ["name", "names"]) fun _ _ _ _ _ _ us hl => match us, hl with | [_, _], _ => rfl
  have F_check_all_known := fun_mk (st := sCheckAll) l_check_all_known c_check_all_known k_check_all_known
  have b_check_all_known := F_check_all_known.binds (ps := ["chosen", "names"]) fun _ _ _ _ _ _ us hl => match us, hl with | [_, _], _ => rfl
  have F_distinct_names := fun_mk (st := sDistinct) l_distinct_names c_distinct_names k_distinct_names
  have b_distinct_names := F_distinct_names.binds (ps := ["names"]) fun _ _ _ _ _ _ us hl => match us, hl with | [_], _ => rfl
  have F_check_shown := fun_mk (st := sCheckShown) l_check_shown c_check_shown k_check_shown
  have b_check_shown := F_check_shown.binds (ps := ["shown", "lamps"]) fun _ _ _ _ _ _ us hl => match us, hl with | [_, _], _ => rfl
  have F_chosen_of := fun_mk (st := sChosen) l_chosen_of c_chosen_of k_chosen_of
  have b_chosen_of := F_chosen_of.binds (ps := ["names", "chosen"]) fun _ _ _ _ _ _ us hl => match us, hl with | [_, _], _ => rfl
  have F_check_pair := fun_mk (st := sCheckPair) l_check_pair c_check_pair k_check_pair
  have b_check_pair := F_check_pair.binds (ps := ["table", "pair"]) fun _ _ _ _ _ _ us hl => match us, hl with | [_, _], _ => rfl
  have F_reached := fun_mk (st := sReached) l_reached c_reached k_reached
  have b_reached := F_reached.binds (ps := ["leads", "start", "end"]) fun _ _ _ _ _ _ us hl => match us, hl with | [_, _, _], _ => rfl
  have F_leads := fun_mk (st := sLeads) l_leads c_leads k_leads
  have b_leads := F_leads.binds (ps := ["table"]) fun _ _ _ _ _ _ us hl => match us, hl with | [_], _ => rfl
  have F_tied := fun_mk (st := sTied) l_tied c_tied k_tied
  have b_tied := F_tied.binds (ps := ["table", "pair"]) fun _ _ _ _ _ _ us hl => match us, hl with | [_, _], _ => rfl
  have F_law_bag := fun_mk (st := sBag) l_law_bag c_law_bag k_law_bag
  have b_law_bag := F_law_bag.binds (ps := ["_law_script"]) fun _ _ _ _ _ _ us hl => match us, hl with | [_], _ => rfl
  have F_law_take := fun_mk (st := sTake) l_law_take c_law_take k_law_take
  have b_law_take := F_law_take.binds (ps := ["_law_bag_here", "_law_size"]) fun _ _ _ _ _ _ us hl => match us, hl with | [_, _], _ => rfl
  have F_law_name := fun_mk (st := sLawName) l_law_name c_law_name k_law_name
  have b_law_name := F_law_name.binds (ps := ["_law_bag_here", "_law_used"]) fun _ _ _ _ _ _ us hl => match us, hl with | [_, _], _ => rfl
  have F_law_names := fun_mk (st := sLawNames) l_law_names c_law_names k_law_names
  have b_law_names := F_law_names.binds (ps := ["_law_bag_here", "_law_count"]) fun _ _ _ _ _ _ us hl => match us, hl with | [_, _], _ => rfl
  have F_law_planted_rows := fun_mk (st := sLawPlantedRows) l_law_planted_rows c_law_planted_rows k_law_planted_rows
  have b_law_planted_rows := F_law_planted_rows.binds (ps := ["_law_bag_here", "_law_lamps", "_law_looks"]) fun _ _ _ _ _ _ us hl => match us, hl with | [_, _, _], _ => rfl
  have F_law_flipped := fun_mk (st := sLawFlipped) l_law_flipped c_law_flipped k_law_flipped
  have b_law_flipped := F_law_flipped.binds (ps := ["_law_bag_here", "_law_lamps", "_law_rows"]) fun _ _ _ _ _ _ us hl => match us, hl with | [_, _, _], _ => rfl
  have F_law_seen := fun_mk (st := sLawSeen) l_law_seen c_law_seen k_law_seen
  have b_law_seen := F_law_seen.binds (ps := ["_law_rows", "_law_lamp"]) fun _ _ _ _ _ _ us hl => match us, hl with | [_, _], _ => rfl
  have F_law_given := fun_mk (st := sLawGiven) l_law_given c_law_given k_law_given
  have b_law_given := F_law_given.binds (ps := ["_law_rows", "_law_way"]) fun _ _ _ _ _ _ us hl => match us, hl with | [_, _], _ => rfl
  have F_law_perms := fun_mk (st := sLawPerms) l_law_perms c_law_perms k_law_perms
  have b_law_perms := F_law_perms.binds (ps := ["_law_names_here"]) fun _ _ _ _ _ _ us hl => match us, hl with | [_], _ => rfl
  have F_law_fits_order := fun_mk (st := sLawFitsOrder) l_law_fits_order c_law_fits_order k_law_fits_order
  have b_law_fits_order := F_law_fits_order.binds (ps := ["_law_lamps", "_law_rows", "_law_order"]) fun _ _ _ _ _ _ us hl => match us, hl with | [_, _, _], _ => rfl
  have F_law_keeps := fun_mk (st := sLawKeeps) l_law_keeps c_law_keeps k_law_keeps
  have b_law_keeps := F_law_keeps.binds (ps := ["_law_pairs", "_law_order"]) fun _ _ _ _ _ _ us hl => match us, hl with | [_, _], _ => rfl
  have F_law_good := fun_mk (st := sLawGood) l_law_good c_law_good k_law_good
  have b_law_good := F_law_good.binds (ps := ["_law_lamps", "_law_rows", "_law_pairs"]) fun _ _ _ _ _ _ us hl => match us, hl with | [_, _, _], _ => rfl
  have F_law_pair := fun_mk (st := sLawPair) l_law_pair c_law_pair k_law_pair
  have b_law_pair := F_law_pair.binds (ps := ["_law_bag_here", "_law_looks"]) fun _ _ _ _ _ _ us hl => match us, hl with | [_, _], _ => rfl
  have F_Table_init := fun_mk (st := sTabInit) l_Table_init c_Table_init k_Table_init
  have b_Table_init := F_Table_init.binds (ps := ["self", "lamps", "looks"]) fun _ _ _ _ _ _ us hl => match us, hl with | [_, _, _], _ => rfl
  have F_Table_seen := fun_mk (st := sTableSeen) l_Table_seen c_Table_seen k_Table_seen
  have b_Table_seen := F_Table_seen.binds (ps := ["self", "lamp"]) fun _ _ _ _ _ _ us hl => match us, hl with | [_, _], _ => rfl
  have mT := PySem.W.mg_of X G a_Table
  refine ⟨_, fun s v => .of_eq rfl, fun base _ _ => ok_law23 (C := cs) (CT := C_Table) (CI := C_InvalidNote) (fun_mk (st := sLaw) l_law c_law k_law) TL mT ?_ ?_ ?_ ?_ ?_ ?_ ?_ ?_ ?_ ?_⟩
  · have xI : Ex l.prog w K mg base "InvalidName" "name" cs.inv := ⟨_, _, E_InvalidName, b_InvalidName, ok_einv F_InvalidName E_InvalidName⟩
    have xD : Ex l.prog w K mg base "DuplicateName" "name" cs.dup := ⟨_, _, E_DuplicateName, b_DuplicateName, ok_edup F_DuplicateName E_DuplicateName⟩
    have xU : Ex l.prog w K mg base "UnknownName" "name" cs.unk := ⟨_, _, E_UnknownName, b_UnknownName, ok_eunk F_UnknownName E_UnknownName⟩
    have xM : Ex l.prog w K mg base "TooMany" "limit" cs.many := ⟨_, _, E_TooMany, b_TooMany, ok_emany F_TooMany E_TooMany⟩
    have gN : Dfn l.prog w K mg base CX0 1 "is_name" ["value"] (spIsName K) := ⟨_, _, PySem.W.mg_of X G a_is_name, F_is_name.kp, b_is_name, ok_isname F_is_name TN⟩
    have gCN : Dfn l.prog w K mg base (L2.CX l.prog w) 3 "check_name" ["name"] (spCheckName cs) := ⟨_, _, PySem.W.mg_of X G a_check_name, F_check_name.kp, b_check_name, ok_checkname F_check_name gN xI⟩
    have gK : Dfn l.prog w K mg base (L2.CX l.prog w) 4 "check_known" ["name", "names"] (spKnown K cs) := ⟨_, _, PySem.W.mg_of X G a_check_known, F_check_known.kp, b_check_known, ok_known F_check_known TN xU⟩
    have gNL : Dfn l.prog w K mg base (L2.CX l.prog w) 4 "check_new" ["name", "earlier"] (spNewL K cs) := ⟨_, _, PySem.W.mg_of X G a_check_new, F_check_new.kp, b_check_new, ok_newL F_check_new gCN xD⟩
    have gND : Dfn l.prog w K mg base (L2.CX l.prog w) 4 "check_new" ["name", "earlier"] (spNewD K cs) := ⟨_, _, PySem.W.mg_of X G a_check_new, F_check_new.kp, b_check_new, ok_newD F_check_new gCN xD⟩
    have gD : Dfn l.prog w K mg base (L2.CX l.prog w) 6 "distinct_names" ["names"] (spDistinct K cs) := ⟨_, _, PySem.W.mg_of X G a_distinct_names, F_distinct_names.kp, b_distinct_names, ok_distinct F_distinct_names n_tuple gNL⟩
    have gS : Dfn l.prog w K mg base (L2.CX l.prog w) 6 "_check_shown" ["shown", "lamps"] (spShown2 K cs) := ⟨_, _, PySem.W.mg_of X G a_check_shown, F_check_shown.kp, b_check_shown, ok_shown2 F_check_shown n_enumerate gK xD⟩
    have gC : Dfn l.prog w K mg base CX0 1 "_chosen_of" ["names", "chosen"] (spChosen K) := ⟨_, _, PySem.W.mg_of X G a_chosen_of, F_chosen_of.kp, b_chosen_of, ok_chosen F_chosen_of n_tuple⟩
    have ini : ∃ fT fdT, Mk K C_Table fT ∧ Binds K fdT ["self", "lamps", "looks"] [] ∧ FnOk l.prog w K mg base (L2.CX l.prog w) 8 fT fdT ["self", "lamps", "looks"] (spTabInit2 K C_Table cs) := ⟨_, _, ⟨mk_Table, i_Table_init, fn_Table_init, kc_Table⟩, b_Table_init, ok_tabinit2 F_Table_init TT xM gD gND gS gC⟩
    exact ini
  · have xI : Ex l.prog w K mg base "InvalidName" "name" cs.inv := ⟨_, _, E_InvalidName, b_InvalidName, ok_einv F_InvalidName E_InvalidName⟩
    have xD : Ex l.prog w K mg base "DuplicateName" "name" cs.dup := ⟨_, _, E_DuplicateName, b_DuplicateName, ok_edup F_DuplicateName E_DuplicateName⟩
    have xU : Ex l.prog w K mg base "UnknownName" "name" cs.unk := ⟨_, _, E_UnknownName, b_UnknownName, ok_eunk F_UnknownName E_UnknownName⟩
    have xM : Ex l.prog w K mg base "TooMany" "limit" cs.many := ⟨_, _, E_TooMany, b_TooMany, ok_emany F_TooMany E_TooMany⟩
    have gN : Dfn l.prog w K mg base CX0 1 "is_name" ["value"] (spIsName K) := ⟨_, _, PySem.W.mg_of X G a_is_name, F_is_name.kp, b_is_name, ok_isname F_is_name TN⟩
    have gCN : Dfn l.prog w K mg base (L2.CX l.prog w) 3 "check_name" ["name"] (spCheckName cs) := ⟨_, _, PySem.W.mg_of X G a_check_name, F_check_name.kp, b_check_name, ok_checkname F_check_name gN xI⟩
    have gK : Dfn l.prog w K mg base (L2.CX l.prog w) 4 "check_known" ["name", "names"] (spKnown K cs) := ⟨_, _, PySem.W.mg_of X G a_check_known, F_check_known.kp, b_check_known, ok_known F_check_known TN xU⟩
    have TABT : TabT l.prog w K mg base C_Table cs := ⟨cl, n_Table_lamps, n_Table_looks, n_Table__shown, n_tuple, n_len, gK⟩
    have gSe : ∃ f fd, Meth K C_Table "seen" f ∧ Binds K fd ["self", "lamp"] [] ∧ FnOk l.prog w K mg base (L2.CX l.prog w) 5 f fd ["self", "lamp"] (spTSeen K C_Table cs) := ⟨_, _, ⟨i_Table_seen, fn_Table_seen, F_Table_seen.kp⟩, b_Table_seen, ok_tseen F_Table_seen TABT⟩
    have xN : NoteX l.prog w K mg base C_InvalidNote := ⟨_, _, E_N, b_InvalidNote, ok_enote F_InvalidNote E_N⟩
    have gA : Dfn l.prog w K mg base (L2.CX l.prog w) 5 "check_all_known" ["chosen", "names"] (spAllKnown K cs) := ⟨_, _, PySem.W.mg_of X G a_check_all_known, F_check_all_known.kp, b_check_all_known, ok_checkall F_check_all_known gK⟩
    have gCP : Dfn l.prog w K mg base (L2.CX l.prog w) 6 "check_pair" ["table", "pair"] (spCheckPair C_Table C_InvalidNote cs) := ⟨_, _, PySem.W.mg_of X G a_check_pair, F_check_pair.kp, b_check_pair, ok_checkpair F_check_pair TABT gA xN⟩
    have gLe : Dfn l.prog w K mg base CX0 6 "_leads" ["table"] (spLeads C_Table) := ⟨_, _, PySem.W.mg_of X G a_leads, F_leads.kp, b_leads, ok_leads F_leads TABT gSe⟩
    have gRe : Dfn l.prog w K mg base CX0 1 "reached" ["leads", "start", "end"] spReachedP := ⟨_, _, PySem.W.mg_of X G a_reached, F_reached.kp, b_reached, ok_reachedP F_reached ⟨n_len, n_list⟩⟩
    exact ⟨_, _, PySem.W.mg_of X G a_tied, F_tied.kp, b_tied, ok_tied F_tied n_sorted gCP gLe gRe⟩
  · exact ⟨_, _, PySem.W.mg_of X G a_law_bag, F_law_bag.kp, b_law_bag, ok_bag F_law_bag TB⟩
  · exact ⟨_, _, PySem.W.mg_of X G a_law_take, F_law_take.kp, b_law_take, ok_take F_law_take TB⟩
  · have gT : Dfn l.prog w K mg base CX0 1 "_law_take" ["_law_bag_here", "_law_size"] spTake := ⟨_, _, PySem.W.mg_of X G a_law_take, F_law_take.kp, b_law_take, ok_take F_law_take TB⟩
    have g1 : Dfn l.prog w K mg base CX0 2 "_law_name" ["_law_bag_here", "_law_used"] spName := ⟨_, _, PySem.W.mg_of X G a_law_name, F_law_name.kp, b_law_name, ok_name F_law_name TM gT⟩
    exact ⟨_, _, PySem.W.mg_of X G a_law_names, F_law_names.kp, b_law_names, ok_names F_law_names TM g1⟩
  · have gT : Dfn l.prog w K mg base CX0 1 "_law_take" ["_law_bag_here", "_law_size"] spTake := ⟨_, _, PySem.W.mg_of X G a_law_take, F_law_take.kp, b_law_take, ok_take F_law_take TB⟩
    exact ⟨_, _, PySem.W.mg_of X G a_law_planted_rows, F_law_planted_rows.kp, b_law_planted_rows, ok_planted F_law_planted_rows TR gT⟩
  · have gT : Dfn l.prog w K mg base CX0 1 "_law_take" ["_law_bag_here", "_law_size"] spTake := ⟨_, _, PySem.W.mg_of X G a_law_take, F_law_take.kp, b_law_take, ok_take F_law_take TB⟩
    exact ⟨_, _, PySem.W.mg_of X G a_law_flipped, F_law_flipped.kp, b_law_flipped, ok_flip F_law_flipped TR gT⟩
  · exact ⟨_, _, PySem.W.mg_of X G a_law_given, F_law_given.kp, b_law_given, ok_given F_law_given TR⟩
  · have gPm : Dfn l.prog w K mg base CX0 1 "_law_perms" ["_law_names_here"] (spPermsF K) := ⟨_, _, PySem.W.mg_of X G a_law_perms, F_law_perms.kp, b_law_perms, ok_permsF F_law_perms ⟨n_len, n_list, n_range, n_sorted⟩⟩
    have gK0 : Dfn l.prog w K mg base CX0 1 "_law_keeps" ["_law_pairs", "_law_order"] spKeeps0 := ⟨_, _, PySem.W.mg_of X G a_law_keeps, F_law_keeps.kp, b_law_keeps, ok_keeps0 F_law_keeps⟩
    have gSn : Dfn l.prog w K mg base CX0 1 "_law_seen" ["_law_rows", "_law_lamp"] spLSeen := ⟨_, _, PySem.W.mg_of X G a_law_seen, F_law_seen.kp, b_law_seen, ok_lseen F_law_seen⟩
    have gFo : Dfn l.prog w K mg base CX0 2 "_law_fits_order" ["_law_lamps", "_law_rows", "_law_order"] (spFits K) := ⟨_, _, PySem.W.mg_of X G a_law_fits_order, F_law_fits_order.kp, b_law_fits_order, ok_fits F_law_fits_order TC gSn⟩
    exact ⟨_, _, PySem.W.mg_of X G a_law_good, F_law_good.kp, b_law_good, ok_good F_law_good gPm gK0 gFo⟩
  · have gT : Dfn l.prog w K mg base CX0 1 "_law_take" ["_law_bag_here", "_law_size"] spTake := ⟨_, _, PySem.W.mg_of X G a_law_take, F_law_take.kp, b_law_take, ok_take F_law_take TB⟩
    exact ⟨_, _, PySem.W.mg_of X G a_law_pair, F_law_pair.kp, b_law_pair, ok_lpair F_law_pair TP gT⟩
theorem walk {l : PySem.W.OpenLaw} {q : Program} {loose : List Str} {XP : (Str → Option Value) → Heap → Prop} {YP : World → Heap → Prop} {d : DefRec} {K : Params → PySem.W.Frag} (hn : l.most = some 63) (hdf : d.params.defaults = [])
    (hY : ∀ (w : World) (h : Heap), YP w h → (K w.params).In h)
    (F : ∀ (w : World) (mg : Str → Option Value) (fa : Addr) (h : Heap), (K w.params).In h → h.Ns mainGlobals mg → mg d.name = some (.ref fa) →
      ∃ fd : FuncData, (∀ (s : Shared) (u : Value), BindsTo s fd ⟨[u], []⟩ [("_law_script", u)]) ∧ ∀ base : Heap, (K w.params).In base → base.Ns mainGlobals mg → FnOk l.prog w (K w.params) mg base CX0 10 fa fd ["_law_script"] (spLaw23 (K w.params))) :
    PySem.W.WalkO q loose XP YP l.row.toRowW d [] (fun f vs => PySem.call f vs) :=
  walk_of (n := 63) (k := 10) (x := "_law_script") (CX := fun _ => CX0) (sp := fun w => spLaw23 (K w.params)) hn (by decide) hdf ⟨rfl, by decide, by decide⟩ hY F
    (fun _ _ a ns hl _ hS => ⟨a, ns, rfl, hS, hl, fun _ => rfl⟩) fun _ _ _ _ _ z => z
end Dl

open PySem PySem.W PyProof.Rows in
set_option maxRecDepth 100000 in
set_option maxHeartbeats 0 in
theorem PySem.Challenge.cw_dimmerlog_k23_whole_tied_is_forced_holds : PySem.Challenge.rw_dimmerlog_k23_whole_tied_is_forced.Holds := by
  w_on; o_law; k_head; (case hw => w_witness2)
  k_fill
  refine Dl.walk (l := PySem.Challenge.rw_dimmerlog_k23_whole_tied_is_forced) rfl rfl (fun w h Y => PySem.W.kIn_of Y) ?F
  case F =>
    intro w mg fa h KX G hmg
    refine' Dl.all_mk KX G hmg ?a_is_name ?l_is_name ?c_is_name ?k_is_name ?a_check_name ?l_check_name ?c_check_name ?k_check_name ?a_check_new ?l_check_new ?c_check_new ?k_check_new ?a_check_known ?l_check_known ?c_check_known ?k_check_known ?a_check_all_known ?l_check_all_known ?c_check_all_known ?k_check_all_known ?a_distinct_names ?l_distinct_names ?c_distinct_names ?k_distinct_names ?a_check_shown ?l_check_shown ?c_check_shown ?k_check_shown ?a_chosen_of ?l_chosen_of ?c_chosen_of ?k_chosen_of ?a_check_pair ?l_check_pair ?c_check_pair ?k_check_pair ?a_reached ?l_reached ?c_reached ?k_reached ?a_leads ?l_leads ?c_leads ?k_leads ?a_tied ?l_tied ?c_tied ?k_tied ?a_law_bag ?l_law_bag ?c_law_bag ?k_law_bag ?a_law_take ?l_law_take ?c_law_take ?k_law_take ?a_law_name ?l_law_name ?c_law_name ?k_law_name ?a_law_names ?l_law_names ?c_law_names ?k_law_names ?a_law_planted_rows ?l_law_planted_rows ?c_law_planted_rows ?k_law_planted_rows ?a_law_flipped ?l_law_flipped ?c_law_flipped ?k_law_flipped ?a_law_seen ?l_law_seen ?c_law_seen ?k_law_seen ?a_law_given ?l_law_given ?c_law_given ?k_law_given ?a_law_perms ?l_law_perms ?c_law_perms ?k_law_perms ?a_law_fits_order ?l_law_fits_order ?c_law_fits_order ?k_law_fits_order ?a_law_keeps ?l_law_keeps ?c_law_keeps ?k_law_keeps ?a_law_good ?l_law_good ?c_law_good ?k_law_good ?a_law_pair ?l_law_pair ?c_law_pair ?k_law_pair ?a_law ?l_law ?c_law ?k_law ?a_InvalidName ?x_InvalidName ?hb_InvalidName ?sa_InvalidName ?e_InvalidName ?tc_InvalidName ?kc_InvalidName ?no_InvalidName ?i_InvalidName ?ti_InvalidName ?l_InvalidName ?c_InvalidName ?k_InvalidName ?a_DuplicateName ?x_DuplicateName ?hb_DuplicateName ?sa_DuplicateName ?e_DuplicateName ?tc_DuplicateName ?kc_DuplicateName ?no_DuplicateName ?i_DuplicateName ?ti_DuplicateName ?l_DuplicateName ?c_DuplicateName ?k_DuplicateName ?a_UnknownName ?x_UnknownName ?hb_UnknownName ?sa_UnknownName ?e_UnknownName ?tc_UnknownName ?kc_UnknownName ?no_UnknownName ?i_UnknownName ?ti_UnknownName ?l_UnknownName ?c_UnknownName ?k_UnknownName ?a_TooMany ?x_TooMany ?hb_TooMany ?sa_TooMany ?e_TooMany ?tc_TooMany ?kc_TooMany ?no_TooMany ?i_TooMany ?ti_TooMany ?l_TooMany ?c_TooMany ?k_TooMany ?a_InvalidNote ?x_InvalidNote ?hb_InvalidNote ?sa_InvalidNote ?e_InvalidNote ?tc_InvalidNote ?kc_InvalidNote ?no_InvalidNote ?i_InvalidNote ?ti_InvalidNote ?l_InvalidNote ?c_InvalidNote ?k_InvalidNote ?a_Table ?pg_Table ?hd_Table ?po_Table ?sa_Table ?mk_Table ?kc_Table ?n_Table_lamps ?n_Table_looks ?n_Table__shown ?i_Table_init ?fn_Table_init ?l_Table_init ?c_Table_init ?k_Table_init ?i_Table_seen ?fn_Table_seen ?l_Table_seen ?c_Table_seen ?k_Table_seen ?q_after ?z_len ?z_int ?z_tuple ?z_abs ?z_isinstance ?z_str ?z_all ?z_list ?z_range ?z_enumerate ?z_sorted ?z_min ?z_max ?v_LONGEST ?v_SIGNS ?v_LIMIT
    (case a_is_name => k_is)
    (case l_is_name => k_is)
    (case c_is_name => k_is)
    (case k_is_name => k_is)
    (case a_check_name => k_is)
    (case l_check_name => k_is)
    (case c_check_name => k_is)
    (case k_check_name => k_is)
    (case a_check_new => k_is)
    (case l_check_new => k_is)
    (case c_check_new => k_is)
    (case k_check_new => k_is)
    (case a_check_known => k_is)
    (case l_check_known => k_is)
    (case c_check_known => k_is)
    (case k_check_known => k_is)
    (case a_check_all_known => k_is)
    (case l_check_all_known => k_is)
    (case c_check_all_known => k_is)
    (case k_check_all_known => k_is)
    (case a_distinct_names => k_is)
    (case l_distinct_names => k_is)
    (case c_distinct_names => k_is)
    (case k_distinct_names => k_is)
    (case a_check_shown => k_is)
    (case l_check_shown => k_is)
    (case c_check_shown => k_is)
    (case k_check_shown => k_is)
    (case a_chosen_of => k_is)
    (case l_chosen_of => k_is)
    (case c_chosen_of => k_is)
    (case k_chosen_of => k_is)
    (case a_check_pair => k_is)
    (case l_check_pair => k_is)
    (case c_check_pair => k_is)
    (case k_check_pair => k_is)
    (case a_reached => k_is)
    (case l_reached => k_is)
    (case c_reached => k_is)
    (case k_reached => k_is)
    (case a_leads => k_is)
    (case l_leads => k_is)
    (case c_leads => k_is)
    (case k_leads => k_is)
    (case a_tied => k_is)
    (case l_tied => k_is)
    (case c_tied => k_is)
    (case k_tied => k_is)
    (case a_law_bag => k_is)
    (case l_law_bag => k_is)
    (case c_law_bag => k_is)
    (case k_law_bag => k_is)
    (case a_law_take => k_is)
    (case l_law_take => k_is)
    (case c_law_take => k_is)
    (case k_law_take => k_is)
    (case a_law_name => k_is)
    (case l_law_name => k_is)
    (case c_law_name => k_is)
    (case k_law_name => k_is)
    (case a_law_names => k_is)
    (case l_law_names => k_is)
    (case c_law_names => k_is)
    (case k_law_names => k_is)
    (case a_law_planted_rows => k_is)
    (case l_law_planted_rows => k_is)
    (case c_law_planted_rows => k_is)
    (case k_law_planted_rows => k_is)
    (case a_law_flipped => k_is)
    (case l_law_flipped => k_is)
    (case c_law_flipped => k_is)
    (case k_law_flipped => k_is)
    (case a_law_seen => k_is)
    (case l_law_seen => k_is)
    (case c_law_seen => k_is)
    (case k_law_seen => k_is)
    (case a_law_given => k_is)
    (case l_law_given => k_is)
    (case c_law_given => k_is)
    (case k_law_given => k_is)
    (case a_law_perms => k_is)
    (case l_law_perms => k_is)
    (case c_law_perms => k_is)
    (case k_law_perms => k_is)
    (case a_law_fits_order => k_is)
    (case l_law_fits_order => k_is)
    (case c_law_fits_order => k_is)
    (case k_law_fits_order => k_is)
    (case a_law_keeps => k_is)
    (case l_law_keeps => k_is)
    (case c_law_keeps => k_is)
    (case k_law_keeps => k_is)
    (case a_law_good => k_is)
    (case l_law_good => k_is)
    (case c_law_good => k_is)
    (case k_law_good => k_is)
    (case a_law_pair => k_is)
    (case l_law_pair => k_is)
    (case c_law_pair => k_is)
    (case k_law_pair => k_is)
    (case a_law => k_is)
    (case l_law => k_is)
    (case c_law => k_is)
    (case k_law => k_is)
    (case a_InvalidName => k_is)
    (case x_InvalidName => k_is)
    (case hb_InvalidName => (first | rfl | decide +kernel))
    (case sa_InvalidName => k_is)
    (case e_InvalidName => k_is)
    (case tc_InvalidName => k_is)
    (case kc_InvalidName => k_is)
    (case no_InvalidName => k_is)
    (case i_InvalidName => k_is)
    (case ti_InvalidName => k_is)
    (case l_InvalidName => k_is)
    (case c_InvalidName => k_is)
    (case k_InvalidName => k_is)
    (case a_DuplicateName => k_is)
    (case x_DuplicateName => k_is)
    (case hb_DuplicateName => (first | rfl | decide +kernel))
    (case sa_DuplicateName => k_is)
    (case e_DuplicateName => k_is)
    (case tc_DuplicateName => k_is)
    (case kc_DuplicateName => k_is)
    (case no_DuplicateName => k_is)
    (case i_DuplicateName => k_is)
    (case ti_DuplicateName => k_is)
    (case l_DuplicateName => k_is)
    (case c_DuplicateName => k_is)
    (case k_DuplicateName => k_is)
    (case a_UnknownName => k_is)
    (case x_UnknownName => k_is)
    (case hb_UnknownName => (first | rfl | decide +kernel))
    (case sa_UnknownName => k_is)
    (case e_UnknownName => k_is)
    (case tc_UnknownName => k_is)
    (case kc_UnknownName => k_is)
    (case no_UnknownName => k_is)
    (case i_UnknownName => k_is)
    (case ti_UnknownName => k_is)
    (case l_UnknownName => k_is)
    (case c_UnknownName => k_is)
    (case k_UnknownName => k_is)
    (case a_TooMany => k_is)
    (case x_TooMany => k_is)
    (case hb_TooMany => (first | rfl | decide +kernel))
    (case sa_TooMany => k_is)
    (case e_TooMany => k_is)
    (case tc_TooMany => k_is)
    (case kc_TooMany => k_is)
    (case no_TooMany => k_is)
    (case i_TooMany => k_is)
    (case ti_TooMany => k_is)
    (case l_TooMany => k_is)
    (case c_TooMany => k_is)
    (case k_TooMany => k_is)
    (case a_InvalidNote => k_is)
    (case x_InvalidNote => k_is)
    (case hb_InvalidNote => (first | rfl | decide +kernel))
    (case sa_InvalidNote => k_is)
    (case e_InvalidNote => k_is)
    (case tc_InvalidNote => k_is)
    (case kc_InvalidNote => k_is)
    (case no_InvalidNote => k_is)
    (case i_InvalidNote => k_is)
    (case ti_InvalidNote => k_is)
    (case l_InvalidNote => k_is)
    (case c_InvalidNote => k_is)
    (case k_InvalidNote => k_is)
    (case a_Table => k_is)
    (case pg_Table => k_is)
    (case hd_Table => k_is)
    (case po_Table => k_is)
    (case sa_Table => k_is)
    (case mk_Table => k_is)
    (case kc_Table => k_is)
    (case n_Table_lamps => k_is)
    (case n_Table_looks => k_is)
    (case n_Table__shown => k_is)
    (case i_Table_init => k_is)
    (case fn_Table_init => k_is)
    (case l_Table_init => k_is)
    (case c_Table_init => k_is)
    (case k_Table_init => k_is)
    (case i_Table_seen => k_is)
    (case fn_Table_seen => k_is)
    (case l_Table_seen => k_is)
    (case c_Table_seen => k_is)
    (case k_Table_seen => k_is)
    (case q_after => k_is)
    (case z_len => k_is)
    (case z_int => k_is)
    (case z_tuple => k_is)
    (case z_abs => k_is)
    (case z_isinstance => k_is)
    (case z_str => k_is)
    (case z_all => k_is)
    (case z_list => k_is)
    (case z_range => k_is)
    (case z_enumerate => k_is)
    (case z_sorted => k_is)
    (case z_min => k_is)
    (case z_max => k_is)
    (case v_LONGEST => k_is)
    (case v_SIGNS => k_is)
    (case v_LIMIT => k_is)
