import PyProof.Rows.All
import Wide.All
import OpenK.AllK
import Wide.FinOn
import HandS.ForMost
import HandS.Exc
import HandS.TryOnly
import HandS.ExcOwn
import HandS.WordsExc
import HandS.Wide
import HandS.IsInst
import HandS.Style
import HandS.Flow
import HandS.Evl
import KE.KEqSeq
import HandS.MakeKwOnly
import HandS.Walk
import HandS.Conv
import HandS.ExcInit
import HandS.SetKeys
import PyProof.EqAt
import PyProof.EqKinds
import PyProof.TupleCall
import Open.SpecLaws
import KE.OsGo
import HandS.ForSpec
import HandS.Gcd
import HandS.Lambda
import HandS.EndTab
import KE.KNestM
import PySem.Challenge.RW_handlerims_k01_checks_of_any_values
set_option Elab.async false
set_option linter.all false
set_option maxRecDepth 100000
set_option maxHeartbeats 2000000
/-! Values judged as they must be: the drawing hand. -/
namespace K01
open PySem L2
def top (i : Nat) : Stmt := PySem.Challenge.pw_handlerims_k01_checks_of_any_values.main.body.getD i (.Pass ⟨0, 0, 0, 0⟩)
abbrev sIsInt : Stmt := top 9
abbrev sWithin : Stmt := top 10
abbrev sLetter : Stmt := top 11
abbrev sName : Stmt := top 12
abbrev sListed : Stmt := top 13
abbrev sAreInts : Stmt := top 14
abbrev sTwice : Stmt := top 15
abbrev sDivisor : Stmt := top 16
abbrev sLowest : Stmt := top 17
abbrev sHand : Stmt := top 19
abbrev sTake : Stmt := top 20
abbrev sPick : Stmt := top 21
abbrev sInteger : Stmt := top 22
abbrev sText : Stmt := top 23
abbrev sValue : Stmt := top 24
abbrev sIsNumber : Stmt := top 25
abbrev sIsName : Stmt := top 26
abbrev sSame : Stmt := top 27
abbrev sLooks : Stmt := top 28
abbrev sTwiceR : Stmt := top 29
abbrev sHeard : Stmt := top 30
abbrev sDivided : Stmt := top 31
abbrev sLaw : Stmt := top 32

/-! ### the hand that draws -/
/-- at a: a hand, of which at most n cells were begun -/
def HandAt (H : Hp) (a c : Addr) (n : Nat) : Prop := ∃ (ns : List Int) (i r : Int), H a = some (.lst [.ref c, .int i, .int r]) ∧ H c = some (.lst (ns.map V.int)) ∧ c ≠ a ∧ ns.length ≤ 1000 ∧ 0 ≤ i ∧ i ≤ (n : Int) ∧ 0 ≤ r
/-- all but what is at a stands as it did -/
def Kept (a : Addr) (H H' : Hp) : Prop := ∀ b o, b ≠ a → H b = some o → H' b = some o
theorem Kept.refl {a : Addr} {H : Hp} : Kept a H H := fun _ _ _ e => e
theorem Kept.trans {a : Addr} {H H1 H2 : Hp} (h1 : Kept a H H1) (h2 : Kept a H1 H2) : Kept a H H2 := fun b o n e => h2 b o n (h1 b o n e)
theorem Kept.upd {a : Addr} {H : Hp} {o : HO} : Kept a H (upd H a o) := fun b u n e => by rw [upd_ne n]; exact e
theorem Kept.new {a p : Addr} {H H' : Hp} {o : HO} (k : Kept a H H') (hp : H' p = none) : Kept a H (L2.upd H' p o) := fun b u n e => by
  rw [upd_ne (ne_of_none (k b u n e) hp)]
  exact k b u n e

theorem yes_te {σ : L2.St} {H : Hp} {A B : Hp → Prop} (h : A H) : tYes σ H (fun b H3 => if b = true then A H3 else B H3) := by
  show (if (true : Bool) = true then A H else B H)
  exact iteT h
theorem HandAt.put {H : Hp} {a c : Addr} {ns : List Int} {i r : Int} {n : Nat} (hC : H c = some (.lst (ns.map V.int))) (hca : c ≠ a) (hl : ns.length ≤ 1000) (i0 : 0 ≤ i) (hi : i ≤ (n : Int)) (r0 : 0 ≤ r) :
    HandAt (L2.upd H a (.lst [.ref c, .int i, .int r])) a c n := ⟨ns, i, r, upd_same, by rw [upd_ne hca]; exact hC, hca, hl, i0, hi, r0⟩
def spHand (K : PySem.W.Frag) : Sp := fun vs H Q _ => ∃ (a : Addr) (ns : List Int), vs = [.ref a] ∧ SqL K H a (ns.map V.int) ∧ ns.length ≤ 1000 ∧
  ∀ (H' : Hp) (p c : Addr), Same H H' → H p = none → H c = none → HandAt H' p c 0 → Q (.ref p) H'
def spTake : Sp := fun vs H Q _ => ∃ (a c : Addr) (m : Int) (n : Nat), vs = [.ref a, .int m] ∧ HandAt H a c n ∧ n ≤ 10000 ∧ 0 < m ∧ m.natAbs < 2 ^ 200 ∧
  ∀ (H' : Hp) (q : Int), 0 ≤ q → q < m → HandAt H' a c (n + 1) → Kept a H H' → Q (.int q) H'

theorem dpInts {K : PySem.W.Frag} {H : Hp} : ∀ ns : List Int, DpAll K H (ns.map V.int) (ns.map PyData.int)
  | [] => .nil
  | n :: r => .cons (.int n) (dpInts r)
/-- what the top has written -/
structure TxA (mg : Str → Option Value) : Prop where
  int : mg "int" = none
  len : mg "len" = none
  abs : mg "abs" = none

section
variable {P : Program} {w : World} {K : PySem.W.Frag} {mg : Str → Option Value} {base : Heap}
theorem scHand : FnScope ["_law_script", "_law_cell"] ["_law_script"] (defScope sHand) := ⟨rfl, rfl, rfl, by decide +kernel, rfl, by decide +kernel, by decide +kernel⟩
theorem ok_hand {f : Addr} {fd : FuncData} (F : Fun K "_law_hand" "_law_hand" sHand f fd) (T : TxA mg) : FnOk P w K mg base CX0 1 f fd ["_law_script"] (spHand K) := by
  refine F.ok scHand (fun vs H Q E h => ?_) (fun cdv A outer s H vs Q E hr h => ?_)
  · obtain ⟨a, ns, rfl, _⟩ := h
    rfl
  · obtain ⟨a, ns, rfl, hS, hlen, k⟩ := h
    refine ⟨_, pss_one (ps_ret (pe_lst (pa_cons (pe_lc (own := [("_law_cell", 1)]) (g := gName 1) (tt := tYes) rfl scHand.nd (pi_list (pe_slice sl_list (pv 0) po_none (po_some pe_int)))
      (blkOk_by (N := ["_law_script", "_law_cell"]) (sc := defScope sHand) (by decide +kernel)) (fun _ _ _ _ _ => pg_name (i := 1) scHand.nd rfl (Or.inl rfl)) (fun _ _ _ _ _ => pts_nil)
      (fun _ _ _ _ _ => pe_callTy call_int1 (by rfl) T.int (by decide +kernel) (pa_cons (pv 1) pa_nil))) (pa_cons pe_int (pa_cons pe_int pa_nil))))), ?_⟩
    refine ⟨_, rfl, 61, rfl, a, ns.map V.int, rfl, hS, fun p hp => ?_⟩
    refine ⟨p, rfl, ⟨_, SqL.of upd_same⟩, fun D hD => ?_⟩
    have hDp : D ≠ p := fun e => by
      rw [e, upd_same] at hD
      cases hD
    have hD0 : H D = none := by
      rw [upd_ne hDp] at hD
      exact hD
    have hc : cutV (ns.map V.int) none (some 61) = (ns.take 61).map V.int := by
      unfold cutV
      rw [List.map_take, List.length_map]
      have e0 : HT.sIx ns.length 0 none = 0 := rfl
      rw [e0, List.drop_zero]
      have e1 : HT.sIx ns.length ns.length (some 61) = min 61 ns.length := by
        unfold HT.sIx
        simp
        try omega
      rw [e1, Nat.sub_zero]
      by_cases h : 61 ≤ ns.length
      · rw [Nat.min_eq_left h]
      · rw [Nat.min_eq_right (by omega), List.take_of_length_le (by simp), List.take_of_length_le (by simp; omega)]
    refine lc_list (K := K) (a := p) (xs := (ns.take 61).map V.int) (fun i H' => H' D = some (.lst (((ns.take 61).take i).map V.int)) ∧ H' p = some (.lst ((ns.take 61).map V.int)) ∧ Same H H') ⟨upd_same, ?_, ?_⟩ (fun i H' _ q => SqL.of q.2.1) ?_ ?_
    · rw [upd_ne hDp.symm, upd_same, hc]
    · intro b o e
      rw [upd_ne (ne_of_none e hD0), upd_ne (ne_of_none e hp)]
      exact e
    · intro i x H' hi q
      obtain ⟨z, hz, rfl⟩ : ∃ z, (ns.take 61)[i]? = some z ∧ x = V.int z := by
        rw [List.getElem?_map] at hi
        cases e : (ns.take 61)[i]? with
        | none =>
          rw [e] at hi
          cases hi
        | some z =>
          rw [e] at hi
          exact ⟨z, rfl, (Option.some.inj hi).symm⟩
      have hli : i < (ns.take 61).length := (List.getElem?_eq_some_iff.mp hz).1
      have hl61 : (ns.take 61).length ≤ 61 := by rw [List.length_take]; omega
      refine ⟨rfl, ?_⟩
      refine yes_te ?_
      refine ⟨_, rfl, .inl ⟨z, rfl, _, q.1, Evl.sz_lt (by rw [List.length_map, List.length_take]; omega), ?_⟩⟩
      refine ⟨?_, ?_, ?_⟩
      · rw [upd_same]
        congr 2
        have ez : (ns.take 61)[i] = z := (List.getElem?_eq_some_iff.mp hz).2
        rw [List.take_succ_eq_append_getElem hli, ez, List.map_append]
        rfl
      · rw [upd_ne hDp.symm]
        exact q.2.1
      · intro b o e
        rw [upd_ne (ne_of_none e hD0)]
        exact q.2.2 b o e
    · intro H' q
      refine ⟨by show 3 ≤ sizeLine; decide, fun l hl => ?_⟩
      have hlD : D ≠ l := ne_of_none q.1 hl
      have hl0 : H l = none := by
        cases e : H l with
        | none => rfl
        | some o => rw [q.2.2 l o e] at hl; cases hl
      refine k _ l D (fun b o e => by rw [upd_ne (ne_of_none e hl0)]; exact q.2.2 b o e) hl0 hD0 ?_
      have q1 := q.1
      rw [List.length_map, List.take_length] at q1
      exact ⟨ns.take 61, 0, 0, upd_same, by rw [upd_ne hlD]; exact q1, hlD, by rw [List.length_take]; omega, Int.le_refl _, Int.le_refl _, Int.le_refl _⟩

theorem scTake : FnScope ["_law_hand_here", "_law_many", "_law_rest", "_law_at", "_law_cell", "_law_mixed"] ["_law_hand_here", "_law_many"] (defScope sTake) := ⟨rfl, rfl, rfl, by decide +kernel, rfl, by decide +kernel, by decide +kernel⟩
theorem ok_take {f : Addr} {fd : FuncData} (F : Fun K "_law_take" "_law_take" sTake f fd) (T : TxA mg) : FnOk P w K mg base CX0 1 f fd ["_law_hand_here", "_law_many"] spTake := by
  refine F.ok scTake (fun vs H Q E h => ?_) (fun cdv A outer s H vs Q E hr h => ?_)
  · obtain ⟨a, c, m, n, rfl, _⟩ := h
    rfl
  · obtain ⟨a, c, m, n, rfl, ⟨ns, i, r, hA, hC, hca, hlen, i0, hi, r0⟩, hn, m0, hm, k⟩ := h
    refine ⟨_, pss_cons (ps_if (pt_cmpR op_gt (pe_ix ix_list (pv 0) pe_int (fun _ _ => rfl)) pe_int (nomark _))
        (pss_cons (ps_set (i := 2) scTake.nd rfl (Or.inl rfl) (pe_ix ix_list (pv 0) pe_int (fun _ _ => rfl)))
        (pss_cons (ps_asg (pe_op op_fdivW (pe_callTy call_int1 (by rfl) T.int (by decide +kernel) (pa_cons (pv 2) pa_nil)) (pv 1)) (pg_sub (pv 0) pe_int set_list))
        (pss_one (ps_ret (pe_op op_mod (pe_callTy call_int1 (by rfl) T.int (by decide +kernel) (pa_cons (pv 2) pa_nil)) (pv 1)))))) pss_nil)
      (pss_cons (ps_set (i := 3) scTake.nd rfl (Or.inl rfl) (pe_ix ix_list (pv 0) pe_int (fun _ _ => rfl)))
      (pss_cons (ps_asg (pe_op op_add (pv 3) pe_int) (pg_sub (pv 0) pe_int set_list))
      (pss_cons (ps_set (i := 4) scTake.nd rfl (Or.inl rfl) (pe_op op_add (pe_op op_mul pe_int (pv 3)) pe_int))
      (Evl.pss_cut (ps_if (pt_cmpR (op_neD hr.units) (pe_ix ix_list (pv 0) pe_int (fun _ _ => rfl)) (pe_lst pa_nil) (nomark _))
        (pss_one (ps_set (i := 4) scTake.nd rfl (Or.inl rfl) (pe_ix ix_list (pe_ix ix_list (pv 0) pe_int (fun _ _ => rfl)) (pe_op op_mod (pe_callTy call_int1 (by rfl) T.int (by decide +kernel) (pa_cons (pv 3) pa_nil)) (pe_callB call_len_seq (by rfl) T.len PySem.boot_len (pa_cons (pe_ix ix_list (pv 0) pe_int (fun _ _ => rfl)) pa_nil))) (fun _ _ => rfl)))) pss_nil)
      (Evl.pss_cut (ps_if (PW.pt (pw_and (pt_cmpR op_lt (pv 3) (pe_callB call_len_seq (by rfl) T.len PySem.boot_len (pa_cons (pe_ix ix_list (pv 0) pe_int (fun _ _ => rfl)) pa_nil)) (nomark _)) (pw_and1 (pt_cmpR op_ge (pe_callB call_abs (by rfl) T.abs (by decide +kernel) (pa_cons (pv 4) pa_nil)) (pe_op op_pow pe_int pe_int) (nomark _)))))
        (pss_cons (ps_set (i := 2) scTake.nd rfl (Or.inl rfl) (pe_op op_add (pe_op op_mul pe_int (pe_op op_sub (pe_callB call_abs (by rfl) T.abs (by decide +kernel) (pa_cons (pv 4) pa_nil)) (pe_op op_pow pe_int pe_int))) (pe_callTy call_int1 (by rfl) T.int (by decide +kernel) (pa_cons (pe_cmpR op_lt (pv 4) pe_int (nomark _)) pa_nil))))
        (pss_cons (ps_asg (pe_op op_fdivW (pe_callTy call_int1 (by rfl) T.int (by decide +kernel) (pa_cons (pv 2) pa_nil)) (pv 1)) (pg_sub (pv 0) pe_int set_list))
        (pss_one (ps_ret (pe_op op_mod (pe_callTy call_int1 (by rfl) T.int (by decide +kernel) (pa_cons (pv 2) pa_nil)) (pv 1)))))) pss_nil)
      (pss_cons (ps_set (i := 5) scTake.nd rfl (Or.inl rfl) (pe_op op_mod (pe_callTy call_int1 (by rfl) T.int (by decide +kernel) (pa_cons (pe_op op_pow (pe_op op_add (pe_op op_add (pe_op op_mod (pe_callTy call_int1 (by rfl) T.int (by decide +kernel) (pa_cons (pv 4) pa_nil)) pe_int) (pe_op op_mul pe_int (pv 3))) pe_int) pe_int) pa_nil)) pe_int))
      (pss_cons (ps_set (i := 5) scTake.nd rfl (Or.inl rfl) (pe_op op_mod (pe_callTy call_int1 (by rfl) T.int (by decide +kernel) (pa_cons (pe_op op_pow (pe_op op_add (pe_op op_add (pe_op op_mul (pv 5) (pe_op op_add (pe_op op_mul pe_int (pv 3)) pe_int)) (pe_op op_mul (pe_op op_mul pe_int (pv 3)) (pv 3))) pe_int) pe_int) pa_nil)) pe_int))
      (pss_one (ps_ret (pe_op op_mod (pe_callTy call_int1 (by rfl) T.int (by decide +kernel) (pa_cons (pe_op op_fdiv (pv 5) pe_int) pa_nil)) (pv 1)))))))))))
      , ?_⟩
    have hdv : ∀ x : Int, CDivW x m := fun x => wide_div m0 hm (by decide) (by decide)
    -- if hand[2] > 0
    refine ⟨_, rfl, a, _, 2, _, rfl, rfl, SqL.of hA, rfl, _, _, rfl, rfl, _, rfl, ?_⟩
    refine ite2 (fun hp => ?_) (fun _ => ?_)
    · refine ⟨_, rfl, a, _, 2, _, rfl, rfl, SqL.of hA, rfl, ?_⟩
      refine ⟨_, rfl, .inl ⟨_, rfl, _, rfl, _, _, rfl, rfl, hdv _, _, rfl, a, _, 2, 2, rfl, rfl, hA, rfl, ?_⟩⟩
      refine ⟨_, rfl, .inl ⟨_, rfl, _, rfl, _, _, rfl, rfl, m0, ?_⟩⟩
      exact k _ (r % m) (Int.emod_nonneg _ (by omega)) (Int.emod_lt_of_pos _ m0) (HandAt.put hC hca hlen i0 (by omega) (Int.ediv_nonneg r0 (by omega))) Kept.upd
    -- at = hand[1]; hand[1] = at + 1; cell = ..
    refine ⟨_, rfl, a, _, 1, _, rfl, rfl, SqL.of hA, rfl, ?_⟩
    refine ⟨_, rfl, _, _, rfl, rfl, _, rfl, a, _, 1, 1, rfl, rfl, hA, rfl, ?_⟩
    refine ⟨_, rfl, _, _, rfl, rfl, .inl ⟨by decide, by decide⟩, _, _, rfl, rfl, ?_⟩
    -- H1: the heap behind this
    obtain ⟨H1, eH1⟩ : ∃ H1, H1 = upd H a (.lst [.ref c, .int (i + 1), .int r]) := ⟨_, rfl⟩
    have kH : Kept a H H1 := by rw [eH1]; exact Kept.upd
    have hA1 : H1 a = some (.lst [.ref c, .int (i + 1), .int r]) := by rw [eH1]; exact upd_same
    have hC1 : H1 c = some (.lst (ns.map V.int)) := by rw [eH1, upd_ne hca]; exact hC
    show Evl.tCut _ _ _ _ (upd H a (.lst [.ref c, .int (i + 1), .int r]))
    rw [← eH1]
    refine ⟨fun σ' H' => Same H1 H' ∧ ∃ cell : Int, σ' = [some (.ref a), some (.int m), none, some (.int i), some (.int cell), none], ?_, ?_⟩
    · refine ⟨_, rfl, a, _, 0, _, rfl, rfl, SqL.of hA1, rfl, Nat.zero_le _, fun p hp => ?_⟩
      have hcp : c ≠ p := ne_of_none hC1 hp
      have hap : a ≠ p := ne_of_none hA1 hp
      have sm : Same H1 (upd H1 p (.lst [])) := fun b o e => by rw [upd_ne (ne_of_none e hp)]; exact e
      refine ⟨.list (ns.map PyData.int), .list [], .lst (SqL.of (sm _ _ hC1)) (dpInts ns), .lst (SqL.of upd_same) .nil, PySem.W.ke_shaped_ints ns, rfl, _, rfl, ?_⟩
      refine ite2 (fun hne => ?_) (fun _ => ?_)
      · have hn0 : 0 < ns.length := by
          cases ns with
          | nil => exact absurd hne (by decide)
          | cons x xs => exact Nat.succ_pos _
        have hl0 : (0 : Int) < (((ns.map V.int).length : Nat) : Int) := by rw [List.length_map]; omega
        have hj0 : 0 ≤ i % (((ns.map V.int).length : Nat) : Int) := Int.emod_nonneg _ (by omega)
        have hj1 : i % (((ns.map V.int).length : Nat) : Int) < (((ns.map V.int).length : Nat) : Int) := Int.emod_lt_of_pos _ hl0
        obtain ⟨j, hj⟩ : ∃ j : Nat, i % (((ns.map V.int).length : Nat) : Int) = (j : Int) := ⟨(i % (((ns.map V.int).length : Nat) : Int)).toNat, by omega⟩
        have hjl : j < ns.length := by rw [List.length_map] at hj1 hj; omega
        refine ⟨_, rfl, a, _, 0, _, rfl, rfl, SqL.of (sm _ _ hA1), rfl, _, rfl, .inl ⟨_, rfl, ?_⟩⟩
        refine ⟨_, rfl, a, _, 0, _, rfl, rfl, SqL.of (sm _ _ hA1), rfl, c, _, rfl, .inl (SqL.of (sm _ _ hC1)), _, _, rfl, rfl, hl0, c, _, _, .int ns[j], rfl, rfl, SqL.of (sm _ _ hC1), ?_, ?_⟩
        · rw [hj]
          exact atI_nat (by rw [List.getElem?_map, List.getElem?_eq_getElem hjl]; rfl)
        · exact ⟨sm, ns[j], rfl⟩
      · exact ⟨sm, _, rfl⟩
    · rintro σ' H2 ⟨sm, cell, rfl⟩
      have hA2 := sm _ _ hA1
      have hC2 := sm _ _ hC1
      have kH2 : Kept a H H2 := fun b o e q => sm b o (kH b o e q)
      -- a great cell: what is left of it
      refine ⟨fun σ' H' => σ' = [some (.ref a), some (.int m), none, some (.int i), some (.int cell), none] ∧ H' = H2, ?_, ?_⟩
      · refine ⟨_, rfl, _, rfl, a, _, 0, _, rfl, rfl, SqL.of hA2, rfl, c, _, rfl, .inl (SqL.of hC2), _, _, rfl, rfl, _, rfl, ?_⟩
        refine ite2 (fun _ => ?_) (fun _ => ?_)
        · refine ⟨_, rfl, cell, rfl, _, _, rfl, rfl, ⟨by decide, by decide, by decide⟩, _, _, rfl, rfl, _, rfl, ?_⟩
          refine ite2 (fun hge => ?_) (fun _ => ⟨rfl, rfl⟩)
          have hge' := of_decide_eq_true hge
          refine ⟨_, rfl, cell, rfl, _, _, rfl, rfl, ⟨by decide, by decide, by decide⟩, _, _, rfl, rfl, _, _, rfl, rfl, .inl ⟨by decide, by decide⟩, _, rfl, _, _, rfl, rfl, .inr ⟨_, rfl, _, _, rfl, rfl, ?_⟩⟩
          have hr2 : ∀ b : Bool, 0 ≤ 2 * ((if cell < 0 then -cell else cell) - (10 : Int) ^ Int.toNat 18) + (if b = true then 1 else 0) := by
            intro b
            have e1 : (if b = true then (1 : Int) else 0) ≥ 0 := by cases b <;> decide
            have e2 : (10 : Int) ^ Int.toNat 18 ≤ (if cell < 0 then -cell else cell) := hge'
            omega
          refine ⟨_, rfl, .inl ⟨_, rfl, _, rfl, _, _, rfl, rfl, hdv _, _, rfl, a, _, 2, 2, rfl, rfl, hA2, rfl, ?_⟩⟩
          refine ⟨_, rfl, .inl ⟨_, rfl, _, rfl, _, _, rfl, rfl, m0, ?_⟩⟩
          exact k _ _ (Int.emod_nonneg _ (by omega)) (Int.emod_lt_of_pos _ m0) (HandAt.put hC2 hca hlen (by omega) (by omega) (Int.ediv_nonneg (hr2 _) (by omega))) (kH2.trans Kept.upd)
        · exact ⟨rfl, rfl⟩
      · rintro σ' H3 ⟨rfl, rfl⟩
        have hin : i ≤ 10000 := by omega
        have b1 : 0 ≤ cell % 2147483629 := Int.emod_nonneg _ (by decide)
        have b2 : cell % 2147483629 < 2147483629 := Int.emod_lt_of_pos _ (by decide)
        refine ⟨_, rfl, .inl ⟨_, rfl, _, _, rfl, rfl, (by decide : (0 : Int) < 2147483629), _, rfl, _, _, rfl, rfl, .inl ⟨by decide, by decide⟩, _, _, rfl, rfl, _, _, rfl, rfl, _, _, rfl, rfl, ⟨by decide, by decide, ?_⟩, ?_⟩⟩
        · show (cell % 2147483629 + 70237 * i + 3323).natAbs < 2 ^ 64
          have e : (2 : Nat) ^ 64 = 18446744073709551616 := by decide
          rw [e]
          omega
        have hb : ∀ x : Int, ((x % 2147483587) * (2 * i + 2333) + 51137 * i * i + 95071).natAbs < 2 ^ 64 := by
          intro x
          have b3 : 0 ≤ x % 2147483587 := Int.emod_nonneg _ (by decide)
          have b4 : x % 2147483587 < 2147483587 := Int.emod_lt_of_pos _ (by decide)
          have e : (2 : Nat) ^ 64 = 18446744073709551616 := by decide
          have c1 : 0 ≤ (x % 2147483587) * (2 * i + 2333) := Int.mul_nonneg b3 (by omega)
          have c2 : (x % 2147483587) * (2 * i + 2333) ≤ 2147483587 * 22333 := Int.mul_le_mul (by omega) (by omega) (by omega) (by omega)
          have c3 : 0 ≤ 51137 * i * i := Int.mul_nonneg (by omega) i0
          have c4 : 51137 * i * i ≤ 511370000 * 10000 := Int.mul_le_mul (by omega) hin i0 (by omega)
          rw [e]
          omega
        have hc : ∀ x : Int, CMul (x % 2147483587) (2 * i + 2333) := by
          intro x
          have b3 : 0 ≤ x % 2147483587 := Int.emod_nonneg _ (by decide)
          have b4 : x % 2147483587 < 2147483587 := Int.emod_lt_of_pos _ (by decide)
          exact .inl ⟨by omega, by omega⟩
        refine .inl ⟨_, rfl, _, _, rfl, rfl, (by decide : (0 : Int) < 2147483587), ?_⟩
        refine ⟨_, rfl, _, rfl, _, _, rfl, rfl, .inl ⟨by decide, by decide⟩, _, _, rfl, rfl, _, _, rfl, rfl, hc _, _, rfl, _, _, rfl, rfl, .inl ⟨by decide, by decide⟩, _, rfl, _, _, rfl, rfl, .inl ⟨by omega, by omega⟩, _, _, rfl, rfl, _, _, rfl, rfl, _, _, rfl, rfl, ⟨by decide, by decide, hb _⟩, ?_⟩
        refine .inl ⟨_, rfl, _, _, rfl, rfl, (by decide : (0 : Int) < 2147483497), ?_⟩
        refine ⟨_, rfl, _, _, rfl, rfl, ⟨by decide, by decide⟩, .inl ⟨_, rfl, _, rfl, _, _, rfl, rfl, m0, ?_⟩⟩
        exact k _ _ (Int.emod_nonneg _ (by omega)) (Int.emod_lt_of_pos _ m0) ⟨ns, i + 1, r, hA2, hC2, hca, hlen, by omega, by omega, r0⟩ kH2
end
end K01
set_option Elab.async false
set_option linter.all false
set_option maxRecDepth 100000
set_option maxHeartbeats 2000000
namespace K01
open PySem L2 PySem.Spec PyProof.Rows

/-! ### a def that the module's name x holds, with its promise -/
structure Cal (P : Program) (w : World) (K : PySem.W.Frag) (mg : Str → Option Value) (base : Heap) (x : Str) (k : Nat) (ps : List Str) (sp : Sp) : Prop where
  ex : ∃ (f : Addr) (fd : FuncData), FnOk P w K mg base CX0 k f fd ps sp ∧ mg x = some (.ref f) ∧ PySem.W.keepIn K (.ref f) = true ∧ Binds K fd ps []
section
variable {X : Cx} {x : Str} {k j : Nat} {ps : List Str} {sp : Sp} {p pos : Pos} {e : Expr} {es : List Expr} {t : TA}
theorem pe_cal (C : Cal X.prog X.w X.K X.mg X.base x k ps sp) (hr : Room j X.A) (hkj : k ≤ j) (hg : Gl X x) (ha : PA X (e :: es) t) (hdb : (x == ("__debug__" : Str)) = false := by decide)
    (he : starEach (e :: es) X.env = (false, eval e X.env) :: starEach es X.env := by rfl) (hpl : (backTo pos (starEach es X.env)).any (·.1) = false := by rfl) :
    PE X (.Call (.Name x p) (e :: es) [] pos) (tCall sp [] E0 t) := by
  obtain ⟨f, fd, F, hm, hk, hb⟩ := C.ex
  exact pe_call F (hr.mono hkj) hg hm hk hb .nil pass0 ha hdb he hpl
end

/-! ### values and their classes -/
inductive Typ (H : Hp) : V → String → Prop
  | int (i : Int) : Typ H (.int i) "int"
  | bl (b : Bool) : Typ H (.bl b) "bool"
  | str (z : Str) : Typ H (.str z) "str"
  | non : Typ H .non "NoneType"
  | lst {p : Addr} {xs : List V} (e : H p = some (.lst xs)) : Typ H (.ref p) "list"
  | tup {p : Addr} {xs : List V} (e : H p = some (.tup xs)) : Typ H (.ref p) "tuple"
  | dct {p : Addr} {kvs : List (Key × V)} (e : H p = some (.dK kvs)) : Typ H (.ref p) "dict"
def isI : V → Bool
  | .int _ => true
  | _ => false
def isB : V → Bool
  | .bl _ => true
  | _ => false
def isS : V → Bool
  | .str _ => true
  | _ => false
theorem Typ.same {H H' : Hp} {x : V} {t : String} (h : Typ H x t) (s : Same H H') : Typ H' x t := by
  cases h with
  | int i => exact .int i
  | bl b => exact .bl b
  | str z => exact .str z
  | non => exact .non
  | lst e => exact .lst (s _ _ e)
  | tup e => exact .tup (s _ _ e)
  | dct e => exact .dct (s _ _ e)
theorem Typ.ty {K : PySem.W.Frag} {H : Hp} {x : V} {t : String} (h : Typ H x t) : TyX K H x (.type t) := by
  cases h with
  | int i => exact .base (.int i)
  | bl b => exact .base (.bl b)
  | str z => exact .base (.str z)
  | non => exact .base .non
  | lst e => exact .base (.lst e)
  | tup e => exact .base (.tup e)
  | dct e => exact .base (.dK e)
theorem Typ.kInt {K : PySem.W.Frag} {H : Hp} {x : V} {t : String} (h : Typ H x t) : PySem.W.kitOne K (.type t) (.type "int") = some (isI x || isB x) := by
  cases h <;> first | exact kit_ty (show kitB _ _ = some true by decide +kernel) | exact kit_ty (show kitB _ _ = some false by decide +kernel)
theorem Typ.kBool {K : PySem.W.Frag} {H : Hp} {x : V} {t : String} (h : Typ H x t) : PySem.W.kitOne K (.type t) (.type "bool") = some (isB x) := by
  cases h <;> first | exact kit_ty (show kitB _ _ = some true by decide +kernel) | exact kit_ty (show kitB _ _ = some false by decide +kernel)
theorem Typ.kStr {K : PySem.W.Frag} {H : Hp} {x : V} {t : String} (h : Typ H x t) : PySem.W.kitOne K (.type t) (.type "str") = some (isS x) := by
  cases h <;> first | exact kit_ty (show kitB _ _ = some true by decide +kernel) | exact kit_ty (show kitB _ _ = some false by decide +kernel)
theorem Typ.kTup {K : PySem.W.Frag} {H : Hp} {x : V} {t : String} (h : Typ H x t) : PySem.W.kitOne K (.type t) (.type "tuple") = some (t == "tuple") := by
  cases h <;> first | exact kit_ty (show kitB _ _ = some true by decide +kernel) | exact kit_ty (show kitB _ _ = some false by decide +kernel)
theorem Typ.kList {K : PySem.W.Frag} {H : Hp} {x : V} {t : String} (h : Typ H x t) : PySem.W.kitOne K (.type t) (.type "list") = some (t == "list") := by
  cases h <;> first | exact kit_ty (show kitB _ _ = some true by decide +kernel) | exact kit_ty (show kitB _ _ = some false by decide +kernel)
theorem Typ.kSeq {K : PySem.W.Frag} {H : Hp} {x : V} {t : String} (h : Typ H x t) : PySem.W.kitAny K (.type t) [.type "list", .type "tuple"] = some (t == "list" || t == "tuple") := by
  refine kitAny_cons h.kList (fun e => ?_) (fun e => by rw [e]; rfl)
  refine kitAny_cons h.kTup (fun e2 => ?_) (fun e2 => by rw [e2]; simp)
  rw [kitAny_nil, e, e2]
  rfl

def spIsInt : Sp := fun vs H Q _ => ∃ (x : V) (t : String), vs = [x] ∧ Typ H x t ∧ Q (.bl (isI x)) H
structure TxB (mg : Str → Option Value) : Prop where
  isin : mg "isinstance" = none
  int : mg "int" = none
  bool : mg "bool" = none
  str : mg "str" = none
  list : mg "list" = none
  tuple : mg "tuple" = none
section
variable {P : Program} {w : World} {K : PySem.W.Frag} {mg : Str → Option Value} {base : Heap}
theorem scIsInt : FnScope ["value"] ["value"] (defScope sIsInt) := ⟨rfl, rfl, rfl, by decide +kernel, rfl, by decide +kernel, by decide +kernel⟩
theorem ok_isInt {f : Addr} {fd : FuncData} (F : Fun K "is_integer" "is_integer" sIsInt f fd) (T : TxB mg) : FnOk P w K mg base CX0 1 f fd ["value"] spIsInt := by
  refine F.ok scIsInt (fun vs H Q E h => ?_) (fun cdv A outer s H vs Q E hr h => ?_)
  · obtain ⟨x, t, rfl, _⟩ := h
    rfl
  · obtain ⟨x, t, rfl, ht, k⟩ := h
    refine ⟨_, pss_one (ps_ret (pe_and (pe_callB call_isi (by rfl) T.isin (by decide +kernel) (pa_cons (pv 0) (pa_cons (pe_bltn (v := .ty "int") (by rfl) T.int (by decide +kernel) rfl) pa_nil)))
      (pe_one (pe_not (pe_callB call_isi (by rfl) T.isin (by decide +kernel) (pa_cons (pv 0) (pa_cons (pe_bltn (v := .ty "bool") (by rfl) T.bool (by decide +kernel) rfl) pa_nil))))))), ?_⟩
    refine ⟨_, rfl, x, _, _, _, _, rfl, .ty _, ht.ty, ht.kInt, _, rfl, ?_⟩
    refine ite2 (fun hi => ?_) (fun hn => ?_)
    · refine ⟨_, rfl, x, _, _, _, _, rfl, .ty _, ht.ty, ht.kBool, _, rfl, ?_⟩
      have e : (!isB x) = isI x := by cases ht <;> first | rfl | exact absurd hi Bool.false_ne_true
      show Q (.bl (!isB x)) H
      rw [e]
      exact k
    · have e : isI x = false := by cases ht <;> first | rfl | exact absurd rfl hn
      show Q (.bl false) H
      rw [← e]
      exact k
theorem scIsNum : FnScope ["_law_value_here"] ["_law_value_here"] (defScope sIsNumber) := ⟨rfl, rfl, rfl, by decide +kernel, rfl, by decide +kernel, by decide +kernel⟩
theorem ok_isNum {f : Addr} {fd : FuncData} (F : Fun K "_law_is_number" "_law_is_number" sIsNumber f fd) (T : TxB mg) : FnOk P w K mg base CX0 1 f fd ["_law_value_here"] spIsInt := by
  refine F.ok scIsNum (fun vs H Q E h => ?_) (fun cdv A outer s H vs Q E hr h => ?_)
  · obtain ⟨x, t, rfl, _⟩ := h
    rfl
  · obtain ⟨x, t, rfl, ht, k⟩ := h
    refine ⟨_, pss_one (ps_ret (pe_and (pe_callB call_isi (by rfl) T.isin (by decide +kernel) (pa_cons (pv 0) (pa_cons (pe_bltn (v := .ty "int") (by rfl) T.int (by decide +kernel) rfl) pa_nil)))
      (pe_one (pe_not (pe_callB call_isi (by rfl) T.isin (by decide +kernel) (pa_cons (pv 0) (pa_cons (pe_bltn (v := .ty "bool") (by rfl) T.bool (by decide +kernel) rfl) pa_nil))))))), ?_⟩
    refine ⟨_, rfl, x, _, _, _, _, rfl, .ty _, ht.ty, ht.kInt, _, rfl, ?_⟩
    refine ite2 (fun hi => ?_) (fun hn => ?_)
    · refine ⟨_, rfl, x, _, _, _, _, rfl, .ty _, ht.ty, ht.kBool, _, rfl, ?_⟩
      have e : (!isB x) = isI x := by cases ht <;> first | rfl | exact absurd hi Bool.false_ne_true
      show Q (.bl (!isB x)) H
      rw [e]
      exact k
    · have e : isI x = false := by cases ht <;> first | rfl | exact absurd rfl hn
      show Q (.bl false) H
      rw [← e]
      exact k
end

/-! ### comprehensions that change nothing -/
theorem lcp {J : It} {xs : List V} {G : Hp → Prop} (w : Walk J xs.length G (YAt xs)) {g : TG} {tt : TT} {te : TE} {vs : List Nat} {σ : L2.St} {H1 : Hp} {Q : VK} (f : V → Bool) (v : V → V) (hz : xs.length < 40000) (hG : ∀ H, Same H1 H → G H)
    (hs : ∀ x, x ∈ xs → ∀ H, Same H1 H → ∀ (Qy : V → Hp → Prop) (Qn : Hp → Prop), (f x = true → ∀ H', Same H H' → Qy (v x) H') → (f x = false → ∀ H', Same H H' → Qn H') →
      g x (wipe σ vs) H fun σ2 H2 => wipe σ2 vs = wipe σ vs ∧ tt σ2 H2 fun b H3 => if b = true then te σ2 H3 Qy else Qn H3)
    (hd : ∀ (D : Addr) H', H1 D = none → Same H1 H' → H' D = some (.lst ((xs.filter f).map v)) → Q (.ref D) H') : tLc (fun _ H R => R J H) g tt te vs σ H1 Q := by
  intro D hD
  refine lc_it w (fun i H => Same H1 H ∧ H D = some (.lst (((xs.take i).filter f).map v))) ⟨fun b o e => by rw [upd_ne (ne_of_none e hD)]; exact e, upd_same⟩ (fun i H _ q => hG H q.1) ?_ ?_
  · rintro i x H H' hi q ⟨rfl, hx⟩
    have hm : x ∈ xs := List.mem_of_getElem? hx
    have et : xs.take (i + 1) = xs.take i ++ [x] := by
      have hx2 : xs[i] = x := (List.getElem?_eq_some_iff.mp hx).2
      rw [List.take_succ_eq_append_getElem hi, hx2]
    refine hs x hm H' q.1 _ _ (fun hf H2 s2 => ⟨_, s2 _ _ q.2, ?_, ?_, ?_⟩) (fun hf H2 s2 => ⟨fun b o e => s2 b o (q.1 b o e), ?_⟩)
    · refine Evl.sz_lt ?_
      rw [List.length_map]
      have := List.length_filter_le f (xs.take i)
      rw [List.length_take] at this
      omega
    · intro b o e
      rw [upd_ne (ne_of_none e hD)]
      exact s2 b o (q.1 b o e)
    · rw [upd_same, et, List.filter_append, List.map_append, List.filter_cons, if_pos hf]
      rfl
    · rw [et, List.filter_append, List.filter_cons, if_neg (by rw [hf]; decide)]
      show H2 D = some (.lst (((xs.take i).filter f ++ []).map v))
      rw [List.append_nil]
      exact s2 _ _ q.2
  · intro H q
    have q2 := q.2
    rw [List.take_length] at q2
    exact hd D H hD q.1 q2
def signs (z : Str) : List V := z.cps.toList.map fun c => .str ⟨#[c]⟩
theorem walk_signs {z : Str} : Walk (Its z) (signs z).length (fun _ => True) (YAt (signs z)) := by
  have e : (signs z).length = z.cps.size := by unfold signs; rw [List.length_map, Array.length_toList]
  rw [e]
  refine walk_str.mono (fun _ h => h) ?_
  rintro i H x H' hi _ ⟨rfl, c, hc, rfl⟩
  refine ⟨rfl, ?_⟩
  unfold signs
  rw [List.getElem?_map, Array.getElem?_toList, hc]
  rfl

/-! ### bounds, letters, lists -/
def Bnd (v : V) : Prop := v = .non ∨ ∃ i, v = .int i
def geB (i : Int) : V → Bool
  | .int a => decide (a ≤ i)
  | _ => true
def leB (i : Int) : V → Bool
  | .int b => decide (i ≤ b)
  | _ => true
def within : V → V → V → Bool
  | .int i, l, m => geB i l && leB i m
  | _, _, _ => false
def spWithin : Sp := fun vs H Q _ => ∃ (x l m : V) (t : String), vs = [x, l, m] ∧ Typ H x t ∧ Bnd l ∧ Bnd m ∧ Q (.bl (within x l m)) H
def letterB : V → Bool
  | .int i => (decide (-26 ≤ i) && decide (i ≤ 26)) && !decide (i = 0)
  | _ => false
def spLetter : Sp := fun vs H Q _ => ∃ (x : V) (t : String), vs = [x] ∧ Typ H x t ∧ Q (.bl (letterB x)) H
def spListed : Sp := fun vs H Q _ => ∃ (x : V) (t : String), vs = [x] ∧ Typ H x t ∧ ∀ H', Same H H' → Q (.bl (t == "list" || t == "tuple")) H'
/-- what a value holds: a list's items, a tuple's; nothing else holds any -/
inductive Its1 (H : Hp) : V → String → List V → Prop
  | lst {p : Addr} {xs : List V} (e : H p = some (.lst xs)) : Its1 H (.ref p) "list" xs
  | tup {p : Addr} {xs : List V} (e : H p = some (.tup xs)) : Its1 H (.ref p) "tuple" xs
  | none {x : V} {t : String} (h : (t == "list" || t == "tuple") = false) : Its1 H x t []
theorem Its1.same {H H' : Hp} {x : V} {t : String} {xs : List V} (h : Its1 H x t xs) (s : Same H H') : Its1 H' x t xs := by
  cases h with
  | lst e => exact .lst (s _ _ e)
  | tup e => exact .tup (s _ _ e)
  | none h => exact .none h
def AllTyp (H : Hp) (xs : List V) : Prop := ∀ y ∈ xs, ∃ u, Typ H y u
theorem AllTyp.same {H H' : Hp} {xs : List V} (h : AllTyp H xs) (s : Same H H') : AllTyp H' xs := fun y hy => by
  obtain ⟨u, q⟩ := h y hy
  exact ⟨u, q.same s⟩
def spAreInts : Sp := fun vs H Q _ => ∃ (x : V) (t : String) (xs : List V), vs = [x] ∧ Typ H x t ∧ Its1 H x t xs ∧ AllTyp H xs ∧ xs.length ≤ 1000 ∧ ∀ H', Same H H' → Q (.bl ((t == "list" || t == "tuple") && xs.all isI)) H'
structure TxC (mg : Str → Option Value) : Prop where
  kind : ∃ t, mg "MOST_KIND" = some (.int 26 t)
  all : mg "all" = none
section
variable {P : Program} {w : World} {K : PySem.W.Frag} {mg : Str → Option Value} {base : Heap}
theorem scWithin : FnScope ["value", "least", "most"] ["value", "least", "most"] (defScope sWithin) := ⟨rfl, rfl, rfl, by decide +kernel, rfl, by decide +kernel, by decide +kernel⟩
theorem ok_within {f : Addr} {fd : FuncData} (F : Fun K "is_within" "is_within" sWithin f fd) (GI : Cal P w K mg base "is_integer" 1 ["value"] spIsInt) : FnOk P w K mg base CX0 2 f fd ["value", "least", "most"] spWithin := by
  refine F.ok scWithin (fun vs H Q E h => ?_) (fun cdv A outer s H vs Q E hr h => ?_)
  · obtain ⟨x, l, m, t, rfl, _⟩ := h
    rfl
  · obtain ⟨x, l, m, t, rfl, ht, hl, hm, k⟩ := h
    refine ⟨_, pss_cons (ps_if (pt_not (pt_val (pe_cal GI hr (by decide) (by rfl) (pa_cons (pv 0) pa_nil)))) (pss_one (ps_ret pe_bl)) pss_nil)
      (pss_one (ps_ret (pe_and (pe_or (pe_cmpR op_isN (pv 1) pe_non (nomark _)) (pe_one (pe_cmpR op_ge (pv 0) (pv 1) (nomark _)))) (pe_one (pe_or (pe_cmpR op_isN (pv 2) pe_non (nomark _)) (pe_one (pe_cmpR op_le (pv 0) (pv 2) (nomark _)))))))), ?_⟩
    refine ⟨_, rfl, x, t, rfl, ht, _, rfl, ?_⟩
    refine ite2 (fun hn => ?_) (fun hi => ?_)
    · have e : within x l m = false := by cases ht <;> first | rfl | exact absurd hn Bool.false_ne_true
      rw [e] at k
      exact k
    · obtain ⟨i, rfl⟩ : ∃ i, x = .int i := by cases ht <;> first | exact ⟨_, rfl⟩ | exact absurd rfl hi
      -- the second half, whatever the first one says
      have half : ∀ H1 : Hp, H1 = H → ∀ Q1 : VK, Q1 (.bl (leB i m)) H1 → tOrV (tOp (fun x y H Q => y = .non ∧ Q (.bl (decide (x = .non))) H) (tVar 2) (tC .non)) (tOp (rI0 fun i j => .bl (decide (i ≤ j))) (tVar 0) (tVar 2)) [some (.int i), some l, some m] H1 Q1 := by
        intro H1 _ Q1 q
        rcases hm with rfl | ⟨b, rfl⟩
        · exact ⟨_, rfl, rfl, _, rfl, iteT q⟩
        · exact ⟨_, rfl, rfl, _, rfl, iteF ⟨_, rfl, _, rfl, _, _, rfl, rfl, q⟩⟩
      rcases hl with rfl | ⟨a, rfl⟩
      · refine ⟨_, rfl, rfl, _, rfl, iteT ⟨_, rfl, iteT (half H rfl _ ?_)⟩⟩
        exact k
      · refine ⟨_, rfl, rfl, _, rfl, iteF ⟨_, rfl, _, rfl, _, _, rfl, rfl, _, rfl, ?_⟩⟩
        refine ite2 (fun hg => half H rfl _ ?_) (fun hg => ?_)
        · have e : within (.int i) (.int a) m = leB i m := by
            show (decide (a ≤ i) && leB i m) = leB i m
            rw [hg]
            rfl
          rw [e] at k
          exact k
        · have e : within (.int i) (.int a) m = false := by
            show (decide (a ≤ i) && leB i m) = false
            rw [Bool.eq_false_iff.mpr hg]
            rfl
          rw [e] at k
          exact k
theorem scLetter : FnScope ["value"] ["value"] (defScope sLetter) := ⟨rfl, rfl, rfl, by decide +kernel, rfl, by decide +kernel, by decide +kernel⟩
theorem ok_letter {f : Addr} {fd : FuncData} (F : Fun K "is_letter" "is_letter" sLetter f fd) (GW : Cal P w K mg base "is_within" 2 ["value", "least", "most"] spWithin) (T : TxC mg) : FnOk P w K mg base CX0 3 f fd ["value"] spLetter := by
  refine F.ok scLetter (fun vs H Q E h => ?_) (fun cdv A outer s H vs Q E hr h => ?_)
  · obtain ⟨x, t, rfl, _⟩ := h
    rfl
  · obtain ⟨x, t, rfl, ht, k⟩ := h
    obtain ⟨tk, mK⟩ := T.kind
    refine ⟨_, pss_one (ps_ret (pe_and (pe_cal GW hr (by decide) (by rfl) (pa_cons (pv 0) (pa_cons (pe_un un_neg (pe_glob (v := .int 26) (by rfl) mK ⟨_, rfl⟩)) (pa_cons (pe_glob (v := .int 26) (by rfl) mK ⟨_, rfl⟩) pa_nil)))) (pe_one (pe_cmpR op_ne (pv 0) pe_int (nomark _))))), ?_⟩
    refine ⟨_, rfl, _, rfl, x, _, _, t, rfl, ht, .inr ⟨_, rfl⟩, .inr ⟨_, rfl⟩, _, rfl, ?_⟩
    refine ite2 (fun hi => ?_) (fun hn => ?_)
    · obtain ⟨i, rfl⟩ : ∃ i, x = .int i := by cases ht <;> first | exact ⟨_, rfl⟩ | exact absurd hi Bool.false_ne_true
      refine ⟨_, rfl, rfl, ?_⟩
      have e : letterB (.int i) = !decide (V.int i = V.int 0) := by
        have h2 : (decide (-26 ≤ i) && decide (i ≤ 26)) = true := hi
        show ((decide (-26 ≤ i) && decide (i ≤ 26)) && !decide (i = 0)) = _
        rw [h2, Bool.true_and]
        congr 1
        by_cases h0 : i = 0
        · subst h0; rfl
        · rw [decide_eq_false h0, decide_eq_false (fun q => h0 (by injection q))]
      rw [e] at k
      exact k
    · have e : letterB x = false := by
        cases ht with
        | int i =>
          have h2 : (decide (-26 ≤ i) && decide (i ≤ 26)) = false := Bool.eq_false_iff.mpr hn
          show ((decide (-26 ≤ i) && decide (i ≤ 26)) && !decide (i = 0)) = false
          rw [h2]
          rfl
        | _ => rfl
      rw [e] at k
      exact k
theorem scListed : FnScope ["value"] ["value"] (defScope sListed) := ⟨rfl, rfl, rfl, by decide +kernel, rfl, by decide +kernel, by decide +kernel⟩
theorem ok_listed {f : Addr} {fd : FuncData} (F : Fun K "is_listed" "is_listed" sListed f fd) (T : TxB mg) : FnOk P w K mg base CX0 1 f fd ["value"] spListed := by
  refine F.ok scListed (fun vs H Q E h => ?_) (fun cdv A outer s H vs Q E hr h => ?_)
  · obtain ⟨x, t, rfl, _⟩ := h
    rfl
  · obtain ⟨x, t, rfl, ht, k⟩ := h
    refine ⟨_, pss_one (ps_ret (pe_callB call_isiT (by rfl) T.isin (by decide +kernel) (pa_cons (pv 0) (pa_cons (pe_tup (pa_cons (pe_bltn (v := .ty "list") (by rfl) T.list (by decide +kernel) rfl) (pa_cons (pe_bltn (v := .ty "tuple") (by rfl) T.tuple (by decide +kernel) rfl) pa_nil))) pa_nil)))), ?_⟩
    refine ⟨_, rfl, (by show 2 ≤ sizeLine; decide), fun p hp => ?_⟩
    have sm : Same H (upd H p (.tup [.ty "list", .ty "tuple"])) := fun b o e => by rw [upd_ne (ne_of_none e hp)]; exact e
    exact ⟨x, p, _, _, _, _, rfl, upd_same, .cons (.ty _) (.cons (.ty _) .nil), (ht.same sm).ty, (ht.same sm).kSeq, k _ sm⟩
theorem scAreInts : FnScope ["value", "part"] ["value"] (defScope sAreInts) := ⟨rfl, rfl, rfl, by decide +kernel, rfl, by decide +kernel, by decide +kernel⟩
theorem ok_areInts {f : Addr} {fd : FuncData} (F : Fun K "are_integers" "are_integers" sAreInts f fd) (GI : Cal P w K mg base "is_integer" 1 ["value"] spIsInt) (GL : Cal P w K mg base "is_listed" 1 ["value"] spListed) (T : TxC mg) : FnOk P w K mg base CX0 2 f fd ["value"] spAreInts := by
  refine F.ok scAreInts (fun vs H Q E h => ?_) (fun cdv A outer s H vs Q E hr h => ?_)
  · obtain ⟨x, t, xs, rfl, _⟩ := h
    rfl
  · obtain ⟨x, t, xs, rfl, ht, hi, ha, hz, k⟩ := h
    have turn : ∀ (H1 : Hp), Same H H1 → ∀ y, y ∈ xs → ∀ H2, Same H1 H2 → ∀ (Qy : V → Hp → Prop) (Qn : Hp → Prop), ((fun _ : V => true) y = true → ∀ H', Same H2 H' → Qy (.bl (isI y)) H') → ((fun _ : V => true) y = false → ∀ H', Same H2 H' → Qn H') →
        gName 1 y (wipe [some x, none] [1]) H2 fun σ2 H2 => wipe σ2 [1] = wipe [some x, none] [1] ∧ tYes σ2 H2 fun b H3 => if b = true then tCall spIsInt [] E0 (tCons (tVar 1) tNil) σ2 H3 Qy else Qn H3 := by
      intro H1 s1 y hy H2 s2 Qy Qn ky kn
      obtain ⟨u, hu⟩ := ha y hy
      refine ⟨rfl, yes_te ?_⟩
      exact ⟨_, rfl, y, u, rfl, (hu.same s1).same s2, ky rfl H2 (fun _ _ e => e)⟩
    have fin : ∀ H1, Same H H1 → (t == "list" || t == "tuple") = true → ∀ (D : Addr) H', Same H1 H' → H' D = some (.lst ((xs.filter fun _ => true).map fun y => .bl (isI y))) → rAll K [.ref D] H' Q := by
      intro H1 s1 htt D H' s2 hD
      refine ⟨D, xs.map isI, rfl, SqL.of ?_, ?_⟩
      · rw [hD, List.filter_eq_self.mpr (fun _ _ => rfl), List.map_map]
        rfl
      · have e : ((xs.map isI).all id) = ((t == "list" || t == "tuple") && xs.all isI) := by
          rw [htt, Bool.true_and, List.all_map]
          rfl
        rw [e]
        exact k H' (fun b o q => s2 b o (s1 b o q))
    cases hi with
    | lst e =>
      refine ⟨_, pss_one (ps_ret (pe_and (pe_cal GL hr (by decide) (by rfl) (pa_cons (pv 0) pa_nil)) (pe_one (pe_callB (cr_all rfl) (by rfl) T.all (by decide +kernel) (pa_cons (pe_lc (own := [("part", 1)]) (g := gName 1) (tt := tYes) rfl scAreInts.nd (pi_list (pv 0))
        (blkOk_by (N := ["value", "part"]) (sc := defScope sAreInts) (by decide +kernel)) (fun _ _ _ _ _ => pg_name (i := 1) scAreInts.nd rfl (Or.inl rfl)) (fun _ _ _ _ _ => pts_nil)
        (fun _ _ _ _ _ => pe_cal GI hr (by decide) (by rfl) (pa_cons (pv 1) pa_nil))) pa_nil))))), ?_⟩
      refine ⟨_, rfl, _, _, rfl, ht, fun H1 s1 => ⟨_, rfl, iteT ?_⟩⟩
      refine ⟨_, rfl, _, rfl, ⟨_, SqL.of (s1 _ _ e)⟩, ?_⟩
      exact lcp (Q := fun y H2 => rAll K [y] H2 Q) walk_list (fun _ => true) (fun y => .bl (isI y)) (by omega) (fun H2 s2 => SqL.of (s2 _ _ (s1 _ _ e))) (turn H1 s1) (fun D H' _ s2 hD => fin H1 s1 rfl D H' s2 hD)
    | tup e =>
      refine ⟨_, pss_one (ps_ret (pe_and (pe_cal GL hr (by decide) (by rfl) (pa_cons (pv 0) pa_nil)) (pe_one (pe_callB (cr_all rfl) (by rfl) T.all (by decide +kernel) (pa_cons (pe_lc (own := [("part", 1)]) (g := gName 1) (tt := tYes) rfl scAreInts.nd (pi_tup (pv 0))
        (blkOk_by (N := ["value", "part"]) (sc := defScope sAreInts) (by decide +kernel)) (fun _ _ _ _ _ => pg_name (i := 1) scAreInts.nd rfl (Or.inl rfl)) (fun _ _ _ _ _ => pts_nil)
        (fun _ _ _ _ _ => pe_cal GI hr (by decide) (by rfl) (pa_cons (pv 1) pa_nil))) pa_nil))))), ?_⟩
      refine ⟨_, rfl, _, _, rfl, ht, fun H1 s1 => ⟨_, rfl, iteT ?_⟩⟩
      refine ⟨_, rfl, _, rfl, ⟨_, SqT.of (s1 _ _ e)⟩, ?_⟩
      exact lcp (Q := fun y H2 => rAll K [y] H2 Q) walk_tup (fun _ => true) (fun y => .bl (isI y)) (by omega) (fun H2 s2 => SqT.of (s2 _ _ (s1 _ _ e))) (turn H1 s1) (fun D H' _ s2 hD => fin H1 s1 rfl D H' s2 hD)
    | none hn =>
      refine ⟨_, pss_one (ps_ret (pe_and (pe_cal GL hr (by decide) (by rfl) (pa_cons (pv 0) pa_nil)) (pe_one (pe_callB (cr_all rfl) (by rfl) T.all (by decide +kernel) (pa_cons (pe_lc (own := [("part", 1)]) (g := gName 1) (tt := tYes) rfl scAreInts.nd (pi_list (pv 0))
        (blkOk_by (N := ["value", "part"]) (sc := defScope sAreInts) (by decide +kernel)) (fun _ _ _ _ _ => pg_name (i := 1) scAreInts.nd rfl (Or.inl rfl)) (fun _ _ _ _ _ => pts_nil)
        (fun _ _ _ _ _ => pe_cal GI hr (by decide) (by rfl) (pa_cons (pv 1) pa_nil))) pa_nil))))), ?_⟩
      refine ⟨_, rfl, _, _, rfl, ht, fun H1 s1 => ⟨_, rfl, ?_⟩⟩
      rw [hn] at k ⊢
      exact iteF (k H1 s1)
end
end K01
set_option Elab.async false
set_option linter.all false
set_option maxRecDepth 100000
set_option maxHeartbeats 2000000
namespace K01
open PySem L2 PySem.Spec PyProof.Rows

/-- the heap by a name -/
theorem gen_heap {P : Hp → Prop} {H : Hp} (h : ∀ H3, H3 = H → P H3) : P H := h H rfl
/-! ### list(text) -/
theorem signs_at {z : Str} {acc : Array Value} (h : PySem.ItemsOf (PySem.SignAt z) acc z.cps.size) : Vals (signs z) acc.toList := by
  refine vals_of_at ?_ fun j x u h1 h2 => ?_
  · unfold signs
    rw [List.length_map, Array.length_toList, Array.length_toList]
    exact h.1.symm
  · obtain ⟨c, t, e, rfl⟩ := h.2 j u (by rw [← Array.getElem?_toList]; exact h2)
    unfold signs at h1
    rw [List.getElem?_map, Array.getElem?_toList, e] at h1
    cases h1
    exact ⟨t, rfl⟩
def rListTx : List V → Hp → VK → Prop := fun xs H Q => ∃ z : Str, xs = [.str z] ∧ z.cps.size ≤ 100000 ∧ ∀ q, H q = none → Q (.ref q) (upd H q (.lst (signs z)))
theorem signs_len (z : Str) : (signs z).length = z.cps.size := by unfold signs; rw [List.length_map, Array.length_toList]
theorem call_listTx {X : Cx} (hc : X.calm = true) : CallR X (.type "list") rListTx := by
  intro pins s σ H xs us Q I r h
  obtain ⟨z, e, hz, q⟩ := h
  subst e
  obtain ⟨u, eu, rx⟩ := vals1 r
  subst eu
  obtain ⟨t, rfl⟩ := rx
  have hz2 : z.cps.size ≤ sizeLine := Evl.sz_of hz
  refine PySem.call_list_str (I.ok.hd hc) z t (fun h' tk acc' c' hk hS hacc => ?_) hz2
  refine ⟨.ref s.heap.objs.size, upd H s.heap.objs.size (.lst (signs z)), I.laid hk (Nat.le_refl _) (show ObjOk X.prog X.w _ _ _ (.lst (signs z)) from ⟨?_, acc'.toList, c', signs_at hacc, ?_⟩), rfl, q _ (I.hok.fresh (Nat.le_refl _))⟩
  · rw [signs_len]; exact hz2
  · rw [Array.toArray_toList]; exact hS

/-! ### flat data -/
def flatD : PyData → Bool
  | .none => true
  | .bool _ => true
  | .int _ => true
  | .str z => PyData.strOk z
  | _ => false
theorem flat_lay : ∀ ds : List PyData, ds.all flatD = true → PyData.canLayAll0 ds = true ∧ PyData.depthAll ds = 0
  | [], _ => ⟨rfl, rfl⟩
  | d :: r, h => by
    rw [List.all_cons, Bool.and_eq_true] at h
    obtain ⟨h1, h2⟩ := flat_lay r h.2
    have hd := h.1
    cases d with
    | none => exact ⟨by simp [PyData.canLayAll0, PyData.canLay0, h1], by simp [PyData.depthAll, PyData.depth, h2]⟩
    | bool b => exact ⟨by simp [PyData.canLayAll0, PyData.canLay0, h1], by simp [PyData.depthAll, PyData.depth, h2]⟩
    | int i => exact ⟨by simp [PyData.canLayAll0, PyData.canLay0, h1], by simp [PyData.depthAll, PyData.depth, h2]⟩
    | str z =>
      have hz : PyData.strOk z = true := hd
      exact ⟨by simp [PyData.canLayAll0, PyData.canLay0, h1, hz], by simp [PyData.depthAll, PyData.depth, h2]⟩
    | list l => exact absurd hd Bool.false_ne_true
    | tuple l => exact absurd hd Bool.false_ne_true
    | dict l => exact absurd hd Bool.false_ne_true
theorem shaped_flat {ds : List PyData} (h : ds.all flatD = true) : SeqAt.shaped (.list ds) = true := by
  obtain ⟨h1, h2⟩ := flat_lay ds h
  simp [SeqAt.shaped, PyData.canLay0, PyData.depth, h1, h2]
theorem shaped_flatT {ds : List PyData} (h : ds.all flatD = true) : SeqAt.shaped (.tuple ds) = true := by
  obtain ⟨h1, h2⟩ := flat_lay ds h
  simp [SeqAt.shaped, PyData.canLay0, PyData.depth, h1, h2]
def dat : V → PyData
  | .bl b => .bool b
  | .int i => .int i
  | .str z => .str z
  | _ => .none
theorem dp_dat {K : PySem.W.Frag} {H : Hp} {v : V} (h : flatV v = true) : Dp K H v (dat v) := by
  cases v with
  | non => exact .non
  | bl b => exact .bl b
  | int i => exact .int i
  | str z => exact .str z
  | _ => exact absurd h Bool.false_ne_true
theorem dpAll_dat {K : PySem.W.Frag} {H : Hp} : ∀ {xs : List V}, xs.all flatV = true → DpAll K H xs (xs.map dat)
  | [], _ => .nil
  | x :: r, h => by
    rw [List.all_cons, Bool.and_eq_true] at h
    exact .cons (dp_dat h.1) (dpAll_dat h.2)
def okV : V → Bool
  | .non => true
  | .bl _ => true
  | .int _ => true
  | .str z => PyData.strOk z
  | _ => false
theorem okV.flat {v : V} (h : okV v = true) : flatV v = true := by
  cases v <;> first | rfl | exact absurd h Bool.false_ne_true
theorem ok_flat {xs : List V} (h : xs.all okV = true) : xs.all flatV = true := List.all_eq_true.mpr fun v hv => okV.flat (List.all_eq_true.mp h v hv)
theorem flat_dat : ∀ {xs : List V}, xs.all okV = true → (xs.map dat).all flatD = true
  | [], _ => rfl
  | x :: r, h => by
    rw [List.all_cons, Bool.and_eq_true] at h
    rw [List.map_cons, List.all_cons, flat_dat h.2, Bool.and_true]
    cases x <;> first | rfl | exact h.1
theorem eqv_nil (ds : List PyData) : PyData.eqv (.list ds) (.list []) = ds.isEmpty := by
  cases ds with
  | nil => rfl
  | cons d r => rfl

/-! ### names -/
abbrev alphS : Str := "abcdefghijklmnopqrstuvwxyz"
abbrev digS : Str := "0123456789"
def nameC (c : Nat) : Bool := decide (c ∈ alphS.cps.toList) || decide (c ∈ digS.cps.toList)
def nameL : List Nat → Bool
  | [] => false
  | c :: r => decide ((c :: r).length ≤ 12) && (decide (c ∈ alphS.cps.toList) && (c :: r).all nameC)
def nameB : V → Bool
  | .str z => nameL z.cps.toList
  | _ => false
/-- a text of no great length, of real signs -/
def Fine (z : Str) : Prop := z.cps.size ≤ 3000 ∧ PyData.strOk z = true
def spName : Sp := fun vs H Q _ => ∃ (x : V) (t : String), vs = [x] ∧ Typ H x t ∧ (∀ z, x = .str z → Fine z) ∧ ∀ H', Same H H' → Q (.bl (nameB x)) H'
structure TxD (mg : Str → Option Value) : Prop where
  most : ∃ t, mg "MOST_NAME" = some (.int 12 t)
  alpha : ∃ t, mg "ALPHABET" = some (.str alphS t)
  digs : ∃ t, mg "DIGITS" = some (.str digS t)
  all : mg "all" = none
  len : mg "len" = none
theorem inV_signs (c : Nat) (z : Str) : inV (.str ⟨#[c]⟩) (signs z) = decide (c ∈ z.cps.toList) := by
  rw [Bool.eq_iff_iff]
  unfold inV signs
  rw [List.any_map, List.any_eq_true, decide_eq_true_iff]
  constructor
  · rintro ⟨d, hd, e⟩
    have e2 : (({ cps := #[d] } : Str) == { cps := #[c] }) = true := e
    have e3 := eq_of_beq e2
    injection e3 with e4
    have e5 : d = c := by simpa using e4
    rw [← e5]
    exact hd
  · intro h
    exact ⟨c, h, by show (({ cps := #[c] } : Str) == { cps := #[c] }) = true; exact beq_self_eq_true _⟩
theorem signs_flat (z : Str) : (signs z).all flatV = true := by
  unfold signs
  rw [List.all_map]
  exact List.all_eq_true.mpr fun _ _ => rfl
section
variable {P : Program} {w : World} {K : PySem.W.Frag} {mg : Str → Option Value} {base : Heap}
theorem scName : FnScope ["value", "sign"] ["value"] (defScope sName) := ⟨rfl, rfl, rfl, by decide +kernel, rfl, by decide +kernel, by decide +kernel⟩
theorem ok_name {f : Addr} {fd : FuncData} (F : Fun K "is_name" "is_name" sName f fd) (T : TxB mg) (D : TxD mg) : FnOk P w K mg base CX0 1 f fd ["value"] spName := by
  refine F.ok scName (fun vs H Q E h => ?_) (fun cdv A outer s H vs Q E hr h => ?_)
  · obtain ⟨x, t, rfl, _⟩ := h
    rfl
  · obtain ⟨x, t, rfl, ht, hz, k⟩ := h
    obtain ⟨t1, m1⟩ := D.most
    obtain ⟨t2, m2⟩ := D.alpha
    obtain ⟨t3, m3⟩ := D.digs
    refine ⟨_, pss_cons (ps_if (PW.pt (pw_or (pt_not (pt_val (pe_callB call_isi (by rfl) T.isin (by decide +kernel) (pa_cons (pv 0) (pa_cons (pe_bltn (v := .ty "str") (by rfl) T.str (by decide +kernel) rfl) pa_nil)))))
        (pw_or1 (pt_not (pt_chain op_le op_le pe_int (pe_callB call_len_str (by rfl) D.len PySem.boot_len (pa_cons (pv 0) pa_nil)) (pe_glob (v := .int 12) (by rfl) m1 ⟨_, rfl⟩))))))
        (pss_one (ps_ret pe_bl)) pss_nil)
      (pss_one (ps_ret (pe_and (pe_cmpR op_in_sign (pe_ix ix_str (pv 0) pe_int (fun _ _ => rfl)) (pe_glob (v := .str alphS) (by rfl) m2 ⟨_, rfl⟩) rfl)
        (pe_one (pe_callB (cr_all rfl) (by rfl) D.all (by decide +kernel) (pa_cons (pe_lc (own := [("sign", 1)]) (g := gName 1) (tt := tYes) rfl scName.nd (pi_str (pv 0))
          (blkOk_by (N := ["value", "sign"]) (sc := defScope sName) (by decide +kernel)) (fun _ _ _ _ _ => pg_name (i := 1) scName.nd rfl (Or.inl rfl)) (fun _ _ _ _ _ => pts_nil)
          (fun _ _ _ _ _ => pe_cmpR op_in_sign (pv 1) (pe_op op_add_str (pe_glob (v := .str alphS) (by rfl) m2 ⟨_, rfl⟩) (pe_glob (v := .str digS) (by rfl) m3 ⟨_, rfl⟩)) rfl)) pa_nil)))))), ?_⟩
    refine ⟨_, rfl, x, _, _, _, _, rfl, .ty _, ht.ty, ht.kStr, _, rfl, ?_⟩
    cases hS : isS x with
    | false =>
      have e : nameB x = false := by cases ht <;> first | rfl | exact Bool.noConfusion (show true = false from hS)
      have q := k H (fun _ _ e => e)
      rw [e] at q
      exact iteT (iteT q)
    | true =>
      obtain ⟨z, rfl⟩ : ∃ z, x = .str z := by cases ht <;> first | exact ⟨_, rfl⟩ | exact absurd hS Bool.false_ne_true
      have hz0 := (hz z rfl).1
      have hzl : z.length = z.cps.toList.length := Array.length_toList.symm
      refine iteF ?_
      refine ⟨_, rfl, _, rfl, Evl.sz_of (Nat.le_trans hz0 (by decide)), _, _, rfl, rfl, _, rfl, ?_⟩
      -- the second half: the first sign, then all of them
      have half : ∀ (c : Nat) (r : List Nat), z.cps.toList = c :: r → ∀ D : Ends, (∀ H', Same H H' → D.rt (.bl (decide (c ∈ alphS.cps.toList) && (c :: r).all nameC)) H') →
          tRet (tAndV (tOp (fun x y H Q => ∃ (c : Nat) (z : Str), x = .str ⟨#[c]⟩ ∧ y = .str z ∧ Q (.bl (decide (c ∈ z.cps.toList))) H) (tOp rIxS (tVar 0) (tC (.int 0))) (tC (.str alphS)))
            (tCB (rAll K) (tCons (tLc (iStr (tVar 0)) (gName 1) tYes (tOp (fun x y H Q => ∃ (c : Nat) (z : Str), x = .str ⟨#[c]⟩ ∧ y = .str z ∧ Q (.bl (decide (c ∈ z.cps.toList))) H) (tVar 1)
              (tOp (fun x y H Q => ∃ i j, x = .str i ∧ y = .str j ∧ i.length + j.length ≤ sizeLine ∧ Q (.str (i ++ j)) H) (tC (.str alphS)) (tC (.str digS)))) [1]) tNil))) D [some (.str z), none] H := by
        intro c r hl D q
        refine ⟨_, rfl, z, 0, c, rfl, rfl, Evl.sz_of (Nat.le_trans hz0 (by decide)), (by rw [hl]; exact atI_nat (j := 0) rfl), c, _, rfl, rfl, _, rfl, ?_⟩
        by_cases hc : c ∈ alphS.cps.toList
        · rw [decide_eq_true hc] at q ⊢
          refine iteT ?_
          refine ⟨_, rfl, z, rfl, ?_⟩
          refine lcp (Q := fun y H2 => rAll K [y] H2 D.rt) walk_signs (fun _ => true) (fun y => .bl (match y with | .str s => (match s.cps.toList with | [d] => nameC d | _ => false) | _ => false)) (by rw [signs_len]; omega) (fun _ _ => True.intro) ?_ ?_
          · intro y hy H2 s2 Qy Qn ky kn
            obtain ⟨d, hd, rfl⟩ := List.mem_map.mp hy
            refine ⟨rfl, yes_te ?_⟩
            refine ⟨_, rfl, _, _, rfl, rfl, by decide +kernel, d, _, rfl, rfl, ?_⟩
            have e : decide (d ∈ (alphS ++ digS).cps.toList) = nameC d := by
              unfold nameC
              rw [PySem.Str.cps_append, Array.toList_append]
              rw [Bool.eq_iff_iff]
              simp
            rw [e]
            exact ky rfl H2 (fun _ _ e => e)
          · intro Dl H' _ s2 hD
            refine ⟨Dl, (c :: r).map nameC, rfl, SqL.of ?_, ?_⟩
            · rw [hD, List.filter_eq_self.mpr (fun _ _ => rfl)]
              unfold signs
              rw [hl, List.map_map, List.map_map]
              rfl
            · have e : (((c :: r).map nameC).all id) = (true && (c :: r).all nameC) := by
                rw [Bool.true_and, List.all_map]
                rfl
              rw [e]
              exact q H' s2
        · rw [decide_eq_false hc] at q ⊢
          exact iteF (q H (fun _ _ e => e))
      cases hl : z.cps.toList with
      | nil =>
        have e0 : z.length = 0 := by rw [hzl, hl]; rfl
        rw [e0]
        have q := k H (fun _ _ e => e)
        have e : nameB (.str z) = false := by show nameL z.cps.toList = false; rw [hl]; rfl
        rw [e] at q
        exact iteF ⟨_, rfl, iteT q⟩
      | cons c r =>
        have e0 : z.length = (c :: r).length := by rw [hzl, hl]
        have e1 : decide ((1 : Int) ≤ ((z.length : Nat) : Int)) = true := decide_eq_true (by rw [e0, List.length_cons]; omega)
        rw [e1]
        refine iteT ⟨_, _, rfl, rfl, _, rfl, ?_⟩
        have q := fun H' s' => k H' s'
        have en : nameB (.str z) = (decide ((c :: r).length ≤ 12) && (decide (c ∈ alphS.cps.toList) && (c :: r).all nameC)) := by show nameL z.cps.toList = _; rw [hl]; rfl
        rw [en] at q
        by_cases h12 : (c :: r).length ≤ 12
        · have e2 : decide (((z.length : Nat) : Int) ≤ 12) = true := decide_eq_true (by rw [e0]; omega)
          rw [e2]
          rw [decide_eq_true h12, Bool.true_and] at q
          exact iteF (half c r hl _ q)
        · have e2 : decide (((z.length : Nat) : Int) ≤ 12) = false := decide_eq_false (by rw [e0]; omega)
          rw [e2]
          rw [decide_eq_false h12, Bool.false_and] at q
          exact iteT (q H (fun _ _ e => e))
/-! ### the law's own look at names -/
theorem scIsName : FnScope ["_law_value_here", "_law_small", "_law_figures", "_law_sign"] ["_law_value_here"] (defScope sIsName) := ⟨rfl, rfl, rfl, by decide +kernel, rfl, by decide +kernel, by decide +kernel⟩
theorem ok_isName {f : Addr} {fd : FuncData} (F : Fun K "_law_is_name" "_law_is_name" sIsName f fd) (T : TxB mg) (D : TxD mg) : FnOk P w K mg base CX0 1 f fd ["_law_value_here"] spName := by
  refine F.ok scIsName (fun vs H Q E h => ?_) (fun cdv A outer s H vs Q E hr h => ?_)
  · obtain ⟨x, t, rfl, _⟩ := h
    rfl
  · obtain ⟨x, t, rfl, ht, hz, k⟩ := h
    refine ⟨_, pss_cons (ps_if (PW.pt (pw_or (pt_not (pt_val (pe_callB call_isi (by rfl) T.isin (by decide +kernel) (pa_cons (pv 0) (pa_cons (pe_bltn (v := .ty "str") (by rfl) T.str (by decide +kernel) rfl) pa_nil)))))
        (pw_or (pt_cmpR op_lt (pe_callB call_len_str (by rfl) D.len PySem.boot_len (pa_cons (pv 0) pa_nil)) pe_int (nomark _)) (pw_or1 (pt_cmpR op_gt (pe_callB call_len_str (by rfl) D.len PySem.boot_len (pa_cons (pv 0) pa_nil)) pe_int (nomark _))))))
        (pss_one (ps_ret pe_bl)) pss_nil)
      (pss_cons (ps_asg (pe_tup (pa_cons (pe_callTy (call_listTx rfl) (by rfl) T.list (by decide +kernel) (pa_cons pe_str pa_nil)) (pa_cons (pe_callTy (call_listTx rfl) (by rfl) T.list (by decide +kernel) (pa_cons pe_str pa_nil)) pa_nil)))
        (pg_tup (n := 2) rfl (pgs_cons (pg_name (i := 1) scIsName.nd rfl (Or.inr rfl)) (pgs_cons (pg_name (i := 2) scIsName.nd rfl (Or.inr rfl)) pgs_nil))))
      (pss_one (ps_ret (pe_and (pe_cmpR op_in_seq (pe_ix ix_str (pv 0) pe_int (fun _ _ => rfl)) (pv 1) (by rfl))
        (pe_one (pe_cmpR (op_eqD hr.units) (pe_lc (own := [("_law_sign", 3)]) (g := gName 3) rfl scIsName.nd (pi_str (pv 0))
          (blkOk_by (N := ["_law_value_here", "_law_small", "_law_figures", "_law_sign"]) (sc := defScope sIsName) (by decide +kernel)) (fun _ _ _ _ _ => pg_name (i := 3) scIsName.nd rfl (Or.inl rfl))
          (fun _ _ _ _ _ => pts_one (pt_cmpR (r := rIn K true) op_notIn_seq (pv 3) (pe_op op_cat (pv 1) (pv 2)) (by rfl))) (fun _ _ _ _ _ => pv 3)) (pe_lst pa_nil) (nomark _))))))), ?_⟩
    refine ⟨_, rfl, x, _, _, _, _, rfl, .ty _, ht.ty, ht.kStr, _, rfl, ?_⟩
    cases hS : isS x with
    | false =>
      have e : nameB x = false := by cases ht <;> first | rfl | exact Bool.noConfusion (show true = false from hS)
      have q := k H (fun _ _ e => e)
      rw [e] at q
      exact iteT (iteT q)
    | true =>
      obtain ⟨z, rfl⟩ : ∃ z, x = .str z := by cases ht <;> first | exact ⟨_, rfl⟩ | exact absurd hS Bool.false_ne_true
      have hz0 := (hz z rfl).1
      have hzl : z.length = z.cps.toList.length := Array.length_toList.symm
      have szz : z.length ≤ sizeLine := Evl.sz_of (Nat.le_trans hz0 (by decide))
      refine iteF ⟨_, rfl, _, rfl, szz, _, _, rfl, rfl, _, rfl, ?_⟩
      cases hl : z.cps.toList with
      | nil =>
        have e0 : z.length = 0 := by rw [hzl, hl]; rfl
        rw [e0]
        have q := k H (fun _ _ e => e)
        have e : nameB (.str z) = false := by show nameL z.cps.toList = false; rw [hl]; rfl
        rw [e] at q
        exact iteT (iteT q)
      | cons c r =>
        have e0 : z.length = (c :: r).length := by rw [hzl, hl]
        have e1 : decide (((z.length : Nat) : Int) < 1) = false := decide_eq_false (by rw [e0, List.length_cons]; omega)
        rw [e1]
        refine iteF ⟨_, rfl, _, rfl, szz, _, _, rfl, rfl, _, rfl, ?_⟩
        have q := fun H' s' => k H' s'
        have en : nameB (.str z) = (decide ((c :: r).length ≤ 12) && (decide (c ∈ alphS.cps.toList) && (c :: r).all nameC)) := by show nameL z.cps.toList = _; rw [hl]; rfl
        rw [en] at q
        by_cases h12 : (c :: r).length ≤ 12
        · have e2 : decide ((12 : Int) < ((z.length : Nat) : Int)) = false := decide_eq_false (by rw [e0]; omega)
          rw [e2]
          rw [decide_eq_true h12, Bool.true_and] at q
          refine iteF ?_
          refine ⟨_, rfl, by decide +kernel, fun q1 hq1 => ⟨_, rfl, by decide +kernel, fun q2 hq2 => ⟨by show 2 ≤ sizeLine; decide, fun tp htp => ?_⟩⟩⟩
          refine ⟨tp, _, rfl, SqT.of upd_same, rfl, _, _, rfl, _, _, rfl, rfl, ?_⟩
          have n12 : q1 ≠ q2 := fun e => by rw [e, upd_same] at hq2; cases hq2
          have n1 : q1 ≠ tp := fun e => by rw [← e, upd_ne n12, upd_same] at htp; cases htp
          have n2 : q2 ≠ tp := fun e => by rw [← e, upd_same] at htp; cases htp
          have hq2' : H q2 = none := by rw [upd_ne n12.symm] at hq2; exact hq2
          have htp' : H tp = none := by rw [upd_ne n2.symm, upd_ne n1.symm] at htp; exact htp
          refine gen_heap fun H3 e3 => ?_
          have h1 : H3 q1 = some (.lst (signs alphS)) := by rw [e3, upd_ne n1, upd_ne n12, upd_same]
          have h2 : H3 q2 = some (.lst (signs digS)) := by rw [e3, upd_ne n2, upd_same]
          have s3 : Same H H3 := fun b o e => by
            rw [e3, upd_ne (ne_of_none e htp'), upd_ne (ne_of_none e hq2'), upd_ne (ne_of_none e hq1)]
            exact e
          refine ⟨_, rfl, z, 0, c, rfl, rfl, szz, (by rw [hl]; exact atI_nat (j := 0) rfl), _, rfl, q1, _, rfl, .inl (SqL.of h1), rfl, signs_flat _, _, rfl, ?_⟩
          have ei : (if false = true then !inV (.str ⟨#[c]⟩) (signs alphS) else inV (.str ⟨#[c]⟩) (signs alphS)) = decide (c ∈ alphS.cps.toList) := by
            rw [if_neg Bool.false_ne_true]
            exact inV_signs c alphS
          rw [ei]
          by_cases hc : c ∈ alphS.cps.toList
          · rw [decide_eq_true hc] at q ⊢
            refine iteT ?_
            refine ⟨_, rfl, z, rfl, ?_⟩
            refine lcp (Q := fun y H2 => tLst tNil [some (.str z), some (.ref q1), some (.ref q2), none] H2 fun y2 H3 => rEqD K y y2 H3 Q) walk_signs (fun y => !(match y with | .str s => (match s.cps.toList with | [d] => nameC d | _ => false) | _ => false)) id (by rw [signs_len]; omega) (fun _ _ => True.intro) ?_ ?_
            · intro y hy H4 s4 Qy Qn ky kn
              obtain ⟨d, hd, rfl⟩ := List.mem_map.mp hy
              refine ⟨rfl, ?_⟩
              have h41 := s4 _ _ h1
              have h42 := s4 _ _ h2
              refine ⟨_, rfl, _, rfl, _, rfl, q1, q2, _, _, rfl, rfl, h41, h42, by decide +kernel, fun p5 hp5 => ?_⟩
              have s5 : Same H4 (upd H4 p5 (.lst (signs alphS ++ signs digS))) := fun b o e => by rw [upd_ne (ne_of_none e hp5)]; exact e
              refine ⟨p5, _, rfl, .inl (SqL.of upd_same), rfl, by rw [List.all_append, signs_flat, signs_flat]; rfl, _, rfl, ?_⟩
              have ein : inV (.str ⟨#[d]⟩) (signs alphS ++ signs digS) = nameC d := by
                show (signs alphS ++ signs digS).any _ = _
                rw [List.any_append]
                have a1 := inV_signs d alphS
                have a2 := inV_signs d digS
                unfold inV at a1 a2
                rw [a1, a2]
                rfl
              show (if (!inV (.str ⟨#[d]⟩) (signs alphS ++ signs digS)) = true then _ else _)
              rw [ein]
              cases hn : nameC d with
              | true =>
                exact iteF (kn (by show (!nameC d) = false; rw [hn]; rfl) _ s5)
              | false =>
                exact iteT ⟨_, rfl, ky (by show (!nameC d) = true; rw [hn]; rfl) _ s5⟩
            · intro Dl H4 _ s4 hD
              refine ⟨Nat.zero_le _, fun p5 hp5 => ?_⟩
              have s5 : Same H4 (upd H4 p5 (.lst [])) := fun b o e => by rw [upd_ne (ne_of_none e hp5)]; exact e
              have hm : (((signs z).filter fun y => !(match y with | .str s => (match s.cps.toList with | [d] => nameC d | _ => false) | _ => false)).map id) = ((c :: r).filter fun d => !nameC d).map fun d => V.str ⟨#[d]⟩ := by
                unfold signs
                rw [hl, List.map_id, List.filter_map]
                rfl
              have hok : ((((c :: r).filter fun d => !nameC d).map fun d => V.str ⟨#[d]⟩)).all okV = true := by
                rw [List.all_map]
                refine List.all_eq_true.mpr fun d hd => ?_
                have hm2 : d ∈ z.cps.toList := by rw [hl]; exact (List.mem_filter.mp hd).1
                have hs := (hz z rfl).2
                have hlt : d < 0x110000 := by
                  unfold PyData.strOk at hs
                  rw [Array.all_eq_true'] at hs
                  exact of_decide_eq_true (hs d (Array.mem_toList_iff.mp hm2))
                show PyData.strOk ⟨#[d]⟩ = true
                unfold PyData.strOk
                simp
                exact hlt
              rw [hm] at hD
              refine ⟨_, _, .lst (SqL.of (s5 _ _ hD)) (dpAll_dat (ok_flat hok)), .lst (SqL.of upd_same) .nil, shaped_flat (flat_dat hok), rfl, ?_⟩
              rw [eqv_nil]
              have e6 : (((((c :: r).filter fun d => !nameC d).map fun d => V.str ⟨#[d]⟩).map dat).isEmpty) = (true && (c :: r).all nameC) := by
                rw [Bool.true_and, Bool.eq_iff_iff, List.isEmpty_iff, List.map_eq_nil_iff, List.map_eq_nil_iff, List.filter_eq_nil_iff, List.all_eq_true]
                constructor
                · intro h d hd
                  have := h d hd
                  simpa using this
                · intro h d hd
                  have := h d hd
                  simpa using this
              rw [e6]
              exact q _ (fun b o e => s5 b o (s4 b o (s3 b o e)))
          · rw [decide_eq_false hc] at q ⊢
            exact iteF (q H3 s3)
        · have e2 : decide ((12 : Int) < ((z.length : Nat) : Int)) = true := decide_eq_true (by rw [e0]; omega)
          rw [e2]
          rw [decide_eq_false h12, Bool.false_and] at q
          exact iteT (q H (fun _ _ e => e))
end
end K01
set_option Elab.async false
set_option linter.all false
set_option maxRecDepth 100000
set_option maxHeartbeats 2000000
namespace K01
open PySem L2 PySem.Spec PyProof.Rows

/-! ### texts of real signs -/
abbrev okC (c : Nat) : Prop := c < 0x110000
theorem strOk_iff {z : Str} : PyData.strOk z = true ↔ ∀ c ∈ z.cps.toList, okC c := by
  unfold PyData.strOk
  rw [Array.all_eq_true']
  constructor
  · intro h c hc
    exact of_decide_eq_true (h c (Array.mem_toList_iff.mp hc))
  · intro h c hc
    exact decide_eq_true (h c (Array.mem_toList_iff.mpr hc))
theorem strOk_app {a b : Str} (ha : PyData.strOk a = true) (hb : PyData.strOk b = true) : PyData.strOk (a ++ b) = true := by
  rw [strOk_iff] at *
  intro c hc
  rw [PySem.Str.cps_append, Array.toList_append, List.mem_append] at hc
  rcases hc with h | h
  · exact ha c h
  · exact hb c h
/-- a text of at most m signs, real ones -/
def Pc (m : Nat) (z : Str) : Prop := z.cps.size ≤ m ∧ PyData.strOk z = true
theorem Pc.app {m n : Nat} {a b : Str} (ha : Pc m a) (hb : Pc n b) : Pc (m + n) (a ++ b) := by
  refine ⟨?_, strOk_app ha.2 hb.2⟩
  have h1 := ha.1
  have h2 := hb.1
  rw [PySem.Str.cps_append, Array.size_append]
  omega
theorem Pc.mono {m n : Nat} {a : Str} (ha : Pc m a) (h : m ≤ n) : Pc n a := ⟨Nat.le_trans ha.1 h, ha.2⟩
theorem Pc.one {c : Nat} (h : okC c) : Pc 1 ⟨#[c]⟩ := by
  refine ⟨by simp, ?_⟩
  rw [strOk_iff]
  intro d hd
  have e : d = c := by simpa using hd
  rw [e]
  exact h
theorem Pc.sjoin : ∀ (l : List Str), (∀ a ∈ l, Pc 1 a) → Pc l.length (PySem.Str.join (PySem.Str.ofString "") l)
  | [], _ => ⟨Nat.le_refl _, by decide +kernel⟩
  | [x], h => h x (by simp)
  | x :: y :: r, h => by
    have h1 := h x (by simp)
    have h2 := Pc.sjoin (y :: r) fun a ha => h a (List.mem_cons_of_mem _ ha)
    have h0 : Pc 0 (PySem.Str.ofString "") := ⟨by decide +kernel, by decide +kernel⟩
    have h3 := (h1.app h0).app h2
    show Pc (x :: y :: r).length (x ++ PySem.Str.ofString "" ++ PySem.Str.join (PySem.Str.ofString "") (y :: r))
    refine h3.mono ?_
    rw [List.length_cons (a := x)]
    omega
theorem Pc.join (l : List Str) (h : ∀ a ∈ l, Pc 1 a) : Pc l.length (Txt.join (PySem.Str.ofString "") l) := by
  have e : Txt.join (PySem.Str.ofString "") l = PySem.Str.join (PySem.Str.ofString "") l := PySem.StrLaws.glued_eq_join _ l
  rw [e]
  exact Pc.sjoin l h
theorem Pc.int {i : Int} (h : i.natAbs.log2 < 1920) : Pc 3000 (PySem.Str.ofString (toString i)) := by
  refine ⟨Nat.le_trans (PyProof.Rows.int_text_len_1921 h) (by decide), ?_⟩
  rw [strOk_iff]
  intro c hc
  by_cases hl : c < 0x110000
  · exact hl
  · exact absurd hc (PyProof.Rows.int_text_free' c ⟨by omega, by omega⟩ i)

/-! ### what a value holds, apart from the hand at a -/
theorem kept_del {a : Addr} {H H' : Hp} (k : Kept a H H') : Same (L2.del H a) (L2.del H' a) := fun b o e => by
  by_cases h : b = a
  · rw [h, L2.del_same] at e
    cases e
  · rw [L2.del_ne h] at e ⊢
    exact k b o h e
theorem del_sub {a : Addr} {H : Hp} : Same (L2.del H a) H := fun b o e => by
  by_cases h : b = a
  · rw [h, L2.del_same] at e
    cases e
  · rw [L2.del_ne h] at e
    exact e
theorem at_del {a b : Addr} {H : Hp} {o : HO} (h : H b = some o) (n : b ≠ a) : L2.del H a b = some o := by rw [L2.del_ne n]; exact h
/-- an item: flat, or a list of flat ones -/
def Itm (H : Hp) (y : V) : Prop := okV y = true ∨ ∃ p ys, y = .ref p ∧ H p = some (.lst ys) ∧ ys.all okV = true
theorem Itm.same {H H' : Hp} {y : V} (h : Itm H y) (s : Same H H') : Itm H' y := by
  rcases h with h | ⟨p, ys, e, q, r⟩
  · exact .inl h
  · exact .inr ⟨p, ys, e, s _ _ q, r⟩
theorem Itm.typ {H : Hp} {y : V} (h : Itm H y) : ∃ u, Typ H y u := by
  rcases h with h | ⟨p, ys, rfl, q, r⟩
  · cases y with
    | non => exact ⟨_, .non⟩
    | bl b => exact ⟨_, .bl b⟩
    | int i => exact ⟨_, .int i⟩
    | str z => exact ⟨_, .str z⟩
    | _ => exact absurd h Bool.false_ne_true
  · exact ⟨_, .lst q⟩
structure Vl (H : Hp) (x : V) (t : String) (xs : List V) : Prop where
  ty : Typ H x t
  its : Its1 H x t xs
  itm : ∀ y ∈ xs, Itm H y
  few : xs.length ≤ 1000
  fine : ∀ z, x = .str z → Fine z
theorem Vl.same {H H' : Hp} {x : V} {t : String} {xs : List V} (h : Vl H x t xs) (s : Same H H') : Vl H' x t xs := ⟨h.ty.same s, h.its.same s, fun y hy => (h.itm y hy).same s, h.few, h.fine⟩
theorem Vl.all {H : Hp} {x : V} {t : String} {xs : List V} (h : Vl H x t xs) : AllTyp H xs := fun y hy => (h.itm y hy).typ
theorem Vl.flat {H : Hp} {x : V} (h : okV x = true) (hz : ∀ z, x = .str z → Fine z) : ∃ t, Vl H x t [] := by
  cases x with
  | non => exact ⟨_, .non, .none rfl, (fun _ h => nomatch h), Nat.zero_le _, hz⟩
  | bl b => exact ⟨_, .bl b, .none rfl, (fun _ h => nomatch h), Nat.zero_le _, hz⟩
  | int i => exact ⟨_, .int i, .none rfl, (fun _ h => nomatch h), Nat.zero_le _, hz⟩
  | str z => exact ⟨_, .str z, .none rfl, (fun _ h => nomatch h), Nat.zero_le _, hz⟩
  | _ => exact absurd h Bool.false_ne_true

/-! ### the promises of what draws -/
def Drew (a c : Addr) (n : Nat) (H H' : Hp) : Prop := HandAt H' a c n ∧ Kept a H H'
def spPick : Sp := fun vs H Q _ => ∃ (a c : Addr) (y : V) (n : Nat), vs = [.ref a, y] ∧ HandAt H a c n ∧ n ≤ 10000 ∧
  ((∃ p xs, y = .ref p ∧ p ≠ a ∧ H p = some (.lst xs) ∧ 0 < xs.length ∧ xs.length ≤ 1000 ∧ ∀ v ∈ xs, ∀ H', Drew a c (n + 1) H H' → Q v H') ∨
   (∃ z : Str, y = .str z ∧ 0 < z.cps.size ∧ z.cps.size ≤ 1000 ∧ ∀ d ∈ z.cps.toList, ∀ H', Drew a c (n + 1) H H' → Q (.str ⟨#[d]⟩) H'))
def spInteger : Sp := fun vs H Q _ => ∃ (a c : Addr) (n : Nat), vs = [.ref a] ∧ HandAt H a c n ∧ n ≤ 9000 ∧ ∀ (i : Int) H', i.natAbs < 2 ^ 200 → Drew a c (n + 3) H H' → Q (.int i) H'
def spText : Sp := fun vs H Q _ => ∃ (a c : Addr) (n : Nat), vs = [.ref a] ∧ HandAt H a c n ∧ n ≤ 9000 ∧ ∀ (z : Str) H', Pc 100 z → Drew a c (n + 20) H H' → Q (.str z) H'
def spValue : Sp := fun vs H Q _ => ∃ (a c : Addr) (n : Nat), vs = [.ref a] ∧ HandAt H a c n ∧ n ≤ 8000 ∧ ∀ (x : V) (t : String) (xs : List V) H', Vl (L2.del H' a) x t xs → Drew a c (n + 30) H H' → Q x H'
def spSame : Sp := fun vs H Q _ => ∃ (a b : Bool), vs = [.bl a, .bl b] ∧ Q (.bl (a == b)) H
structure TxE (mg : Str → Option Value) : Prop where
  range : mg "range" = none
  len : mg "len" = none
  str : mg "str" = none
  isin : mg "isinstance" = none
  bool : mg "bool" = none
theorem HandAt.mono {H : Hp} {a c : Addr} {m n : Nat} (h : HandAt H a c m) (l : m ≤ n) : HandAt H a c n := by
  obtain ⟨ns, i, r, h1, h2, h3, h4, h5, h6, h7⟩ := h
  exact ⟨ns, i, r, h1, h2, h3, h4, h5, by omega, h7⟩
theorem HandAt.off {H : Hp} {a c p : Addr} {n : Nat} {o : HO} (h : HandAt H a c n) (h1 : p ≠ a) (h2 : p ≠ c) : HandAt (L2.upd H p o) a c n := by
  obtain ⟨ns, i, r, h3, h4, h5⟩ := h
  exact ⟨ns, i, r, by rw [upd_ne h1.symm]; exact h3, by rw [upd_ne h2.symm]; exact h4, h5⟩
theorem HandAt.ne {H : Hp} {a c p : Addr} {n : Nat} (h : HandAt H a c n) (hp : H p = none) : p ≠ a := by
  obtain ⟨ns, i, r, h1, _⟩ := h
  exact (ne_of_none h1 hp).symm
theorem HandAt.neC {H : Hp} {a c p : Addr} {n : Nat} (h : HandAt H a c n) (hp : H p = none) : p ≠ c := by
  obtain ⟨ns, i, r, h1, h2, _⟩ := h
  exact (ne_of_none h2 hp).symm
theorem HandAt.new {H : Hp} {a c p : Addr} {n : Nat} {o : HO} (h : HandAt H a c n) (hp : H p = none) : HandAt (L2.upd H p o) a c n := h.off (h.ne hp) (h.neC hp)
theorem Drew.refl {a c : Addr} {n : Nat} {H : Hp} (h : HandAt H a c n) : Drew a c n H H := ⟨h, Kept.refl⟩
theorem Drew.trans {a c : Addr} {m n : Nat} {H H1 H2 : Hp} (h1 : Drew a c m H H1) (h2 : Drew a c n H1 H2) : Drew a c n H H2 := ⟨h2.1, h1.2.trans h2.2⟩
theorem Drew.new {a c p : Addr} {n : Nat} {H H1 : Hp} {o : HO} (h : Drew a c n H H1) (hp : H1 p = none) : Drew a c n H (L2.upd H1 p o) := ⟨h.1.new hp, h.2.new hp⟩
theorem Drew.mono {a c : Addr} {m n : Nat} {H H1 : Hp} (h : Drew a c m H H1) (l : m ≤ n) : Drew a c n H H1 := ⟨h.1.mono l, h.2⟩
/-- an object that was not there at first may change -/
theorem Drew.put {a c p : Addr} {n : Nat} {H H1 : Hp} {o : HO} (h : Drew a c n H H1) (h0 : H p = none) (h1 : p ≠ a) (h2 : p ≠ c) : Drew a c n H (L2.upd H1 p o) :=
  ⟨h.1.off h1 h2, fun b u nb e => by rw [upd_ne (ne_of_none e h0)]; exact h.2 b u nb e⟩
theorem Drew.back {a c p : Addr} {n : Nat} {H H1 : Hp} (h : Drew a c n H H1) (hp : H1 p = none) : H p = none := by
  cases e : H p with
  | none => rfl
  | some o =>
    have q := h.2 p o (h.1.ne hp) e
    rw [hp] at q
    cases q
theorem HandAt.same {H H' : Hp} {a c : Addr} {n : Nat} (h : HandAt H a c n) (s : Same H H') : HandAt H' a c n := by
  obtain ⟨ns, i, r, h1, h2, h3⟩ := h
  exact ⟨ns, i, r, s _ _ h1, s _ _ h2, h3⟩
theorem Drew.same {a c : Addr} {n : Nat} {H H1 H2 : Hp} (h : Drew a c n H H1) (s : Same H1 H2) : Drew a c n H H2 := ⟨h.1.same s, fun b o nb e => s b o (h.2 b o nb e)⟩
theorem Vl.at {a c : Addr} {n : Nat} {H H' : Hp} {x : V} {t : String} {xs : List V} (h : Vl (L2.del H a) x t xs) (d : Drew a c n H H') : Vl H' x t xs := (h.same (kept_del d.2)).same del_sub
theorem same_new {H : Hp} {p : Addr} {o : HO} (hp : H p = none) : Same H (L2.upd H p o) := fun b u e => by rw [upd_ne (ne_of_none e hp)]; exact e

section
variable {P : Program} {w : World} {K : PySem.W.Frag} {mg : Str → Option Value} {base : Heap}
theorem scSame : FnScope ["_law_answer", "_law_due"] ["_law_answer", "_law_due"] (defScope sSame) := ⟨rfl, rfl, rfl, by decide +kernel, rfl, by decide +kernel, by decide +kernel⟩
theorem ok_same {f : Addr} {fd : FuncData} (F : Fun K "_law_same" "_law_same" sSame f fd) (T : TxE mg) : FnOk P w K mg base CX0 1 f fd ["_law_answer", "_law_due"] spSame := by
  refine F.ok scSame (fun vs H Q E h => ?_) (fun cdv A outer s H vs Q E hr h => ?_)
  · obtain ⟨x, t, rfl, _⟩ := h
    rfl
  · obtain ⟨x, y, rfl, k⟩ := h
    refine ⟨_, pss_one (ps_ret (pe_and (pe_callB call_isi (by rfl) T.isin (by decide +kernel) (pa_cons (pv 0) (pa_cons (pe_bltn (v := .ty "bool") (by rfl) T.bool (by decide +kernel) rfl) pa_nil))) (pe_one (pe_cmpR op_eq (pv 0) (pv 1) (nomark _))))), ?_⟩
    refine ⟨_, rfl, .bl x, _, _, _, _, rfl, .ty _, (Typ.bl (H := H) x).ty, (Typ.bl (H := H) x).kBool, _, rfl, iteT ?_⟩
    refine ⟨_, rfl, _, rfl, rfl, ?_⟩
    have e : decide (V.bl x = V.bl y) = (x == y) := dec_bl
    show Q (.bl (decide (V.bl x = V.bl y))) H
    rw [e]
    exact k
theorem scPick : FnScope ["_law_hand_here", "_law_some"] ["_law_hand_here", "_law_some"] (defScope sPick) := ⟨rfl, rfl, rfl, by decide +kernel, rfl, by decide +kernel, by decide +kernel⟩
theorem ok_pick {f : Addr} {fd : FuncData} (F : Fun K "_law_pick" "_law_pick" sPick f fd) (GT : Cal P w K mg base "_law_take" 1 ["_law_hand_here", "_law_many"] spTake) (T : TxE mg) : FnOk P w K mg base CX0 2 f fd ["_law_hand_here", "_law_some"] spPick := by
  refine F.ok scPick (fun vs H Q E h => ?_) (fun cdv A outer s H vs Q E hr h => ?_)
  · obtain ⟨a, c, y, n, rfl, _⟩ := h
    rfl
  · obtain ⟨a, c, y, n, rfl, hH, hn, h⟩ := h
    rcases h with ⟨p, xs, rfl, hpa, hp, h0, h1, k⟩ | ⟨z, rfl, h0, h1, k⟩
    · refine ⟨_, pss_one (ps_ret (pe_ix ix_list (pv 1) (pe_cal GT hr (by decide) (by rfl) (pa_cons (pv 0) (pa_cons (pe_callB call_len_seq (by rfl) T.len PySem.boot_len (pa_cons (pv 1) pa_nil)) pa_nil))) (fun _ _ => rfl))), ?_⟩
      refine ⟨_, rfl, _, rfl, _, rfl, p, _, rfl, .inl (SqL.of hp), a, c, _, n, rfl, hH, hn, by omega, ?_, ?_⟩
      · have : (((xs.length : Nat) : Int)).natAbs ≤ 1000 := by omega
        exact Nat.lt_of_le_of_lt this (by decide)
      · intro H' q q0 q1 hH' hK
        obtain ⟨j, rfl⟩ : ∃ j : Nat, q = (j : Int) := ⟨q.toNat, by omega⟩
        have hj : j < xs.length := by omega
        refine ⟨p, xs, _, xs[j], rfl, rfl, SqL.of (hK _ _ hpa hp), atI_nat (List.getElem?_eq_getElem hj), ?_⟩
        exact k _ (List.getElem_mem hj) H' ⟨hH', hK⟩
    · have hzl : z.length = z.cps.size := rfl
      refine ⟨_, pss_one (ps_ret (pe_ix ix_str (pv 1) (pe_cal GT hr (by decide) (by rfl) (pa_cons (pv 0) (pa_cons (pe_callB call_len_str (by rfl) T.len PySem.boot_len (pa_cons (pv 1) pa_nil)) pa_nil))) (fun _ _ => rfl))), ?_⟩
      refine ⟨_, rfl, _, rfl, _, rfl, z, rfl, Evl.sz_of (by omega), a, c, _, n, rfl, hH, hn, by omega, ?_, ?_⟩
      · have : (((z.length : Nat) : Int)).natAbs ≤ 1000 := by omega
        exact Nat.lt_of_le_of_lt this (by decide)
      · intro H' q q0 q1 hH' hK
        obtain ⟨j, rfl⟩ : ∃ j : Nat, q = (j : Int) := ⟨q.toNat, by omega⟩
        have hj : j < z.cps.toList.length := by rw [Array.length_toList]; omega
        refine ⟨z, _, z.cps.toList[j], rfl, rfl, Evl.sz_of (by omega), atI_nat (List.getElem?_eq_getElem hj), ?_⟩
        exact k _ (List.getElem_mem hj) H' ⟨hH', hK⟩
theorem scInteger : FnScope ["_law_hand_here", "_law_small", "_law_great"] ["_law_hand_here"] (defScope sInteger) := ⟨rfl, rfl, rfl, by decide +kernel, rfl, by decide +kernel, by decide +kernel⟩
theorem ok_integer {f : Addr} {fd : FuncData} (F : Fun K "_law_integer" "_law_integer" sInteger f fd) (GT : Cal P w K mg base "_law_take" 1 ["_law_hand_here", "_law_many"] spTake) (GP : Cal P w K mg base "_law_pick" 2 ["_law_hand_here", "_law_some"] spPick) :
    FnOk P w K mg base CX0 3 f fd ["_law_hand_here"] spInteger := by
  refine F.ok scInteger (fun vs H Q E h => ?_) (fun cdv A outer s H vs Q E hr h => ?_)
  · obtain ⟨a, c, n, rfl, _⟩ := h
    rfl
  · obtain ⟨a, c, n, rfl, hH, hn, k⟩ := h
    refine ⟨_, pss_cons (ps_par (i := 1) (j := 2) (by rfl) scInteger.nd rfl rfl (by decide) rfl rfl
        (pa_cons (pe_op op_sub (pe_cal GT hr (by decide) (by rfl) (pa_cons (pv 0) (pa_cons pe_int pa_nil))) pe_int)
        (pa_cons (pe_op op_sub (pe_cal GT hr (by decide) (by rfl) (pa_cons (pv 0) (pa_cons (pe_op op_pow pe_int pe_int) pa_nil))) (pe_op op_mul pe_int (pe_op op_pow pe_int pe_int))) pa_nil)) (by rfl))
      (pss_one (ps_ret (pe_cal GP hr (by decide) (by rfl) (pa_cons (pv 0) (pa_cons (pe_lst (pa_cons (pv 1) (pa_cons (pv 1) (pa_cons (pv 2) (pa_cons pe_int (pa_cons pe_int (pa_cons (pe_un un_neg pe_int) (pa_cons pe_int (pa_cons (pe_un un_neg pe_int) (pa_cons pe_int (pa_cons (pe_un un_neg pe_int) pa_nil))))))))))) pa_nil))))), ?_⟩
    refine ⟨_, rfl, a, c, 60, n, rfl, hH, by omega, by decide, by decide, fun H1 q1 a1 b1 hH1 hK1 => ?_⟩
    refine ⟨_, _, rfl, rfl, _, rfl, _, _, rfl, rfl, ⟨by decide, by decide, by decide⟩, a, c, _, n + 1, rfl, hH1, by omega, by decide, by decide, fun H2 q2 a2 b2 hH2 hK2 => ?_⟩
    refine ⟨_, _, rfl, rfl, ⟨by decide, by decide, by decide⟩, _, _, rfl, rfl, .inl ⟨by decide, by decide⟩, _, _, rfl, rfl, _, _, rfl, ?_⟩
    refine ⟨_, rfl, _, rfl, _, rfl, _, rfl, _, rfl, _, rfl, _, rfl, by show 10 ≤ sizeLine; decide, fun p hp => ?_⟩
    have hpa := hH2.ne hp
    refine ⟨a, c, _, n + 2, rfl, hH2.new hp, by omega, .inl ⟨p, _, rfl, hpa, upd_same, (by show 0 < 10; decide), (by show 10 ≤ 1000; decide), ?_⟩⟩
    intro v hv H3 hD
    have hD2 : Drew a c (n + 3) H H3 := ⟨hD.1, (hK1.trans hK2).trans ((Kept.refl.new hp).trans hD.2)⟩
    have e30 : (10 : Int) ^ Int.toNat 30 = 1000000000000000000000000000000 := by decide
    have e29 : (10 : Int) ^ Int.toNat 29 = 100000000000000000000000000000 := by decide
    have e200 : (2 : Nat) ^ 200 = 1606938044258990275541962092341162602522202993782792835301376 := by decide
    have go : ∀ i : Int, i.natAbs < 2 ^ 200 → v = .int i → Q v H3 := fun i hi e => by rw [e]; exact k i H3 hi hD2
    rw [e200] at go
    simp only [List.mem_cons, List.mem_nil_iff, or_false] at hv
    rw [e30] at b2
    rw [e29] at hv
    rcases hv with rfl | rfl | rfl | rfl | rfl | rfl | rfl | rfl | rfl | rfl
    · exact go _ (by omega) rfl
    · exact go _ (by omega) rfl
    · exact go _ (by omega) rfl
    · exact go _ (by decide) rfl
    · exact go _ (by decide) rfl
    · exact go _ (by decide) rfl
    · exact go _ (by decide) rfl
    · exact go _ (by decide) rfl
    · exact go _ (by decide) rfl
    · exact go _ (by decide) rfl
end
end K01
set_option Elab.async false
set_option linter.all false
set_option maxRecDepth 100000
set_option maxHeartbeats 2000000
namespace K01
open PySem L2 PySem.Spec PyProof.Rows
/-- a comprehension, its walked thing first -/
theorem lc_in {wi : TI} {g : TG} {tt : TT} {te : TE} {vs : List Nat} {σ : L2.St} {H : Hp} {Q : VK} (h : wi σ H fun J H1 => tLc (fun _ H R => R J H) g tt te vs σ H1 Q) : tLc wi g tt te vs σ H Q := h
/-- [a draw for k in range(m)] -/
theorem lcd {a c : Addr} {n m : Nat} {g : TG} {te : TE} {vs : List Nat} {σ : L2.St} {H1 : Hp} {Q : VK} (good : V → Prop) (hm : m ≤ 1000) (hH : HandAt H1 a c n)
    (hs : ∀ i x H', i < m → Drew a c (n + i) H1 H' → ∀ Qy : VK, (∀ v H2, good v → Drew a c (n + i + 1) H' H2 → Qy v H2) → ∀ Qn : Hp → Prop, g x (wipe σ vs) H' fun σ2 H2 => wipe σ2 vs = wipe σ vs ∧ tYes σ2 H2 fun b H3 => if b = true then te σ2 H3 Qy else Qn H3)
    (hd : ∀ D xs H', H1 D = none → xs.length = m → (∀ v ∈ xs, good v) → H' D = some (.lst xs) → Drew a c (n + m) H1 H' → Q (.ref D) H') : tLc (fun _ H R => R (Itr 0 m) H) g tYes te vs σ H1 Q := by
  intro D hD
  have hDa := hH.ne hD
  have hDc := hH.neC hD
  refine lc_range (lo := 0) (n := m) (fun i H => ∃ xs, xs.length = i ∧ (∀ v ∈ xs, good v) ∧ H D = some (.lst xs) ∧ Drew a c (n + i) H1 H) ⟨[], rfl, (fun _ h => nomatch h), upd_same, (Drew.refl hH).new hD⟩ ?_ ?_
  · rintro i H hi ⟨xs, hl, hg, hx, hw⟩
    refine hs i _ H hi hw _ (fun v H2 gv d2 => ?_) _
    have hx2 := d2.2 _ _ hDa hx
    refine ⟨xs, hx2, Evl.sz_lt (by omega), xs ++ [v], by rw [List.length_append, hl]; rfl, ?_, upd_same, ?_⟩
    · intro u hu
      rcases List.mem_append.mp hu with h | h
      · exact hg u h
      · rw [List.mem_singleton.mp h]; exact gv
    · exact (hw.trans d2).put hD hDa hDc
  · rintro H ⟨xs, hl, hg, hx, hw⟩
    exact hd D xs H hD hl hg hx hw
theorem strs_of {l : List V} {p : Str → Prop} : (∀ v ∈ l, ∃ z, v = .str z ∧ p z) → ∃ ys : List Str, l = ys.map V.str ∧ ∀ z ∈ ys, p z := by
  induction l with
  | nil => exact fun _ => ⟨[], rfl, fun _ h => nomatch h⟩
  | cons v r ih =>
    intro h
    obtain ⟨z, rfl, hz⟩ := h v (List.mem_cons_self)
    obtain ⟨ys, rfl, hy⟩ := ih fun u hu => h u (List.mem_cons_of_mem _ hu)
    exact ⟨z :: ys, rfl, fun u hu => by rcases List.mem_cons.mp hu with rfl | e; exact hz; exact hy u e⟩
theorem sum_ones {ys : List Str} (h : ∀ z ∈ ys, Pc 1 z) : (ys.map (·.length)).sum ≤ ys.length := by
  induction ys with
  | nil => exact Nat.le_refl _
  | cons z r ih =>
    have h1 : z.length ≤ 1 := (h z List.mem_cons_self).1
    have h2 := ih fun u hu => h u (List.mem_cons_of_mem _ hu)
    rw [List.map_cons, List.sum_cons, List.length_cons]
    omega
abbrev nText : List Str := ["_law_hand_here", "_law_first", "_law_signs", "_law_body", "_law_odd", "_law_way", "_law_turn"]
abbrev z1 : Str := "abcxyz"
abbrev z2 : Str := "abcdefghijklmnopqrstuvwxyz0123456789"
section
variable {P : Program} {w : World} {K : PySem.W.Frag} {mg : Str → Option Value} {base : Heap}
theorem scText : FnScope nText ["_law_hand_here"] (defScope sText) := ⟨rfl, rfl, rfl, by decide +kernel, rfl, by decide +kernel, by decide +kernel⟩
theorem pc_of (m : Nat) (z : Str) (h : decide (z.cps.size ≤ m) = true) (h2 : PyData.strOk z = true) : Pc m z := ⟨of_decide_eq_true h, h2⟩
theorem okc_of {z : Str} (h : PyData.strOk z = true) {d : Nat} (hd : d ∈ z.cps.toList) : Pc 1 ⟨#[d]⟩ := Pc.one (strOk_iff.mp h d hd)
theorem ok_text {f : Addr} {fd : FuncData} (F : Fun K "_law_text" "_law_text" sText f fd) (GT : Cal P w K mg base "_law_take" 1 ["_law_hand_here", "_law_many"] spTake) (GP : Cal P w K mg base "_law_pick" 2 ["_law_hand_here", "_law_some"] spPick) (T : TxE mg) :
    FnOk P w K mg base CX0 3 f fd ["_law_hand_here"] spText := by
  refine F.ok scText (fun vs H Q E h => ?_) (fun cdv A outer s H vs Q E hr h => ?_)
  · obtain ⟨a, c, n, rfl, _⟩ := h
    rfl
  · obtain ⟨a, c, n, rfl, hH, hn, k⟩ := h
    refine ⟨_, pss_cons (ps_asg (pe_tup (pa_cons (pe_cal GP hr (by decide) (by rfl) (pa_cons (pv 0) (pa_cons pe_str pa_nil))) (pa_cons pe_str pa_nil)))
        (pg_tup (n := 2) rfl (pgs_cons (pg_name (i := 1) scText.nd rfl (Or.inl rfl)) (pgs_cons (pg_name (i := 2) scText.nd rfl (Or.inr rfl)) pgs_nil))))
      (pss_cons (ps_set (i := 3) scText.nd rfl (Or.inl rfl) (pe_join pe_str (pe_lc (own := [("_law_turn", 6)]) (g := gName 6) (tt := tYes) rfl scText.nd (pi_range1 (by rfl) T.range (pa_cons (pe_cal GP hr (by decide) (by rfl) (pa_cons (pv 0) (pa_cons (pe_lst (pa_cons pe_int (pa_cons pe_int (pa_cons pe_int (pa_cons pe_int (pa_cons pe_int (pa_cons pe_int (pa_cons pe_int pa_nil)))))))) pa_nil))) pa_nil))
          (blkOk_by (N := nText) (sc := defScope sText) (by decide +kernel)) (fun _ _ _ _ _ => pg_name (i := 6) scText.nd rfl (Or.inl rfl)) (fun _ _ _ _ _ => pts_nil)
          (fun _ _ _ _ _ => pe_cal GP hr (by decide) (by rfl) (pa_cons (pv 0) (pa_cons (pv 2) pa_nil))))))
      (pss_cons (ps_set (i := 4) scText.nd rfl (Or.inl rfl) (pe_cal GP hr (by decide) (by rfl) (pa_cons (pv 0) (pa_cons (pe_lst (pa_cons pe_str (pa_cons pe_str (pa_cons pe_str (pa_cons pe_str (pa_cons pe_str (pa_cons pe_str (pa_cons pe_str (pa_cons pe_str (pa_cons pe_str pa_nil)))))))))) pa_nil))))
      (pss_cons (ps_set (i := 5) scText.nd rfl (Or.inl rfl) (pe_cal GT hr (by decide) (by rfl) (pa_cons (pv 0) (pa_cons pe_int pa_nil))))
      (pss_one (ps_ret (pe_ix ix_list (pe_lst (pa_cons (pe_op op_add_str (pv 1) (pv 3)) (pa_cons (pe_op op_add_str (pe_op op_add_str (pv 1) (pv 3)) (pv 4)) (pa_cons (pe_op op_add_str (pe_op op_add_str (pv 4) (pv 1)) (pv 3))
        (pa_cons (pe_op op_add_str (pe_cal GP hr (by decide) (by rfl) (pa_cons (pv 0) (pa_cons pe_str pa_nil))) (pv 3)) (pa_cons pe_str pa_nil)))))) (pv 5) (fun _ _ => rfl))))))), ?_⟩
    -- first, signs
    refine ⟨_, rfl, a, c, _, n, rfl, hH, by omega, .inr ⟨_, rfl, by decide +kernel, by decide +kernel, fun d1 hd1 H1 D1 => ?_⟩⟩
    have p1 : Pc 1 ⟨#[d1]⟩ := okc_of (z := z1) (by decide +kernel) hd1
    refine ⟨by show 2 ≤ sizeLine; decide, fun tp htp => ?_⟩
    refine ⟨tp, _, rfl, SqT.of upd_same, rfl, _, _, rfl, _, _, rfl, rfl, ?_⟩
    have D2 := D1.new (o := .tup [.str ⟨#[d1]⟩, .str z2]) htp
    refine gen_heap fun H2 e2 => ?_
    rw [← e2] at D2
    -- body
    refine ⟨⟨_, rfl⟩, ?_⟩
    have hH2 := D2.1
    refine lc_in ?_
    refine ⟨_, rfl, by show 7 ≤ sizeLine; decide, fun lp hlp => ?_⟩
    refine ⟨a, c, _, n + 1, rfl, hH2.new hlp, by omega, .inl ⟨lp, _, rfl, hH2.ne hlp, upd_same, (by show 0 < 7; decide), (by show 7 ≤ 1000; decide), ?_⟩⟩
    intro v hv H3 D3
    obtain ⟨m, rfl, hm⟩ : ∃ m : Nat, v = .int (m : Int) ∧ m ≤ 12 := by
      simp only [List.mem_cons, List.mem_nil_iff, or_false] at hv
      rcases hv with rfl | rfl | rfl | rfl | rfl | rfl | rfl
      · exact ⟨0, rfl, by decide⟩
      · exact ⟨1, rfl, by decide⟩
      · exact ⟨2, rfl, by decide⟩
      · exact ⟨10, rfl, by decide⟩
      · exact ⟨11, rfl, by decide⟩
      · exact ⟨11, rfl, by decide⟩
      · exact ⟨12, rfl, by decide⟩
    have D30 : Drew a c (n + 1 + 1) H H3 := ⟨D3.1, D2.2.trans ((Kept.refl.new hlp).trans D3.2)⟩
    refine ⟨_, rfl, by omega, by omega, ?_⟩
    have em : (((m : Nat) : Int)).toNat = m := Int.toNat_natCast m
    rw [em]
    refine lcd (a := a) (c := c) (n := n + 1 + 1) (m := m) (fun v => ∃ z, v = .str z ∧ Pc 1 z) (by omega) D3.1 ?_ ?_
    · intro i x H' hi D' Qy ky Qn
      refine ⟨rfl, yes_te ?_⟩
      refine ⟨_, rfl, _, rfl, a, c, _, n + 1 + 1 + i, rfl, D'.1, by omega, .inr ⟨_, rfl, by decide +kernel, by decide +kernel, fun d hd H5 D5 => ?_⟩⟩
      exact ky _ H5 ⟨_, rfl, okc_of (z := z2) (by decide +kernel) hd⟩ D5
    · intro D xs H4 hD hl hg hx D4
      obtain ⟨ys, rfl, hy⟩ := strs_of hg
      have hl2 : ys.length = m := by rw [List.length_map] at hl; exact hl
      have hsum := sum_ones hy
      have z0 : (Str.ofString "").length = 0 := by decide +kernel
      refine ⟨_, D, ys, rfl, rfl, .inl (SqL.of hx), by rw [z0]; omega, ?_⟩
      have pb : Pc 12 (Txt.join (Str.ofString "") ys) := (Pc.join ys hy).mono (by omega)
      obtain ⟨b, eb⟩ : ∃ b, b = Txt.join (Str.ofString "") ys := ⟨_, rfl⟩
      rw [← eb] at pb
      have D40 := D30.trans D4
      have hH4 := D40.1
      -- odd
      refine ⟨_, rfl, by show 9 ≤ sizeLine; decide, fun lp2 hlp2 => ?_⟩
      refine ⟨a, c, _, n + 1 + 1 + m, rfl, hH4.new hlp2, by omega, .inl ⟨lp2, _, rfl, hH4.ne hlp2, upd_same, (by show 0 < 9; decide), (by show 9 ≤ 1000; decide), ?_⟩⟩
      intro v hv H5 D5
      obtain ⟨o, rfl, po⟩ : ∃ o : Str, v = .str o ∧ Pc 1 o := by
        simp only [List.mem_cons, List.mem_nil_iff, or_false] at hv
        rcases hv with rfl | rfl | rfl | rfl | rfl | rfl | rfl | rfl | rfl <;> exact ⟨_, rfl, pc_of _ _ (by decide +kernel) (by decide +kernel)⟩
      have D50 : Drew a c (n + 1 + 1 + m + 1) H H5 := ⟨D5.1, D40.2.trans ((Kept.refl.new hlp2).trans D5.2)⟩
      -- way
      refine ⟨_, rfl, a, c, 5, n + 1 + 1 + m + 1, rfl, D50.1, by omega, by decide, by decide, fun H6 q q0 q1 hH6 hK6 => ?_⟩
      have D60 : Drew a c (n + 1 + 1 + m + 1 + 1) H H6 := ⟨hH6, D50.2.trans hK6⟩
      -- the five texts
      have sb : b.length ≤ 12 := pb.1
      have so : o.length ≤ 1 := po.1
      have s1 : (⟨#[d1]⟩ : Str).length ≤ 1 := p1.1
      have L13 : ∀ {x y : Str} {i j : Nat}, Pc i x → Pc j y → i + j ≤ 1000 → x.length + y.length ≤ sizeLine := fun {x y i j} hx hy hij => by
        have h1 : x.length ≤ i := hx.1
        have h2 : y.length ≤ j := hy.1
        exact Evl.sz_of (by omega)
      have pb' : Pc 12 (Txt.join (Str.ofString "") ys) := by rw [← eb]; exact pb
      refine ⟨_, rfl, _, rfl, _, _, rfl, rfl, L13 p1 pb' (by decide), ?_⟩
      refine ⟨_, rfl, _, rfl, _, _, rfl, rfl, L13 p1 pb' (by decide), _, rfl, _, _, rfl, rfl, L13 (p1.app pb') po (by decide), ?_⟩
      refine ⟨_, rfl, _, rfl, _, _, rfl, rfl, L13 po p1 (by decide), _, rfl, _, _, rfl, rfl, L13 (po.app p1) pb' (by decide), ?_⟩
      refine ⟨_, rfl, a, c, _, n + 1 + 1 + m + 1 + 1, rfl, hH6, by omega, .inr ⟨_, rfl, by decide +kernel, by decide +kernel, fun d7 hd7 H7 D7 => ?_⟩⟩
      have p7 : Pc 1 ⟨#[d7]⟩ := okc_of (z := digS) (by decide +kernel) hd7
      refine ⟨_, rfl, _, _, rfl, rfl, L13 p7 pb' (by decide), by show 5 ≤ sizeLine; decide, fun lp3 hlp3 => ?_⟩
      have D70 := D60.trans D7
      have D80 := (D70.new (o := .lst [.str (⟨#[d1]⟩ ++ Txt.join (Str.ofString "") ys), .str (⟨#[d1]⟩ ++ Txt.join (Str.ofString "") ys ++ o), .str (o ++ ⟨#[d1]⟩ ++ Txt.join (Str.ofString "") ys), .str (⟨#[d7]⟩ ++ Txt.join (Str.ofString "") ys), .str (Str.ofString "")]) hlp3).mono (show n + 1 + 1 + m + 1 + 1 + 1 ≤ n + 20 by omega)
      obtain ⟨j, rfl⟩ : ∃ j : Nat, q = (j : Int) := ⟨q.toNat, by omega⟩
      refine ⟨_, rfl, lp3, _, _, _, rfl, rfl, SqL.of upd_same, atI_nat (List.getElem?_eq_getElem (by show j < 5; omega)), ?_⟩
      match j, q1 with
      | 0, _ => exact k _ _ ((p1.app pb').mono (by decide)) D80
      | 1, _ => exact k _ _ (((p1.app pb').app po).mono (by decide)) D80
      | 2, _ => exact k _ _ (((po.app p1).app pb').mono (by decide)) D80
      | 3, _ => exact k _ _ ((p7.app pb').mono (by decide)) D80
      | 4, _ => exact k _ _ (pc_of _ _ (by decide +kernel) (by decide +kernel)) D80
      | j + 5, h => exact absurd h (by omega)
end
end K01
set_option Elab.async false
set_option linter.all false
set_option maxRecDepth 100000
set_option maxHeartbeats 2000000
namespace K01
open PySem L2 PySem.Spec PyProof.Rows
theorem vl_flat {H : Hp} {x : V} (h : okV x = true) (hz : ∀ z, x = .str z → Fine z) : ∃ (t : String) (xs : List V), Vl H x t xs := by
  obtain ⟨t, q⟩ := Vl.flat (H := H) h hz
  exact ⟨t, [], q⟩
theorem log_of {i : Int} (h : i.natAbs < 2 ^ 200) : i.natAbs.log2 < 1920 := Nat.lt_of_lt_of_le (PySem.Flt.log2_lt_of (by decide) h) (by decide)
section
variable {P : Program} {w : World} {K : PySem.W.Frag} {mg : Str → Option Value} {base : Heap}
theorem scValue : FnScope ["_law_hand_here", "_law_number", "_law_way"] ["_law_hand_here"] (defScope sValue) := ⟨rfl, rfl, rfl, by decide +kernel, rfl, by decide +kernel, by decide +kernel⟩
theorem ok_value {f : Addr} {fd : FuncData} (F : Fun K "_law_value" "_law_value" sValue f fd) (GT : Cal P w K mg base "_law_take" 1 ["_law_hand_here", "_law_many"] spTake) (GP : Cal P w K mg base "_law_pick" 2 ["_law_hand_here", "_law_some"] spPick)
    (GI : Cal P w K mg base "_law_integer" 3 ["_law_hand_here"] spInteger) (GX : Cal P w K mg base "_law_text" 3 ["_law_hand_here"] spText) (T : TxE mg) :
    FnOk P w K mg base CX0 4 f fd ["_law_hand_here"] spValue := by
  refine F.ok scValue (fun vs H Q E h => ?_) (fun cdv A outer s H vs Q E hr h => ?_)
  · obtain ⟨a, c, n, rfl, _⟩ := h
    rfl
  · obtain ⟨a, c, n, rfl, hH, hn, k⟩ := h
    refine ⟨_, pss_cons (ps_par (i := 1) (j := 2) (by rfl) scValue.nd rfl rfl (by decide) rfl rfl
        (pa_cons (pe_cal GI hr (by decide) (by rfl) (pa_cons (pv 0) pa_nil)) (pa_cons (pe_cal GT hr (by decide) (by rfl) (pa_cons (pv 0) (pa_cons pe_int pa_nil))) pa_nil)) (by rfl))
      (pss_cons (ps_if (pt_cmpR op_lt (pv 2) pe_int (nomark _)) (pss_one (ps_ret (pv 1))) pss_nil)
      (pss_cons (ps_if (pt_cmpR op_eq (pv 2) pe_int (nomark _)) (pss_one (ps_ret (pe_cal GX hr (by decide) (by rfl) (pa_cons (pv 0) pa_nil)))) pss_nil)
      (pss_cons (ps_if (pt_cmpR op_lt (pv 2) pe_int (nomark _)) (pss_one (ps_ret (pe_ix ix_list (pe_lst (pa_cons pe_non (pa_cons (pe_cmpR op_gt (pv 1) pe_int (nomark _)) pa_nil))) (pe_op op_sub (pv 2) pe_int) (fun _ _ => rfl)))) pss_nil)
      (pss_cons (ps_if (pt_cmpR op_eq (pv 2) pe_int (nomark _)) (pss_one (ps_ret (pe_lst (pa_cons (pv 1) (pa_cons (pe_cal GI hr (by decide) (by rfl) (pa_cons (pv 0) pa_nil)) pa_nil))))) pss_nil)
      (pss_cons (ps_if (pt_cmpR op_eq (pv 2) pe_int (nomark _)) (pss_one (ps_ret (pe_tup (pa_cons (pv 1) (pa_cons (pe_cal GP hr (by decide) (by rfl) (pa_cons (pv 0) (pa_cons (pe_lst (pa_cons pe_bl (pa_cons pe_non (pa_cons pe_str (pa_cons pe_int (pa_cons (pe_lst (pa_cons pe_int pa_nil)) pa_nil)))))) pa_nil))) pa_nil))))) pss_nil)
      (pss_one (ps_ret (pe_ix ix_list (pe_lst (pa_cons (pe_callTy call_str_int (by rfl) T.str (by decide +kernel) (pa_cons (pv 1) pa_nil)) (pa_cons (pe_disp (pps_cons pe_str (pv 1) pps_nil) (by rfl) (by rfl) (fun z => by cases z) (by decide)) pa_nil))) (pe_op op_sub (pv 2) pe_int) (fun _ _ => rfl)))))))))
      , ?_⟩
    refine ⟨_, rfl, a, c, n, rfl, hH, by omega, fun i H1 hi D1 => ?_⟩
    refine ⟨_, rfl, a, c, 10, n + 3, rfl, D1.1, by omega, by decide, by decide, fun H2 q q0 q1 hH2 hK2 => ?_⟩
    have D2 : Drew a c (n + 3 + 1) H H2 := ⟨hH2, D1.2.trans hK2⟩
    have fin : ∀ (x : V) H', (∃ (t : String) (xs : List V), Vl (L2.del H' a) x t xs) → Drew a c (n + 30) H H' → Q x H' := fun x H' ⟨t, xs, v⟩ d => k x t xs H' v d
    have mo : ∀ {m : Nat} {H'}, m ≤ n + 30 → Drew a c m H H' → Drew a c (n + 30) H H' := fun h d => d.mono h
    have nz : ∀ {x : V}, (∀ z, x ≠ .str z) → ∀ z, x = .str z → Fine z := fun h z e => absurd e (h z)
    refine ⟨_, _, rfl, _, rfl, _, _, rfl, rfl, _, rfl, ?_⟩
    refine ite2 (fun _ => ?_) (fun w1 => ?_)
    · exact ⟨_, rfl, fin _ H2 (vl_flat rfl (nz fun z h => by cases h)) (mo (by omega) D2)⟩
    have w1' : ¬ q < 3 := fun h => w1 (decide_eq_true h)
    refine ⟨_, rfl, rfl, _, rfl, ?_⟩
    refine ite2 (fun _ => ?_) (fun w2 => ?_)
    · refine ⟨_, rfl, a, c, n + 3 + 1, rfl, hH2, by omega, fun z H3 hz D3 => ?_⟩
      exact fin _ H3 (vl_flat hz.2 (fun z2 e => by cases e; exact ⟨Nat.le_trans hz.1 (by decide), hz.2⟩)) (mo (by omega) (D2.trans D3))
    have w2' : q ≠ 3 := fun h => w2 (decide_eq_true (by rw [h]))
    refine ⟨_, rfl, _, _, rfl, rfl, _, rfl, ?_⟩
    refine ite2 (fun w3 => ?_) (fun w3 => ?_)
    · have w3' : q < 6 := of_decide_eq_true w3
      refine ⟨_, rfl, _, _, rfl, rfl, by show 2 ≤ sizeLine; decide, fun p hp => ?_⟩
      obtain ⟨j, hj⟩ : ∃ j : Nat, q - 4 = (j : Int) := ⟨(q - 4).toNat, by omega⟩
      refine ⟨_, rfl, _, _, rfl, rfl, p, _, _, _, rfl, rfl, SqL.of upd_same, (by rw [hj]; exact atI_nat (List.getElem?_eq_getElem (by show j < 2; omega))), ?_⟩
      have D3 := D2.new (o := .lst [.non, .bl (decide (0 < i))]) hp
      match j, hj with
      | 0, _ => exact fin _ _ (vl_flat rfl (nz fun z h => by cases h)) (mo (by omega) D3)
      | 1, _ => exact fin _ _ (vl_flat rfl (nz fun z h => by cases h)) (mo (by omega) D3)
      | j + 2, h => exact absurd h (by omega)
    have w3' : ¬ q < 6 := fun h => w3 (decide_eq_true h)
    refine ⟨_, rfl, rfl, _, rfl, ?_⟩
    refine ite2 (fun _ => ?_) (fun w4 => ?_)
    · refine ⟨_, rfl, _, rfl, a, c, n + 3 + 1, rfl, hH2, by omega, fun i2 H3 hi2 D3 => ?_⟩
      refine ⟨by show 2 ≤ sizeLine; decide, fun p hp => ?_⟩
      have D4 := (D2.trans D3).new (o := .lst [.int i, .int i2]) hp
      have e := at_del (a := a) (upd_same (H := H3) (a := p) (o := .lst [.int i, .int i2])) (D3.1.ne hp)
      refine fin _ _ ⟨_, _, .lst e, .lst e, ?_, by show 2 ≤ 1000; decide, nz fun z h => by cases h⟩ (mo (by omega) D4)
      intro y hy
      simp only [List.mem_cons, List.mem_nil_iff, or_false] at hy
      rcases hy with rfl | rfl <;> exact .inl rfl
    have w4' : q ≠ 6 := fun h => w4 (decide_eq_true (by rw [h]))
    refine ⟨_, rfl, rfl, _, rfl, ?_⟩
    refine ite2 (fun _ => ?_) (fun w5 => ?_)
    · refine ⟨_, rfl, _, rfl, by show 1 ≤ sizeLine; decide, fun l5 hl5 => ⟨by show 5 ≤ sizeLine; decide, fun lp hlp => ?_⟩⟩
      have h5a : l5 ≠ a := hH2.ne hl5
      have n5 : l5 ≠ lp := fun e => by rw [e, upd_same] at hlp; cases hlp
      have h1 := hH2.new (o := .lst [.int 5]) hl5
      refine ⟨a, c, _, n + 3 + 1, rfl, h1.new hlp, by omega, .inl ⟨lp, _, rfl, h1.ne hlp, upd_same, (by show 0 < 5; decide), (by show 5 ≤ 1000; decide), ?_⟩⟩
      intro v hv H3 D3
      have DA := ((Drew.refl hH2).new (o := .lst [.int 5]) hl5).new (o := .lst [.bl true, .non, .str (Str.ofString "1"), .int 5, .ref l5]) hlp
      have D30 : Drew a c (n + 3 + 1 + 1) H H3 := ⟨D3.1, D2.2.trans (DA.2.trans D3.2)⟩
      have h53 : H3 l5 = some (.lst [.int 5]) := D3.2 _ _ h5a (by rw [upd_ne n5, upd_same])
      refine ⟨by show 2 ≤ sizeLine; decide, fun p hp => ?_⟩
      have D4 := D30.new (o := .tup [.int i, v]) hp
      have e := at_del (a := a) (upd_same (H := H3) (a := p) (o := .tup [.int i, v])) (D3.1.ne hp)
      have h54 : L2.upd H3 p (.tup [.int i, v]) l5 = some (.lst [.int 5]) := by rw [upd_ne (ne_of_none h53 hp)]; exact h53
      refine fin _ _ ⟨_, _, .tup e, .tup e, ?_, by show 2 ≤ 1000; decide, nz fun z h => by cases h⟩ (mo (by omega) D4)
      intro y hy
      simp only [List.mem_cons, List.mem_nil_iff, or_false] at hy hv
      rcases hy with rfl | rfl
      · exact .inl rfl
      · rcases hv with rfl | rfl | rfl | rfl | rfl
        · exact .inl rfl
        · exact .inl rfl
        · exact .inl (by decide +kernel)
        · exact .inl rfl
        · exact .inr ⟨l5, _, rfl, at_del h54 h5a, rfl⟩
    have w5' : q ≠ 7 := fun h => w5 (decide_eq_true (by rw [h]))
    have q1' : q < 10 := q1
    refine ⟨_, rfl, _, rfl, log_of hi, fun pd hpd => ⟨_, rfl, upd_same, [(Sum.inr (Str.ofString "a"), .int i)], rfl, by show 1 ≤ 15; decide, by show 2 ≤ sizeLine; decide, fun p hp => ?_⟩⟩
    obtain ⟨j, hj⟩ : ∃ j : Nat, q - 8 = (j : Int) := ⟨(q - 8).toNat, by omega⟩
    refine ⟨_, rfl, _, _, rfl, rfl, p, _, _, _, rfl, rfl, SqL.of upd_same, (by rw [hj]; exact atI_nat (List.getElem?_eq_getElem (by show j < 2; omega))), ?_⟩
    have hda := hH2.ne hpd
    have hdc := hH2.neC hpd
    have npd : pd ≠ p := fun e => by rw [e, upd_same] at hp; cases hp
    have D3 := ((D2.new (o := .dK []) hpd).put (o := .dK (mergeK [] [(Sum.inr (Str.ofString "a"), .int i)])) (D2.back hpd) hda hdc).new (o := .lst [.str (Str.ofString (toString i)), .ref pd]) hp
    match j, hj with
    | 0, _ => exact fin _ _ (vl_flat (Pc.int (log_of hi)).2 (fun z2 e => by cases e; exact Pc.int (log_of hi))) (mo (by omega) D3)
    | 1, _ => exact fin _ _ ⟨_, [], .dct (at_del (by rw [upd_ne npd, upd_same]) hda), .none rfl, (fun _ h => nomatch h), Nat.zero_le _, nz fun z h => by cases h⟩ (mo (by omega) D3)
    | j + 2, h => exact absurd h (by omega)
end
end K01
set_option Elab.async false
set_option linter.all false
set_option maxRecDepth 100000
set_option maxHeartbeats 2000000
namespace K01
open PySem L2 PySem.Spec PyProof.Rows

/-! ### calls with keywords alone -/
structure CalK (P : Program) (w : World) (K : PySem.W.Frag) (mg : Str → Option Value) (base : Heap) (x : Str) (k : Nat) (ps ks : List Str) (gV : List V → List V) (sp : Sp) : Prop where
  ex : ∃ (f : Addr) (fd : FuncData) (g : List Value → List Value), FnOk P w K mg base CX0 k f fd ps sp ∧ mg x = some (.ref f) ∧ PySem.W.keepIn K (.ref f) = true ∧ KBn K fd ps 0 ks (fun _ ws => g ws) (fun _ zs => gV zs)
def tCalK (sp : Sp) (gV : List V → List V) (m : Nat) (tk : TA) : TE := fun σ H Q => tk σ H fun zs H2 => zs.length = m ∧ sp (gV zs) H2 Q E0
section
variable {X : Cx} {x : Str} {k j : Nat} {ps ks : List Str} {gV : List V → List V} {sp : Sp} {p pos : Pos} {kws : List Keyword} {tk : TA}
theorem pe_calK (C : CalK X.prog X.w X.K X.mg X.base x k ps ks gV sp) (hr : Room j X.A) (hkj : k ≤ j) (hg : Gl X x) (hkw : PK X kws tk) (hall : (backToKw pos (keywordEach kws X.env)).all (·.1.isSome) = true := by rfl)
    (hks : (backToKw pos (keywordEach kws X.env)).filterMap (·.1) = ks := by rfl) (hdb : (x == ("__debug__" : Str)) = false := by decide) (hpl : ((backTo pos (starEach [] X.env)).any (·.1) || (backToKw pos (keywordEach kws X.env)).any (·.1.isNone)) = false := by rfl) :
    PE X (.Call (.Name x p) [] kws pos) (tCalK sp gV ks.length tk) := by
  obtain ⟨f, fd, g, F, hm, hk, hb⟩ := C.ex
  refine ⟨fun pins s σ H Q I h => ?_⟩
  refine wpAny_Call_Name_kw (ld_glob I hg hm ?_ hdb)
  refine PySem.W.callWith_KW0 (h₀ := X.base) I.ok.mod.kin hk hall ?_ hpl
  refine thn (hkw.run pos pins s σ H _ I h) fun ws s2 ⟨zs, H2, I2, rz, lz, q2⟩ => ⟨I2.kIn, ?_⟩
  rw [hks]
  have r2 := hb.rel (vs := []) (us := []) .nil rz
  have hl : ws.length = ks.length := by rw [← rz.length, lz]
  refine wpAny_call (codeAny_mono ((F.mono hkj).run X.A X.stack s2 H2 ⟨[], ks.zip ws⟩ (g ws) (gV zs) Q E0 hr I2.env0 (hb.to s2 [] ws I2.kIn rfl hl) r2 q2) fun r s' hq => ?_)
  cases r with
  | error e => exact pass0 pins σ H2 s2 e s' I2 hq
  | ok fl =>
    cases fl with
    | ret u => exact I2.after hq
    | next => exact False.elim hq
    | brk => exact False.elim hq
    | cont => exact False.elim hq
/-- what is walked is served by one rule or by the other -/
theorem pi_or {tg l : Expr} {w1 w2 : TI} (h1 : PI X tg l w1) (h2 : PI X tg l w2) : PI X tg l (fun σ H R => w1 σ H R ∨ w2 σ H R) :=
  ⟨fun pins s σ H R I h => h.elim (fun q => h1.run pins s σ H R I q) (fun q => h2.run pins s σ H R I q)⟩
end
theorem same_no {b : Bool} {A B : Prop} (h : B) : if (!(b == b)) = true then A else B := by
  cases b <;> exact iteF h
theorem ne_no {b : Bool} {A B : Prop} (h : B) : if (!decide (V.bl b = V.bl b)) = true then A else B := by
  rw [decide_eq_true rfl]
  exact iteF h

/-! ### lists of items -/
def itD : PyData → Bool
  | .list l => l.all flatD
  | d => flatD d
theorem it_lay : ∀ ds : List PyData, ds.all itD = true → PyData.canLayAll0 ds = true ∧ PyData.depthAll ds ≤ 1
  | [], _ => ⟨rfl, Nat.zero_le _⟩
  | d :: r, h => by
    rw [List.all_cons, Bool.and_eq_true] at h
    obtain ⟨h1, h2⟩ := it_lay r h.2
    have hd := h.1
    cases d with
    | none => exact ⟨by simp [PyData.canLayAll0, PyData.canLay0, h1], by simp [PyData.depthAll, PyData.depth, h2]⟩
    | bool b => exact ⟨by simp [PyData.canLayAll0, PyData.canLay0, h1], by simp [PyData.depthAll, PyData.depth, h2]⟩
    | int i => exact ⟨by simp [PyData.canLayAll0, PyData.canLay0, h1], by simp [PyData.depthAll, PyData.depth, h2]⟩
    | str z =>
      have hz : PyData.strOk z = true := hd
      exact ⟨by simp [PyData.canLayAll0, PyData.canLay0, h1, hz], by simp [PyData.depthAll, PyData.depth, h2]⟩
    | list l =>
      obtain ⟨a1, a2⟩ := flat_lay l hd
      exact ⟨by simp [PyData.canLayAll0, PyData.canLay0, h1, a1], by simp [PyData.depthAll, PyData.depth, a2]; omega⟩
    | tuple l => exact absurd hd Bool.false_ne_true
    | dict l => exact absurd hd Bool.false_ne_true
theorem shaped_it {ds : List PyData} (h : ds.all itD = true) : SeqAt.shaped (.list ds) = true := by
  obtain ⟨h1, h2⟩ := it_lay ds h
  simp [SeqAt.shaped, PyData.canLay0, PyData.depth, h1]
  omega
theorem dp_items {K : PySem.W.Frag} {H : Hp} : ∀ {xs : List V}, (∀ y ∈ xs, Itm H y) → ∃ ds, DpAll K H xs ds ∧ ds.all itD = true ∧ ds.isEmpty = xs.isEmpty
  | [], _ => ⟨[], .nil, rfl, rfl⟩
  | x :: r, h => by
    obtain ⟨ds, h1, h2, _⟩ := dp_items (K := K) (H := H) (xs := r) fun y hy => h y (List.mem_cons_of_mem _ hy)
    rcases h x List.mem_cons_self with hx | ⟨p, ys, rfl, hp, hy⟩
    · refine ⟨dat x :: ds, .cons (dp_dat (okV.flat hx)) h1, ?_, rfl⟩
      rw [List.all_cons, h2, Bool.and_true]
      cases x <;> first | rfl | exact hx
    · refine ⟨.list (ys.map dat) :: ds, .cons (.lst (SqL.of hp) (dpAll_dat (ok_flat hy))) h1, ?_, rfl⟩
      rw [List.all_cons, h2, Bool.and_true]
      exact flat_dat hy

abbrev nLooks : List Str := ["_law_hand_here", "_law_value_here", "_law_is_list", "_law_is_number_here", "_law_due", "_law_letter", "_law_low", "_law_high", "_law_least", "_law_most", "_law_is_in", "_law_each"]
def spLooks : Sp := fun vs H Q _ => ∃ (a c : Addr) (n : Nat) (x : V) (t : String) (xs : List V), vs = [.ref a, x] ∧ HandAt H a c n ∧ n ≤ 8000 ∧ Vl (L2.del H a) x t xs ∧ ∀ H', Drew a c (n + 6) H H' → Q (.bl true) H'
def seqS (t : String) : Bool := t == "list" || t == "tuple"
theorem letter_law {i : Int} : letterB (.int i) = ((decide (1 ≤ i) && decide (i ≤ 26)) || (decide (-26 ≤ i) && decide (i ≤ -1))) := by
  show ((decide (-26 ≤ i) && decide (i ≤ 26)) && !decide (i = 0)) = _
  rw [Bool.eq_iff_iff]
  simp
  omega
structure CalsG (P : Program) (w : World) (K : PySem.W.Frag) (mg : Str → Option Value) (base : Heap) : Prop where
  num : Cal P w K mg base "_law_is_number" 1 ["_law_value_here"] spIsInt
  int : Cal P w K mg base "is_integer" 1 ["value"] spIsInt
  intK : CalK P w K mg base "is_integer" 1 ["value"] ["value"] id spIsInt
  nm : Cal P w K mg base "is_name" 1 ["value"] spName
  nmK : CalK P w K mg base "is_name" 1 ["value"] ["value"] id spName
  lnm : Cal P w K mg base "_law_is_name" 1 ["_law_value_here"] spName
  letr : Cal P w K mg base "is_letter" 3 ["value"] spLetter
  letrK : CalK P w K mg base "is_letter" 3 ["value"] ["value"] id spLetter
  lst : Cal P w K mg base "is_listed" 1 ["value"] spListed
  lstK : CalK P w K mg base "is_listed" 1 ["value"] ["value"] id spListed
  are : Cal P w K mg base "are_integers" 2 ["value"] spAreInts
  areK : CalK P w K mg base "are_integers" 2 ["value"] ["value"] id spAreInts
  wit : Cal P w K mg base "is_within" 2 ["value", "least", "most"] spWithin
  witK : CalK P w K mg base "is_within" 2 ["value", "least", "most"] ["most", "least", "value"] List.reverse spWithin
  same : Cal P w K mg base "_law_same" 1 ["_law_answer", "_law_due"] spSame
  integer : Cal P w K mg base "_law_integer" 3 ["_law_hand_here"] spInteger
section
variable {P : Program} {w : World} {K : PySem.W.Frag} {mg : Str → Option Value} {base : Heap}
theorem scLooks : FnScope nLooks ["_law_hand_here", "_law_value_here"] (defScope sLooks) := ⟨rfl, rfl, rfl, by decide +kernel, rfl, by decide +kernel, by decide +kernel⟩
theorem ok_looks {f : Addr} {fd : FuncData} (F : Fun K "_law_looks_right" "_law_looks_right" sLooks f fd) (C : CalsG P w K mg base) (T : TxB mg) : FnOk P w K mg base CX0 4 f fd ["_law_hand_here", "_law_value_here"] spLooks := by
  refine F.ok scLooks (fun vs H Q E h => ?_) (fun cdv A outer s H vs Q E hr h => ?_)
  · obtain ⟨a, c, n, x, t, xs, rfl, _⟩ := h
    rfl
  · obtain ⟨a, c, n, x, t, xs, rfl, hH, hn, hv, k⟩ := h
    refine ⟨_, pss_cons (ps_par (i := 2) (j := 3) (by rfl) scLooks.nd rfl rfl (by decide) rfl rfl
        (pa_cons (pe_callB call_isiT (by rfl) T.isin (by decide +kernel) (pa_cons (pv 1) (pa_cons (pe_tup (pa_cons (pe_bltn (v := .ty "list") (by rfl) T.list (by decide +kernel) rfl) (pa_cons (pe_bltn (v := .ty "tuple") (by rfl) T.tuple (by decide +kernel) rfl) pa_nil))) pa_nil)))
        (pa_cons (pe_cal C.num hr (by decide) (by rfl) (pa_cons (pv 1) pa_nil)) pa_nil)) (by rfl))
      (Evl.pss_cut (ps_set (i := 4) scLooks.nd rfl (Or.inl rfl) (pe_and (pv 2) (pe_one (pe_cmpR (op_eqD hr.units) (pe_lc (own := [("_law_each", 11)]) (g := gName 11) rfl scLooks.nd (pi_or (pi_list (pv 1)) (pi_tup (pv 1)))
          (blkOk_by (N := nLooks) (sc := defScope sLooks) (by decide +kernel)) (fun _ _ _ _ _ => pg_name (i := 11) scLooks.nd rfl (Or.inl rfl))
          (fun _ _ _ _ _ => pts_one (pt_not (pt_val (pe_cal C.num hr (by decide) (by rfl) (pa_cons (pv 11) pa_nil))))) (fun _ _ _ _ _ => pv 11)) (pe_lst pa_nil) (nomark _)))))
      (Evl.pss_cut (ps_set (i := 5) scLooks.nd rfl (Or.inl rfl) (pe_and (pv 3) (pe_one (pe_or (pe_chain op_le op_le pe_int (pv 1) pe_int) (pe_one (pe_chain op_le op_le (pe_un un_neg pe_int) (pv 1) (pe_un un_neg pe_int)))))))
      (pss_cons (ps_if (PW.pt (pw_or (pt_not (pt_val (pe_cal C.same hr (by decide) (by rfl) (pa_cons (pe_cal C.int hr (by decide) (by rfl) (pa_cons (pv 1) pa_nil)) (pa_cons (pv 3) pa_nil)))))
          (pw_or (pt_not (pt_val (pe_cal C.same hr (by decide) (by rfl) (pa_cons (pe_cal C.nm hr (by decide) (by rfl) (pa_cons (pv 1) pa_nil)) (pa_cons (pe_cal C.lnm hr (by decide) (by rfl) (pa_cons (pv 1) pa_nil)) pa_nil)))))
          (pw_or1 (pt_not (pt_val (pe_cal C.same hr (by decide) (by rfl) (pa_cons (pe_cal C.letr hr (by decide) (by rfl) (pa_cons (pv 1) pa_nil)) (pa_cons (pv 5) pa_nil)))))))))
        (pss_one (ps_ret pe_bl)) pss_nil)
      (pss_cons (ps_if (PW.pt (pw_or (pt_not (pt_val (pe_cal C.same hr (by decide) (by rfl) (pa_cons (pe_cal C.lst hr (by decide) (by rfl) (pa_cons (pv 1) pa_nil)) (pa_cons (pv 2) pa_nil)))))
          (pw_or1 (pt_not (pt_val (pe_cal C.same hr (by decide) (by rfl) (pa_cons (pe_cal C.are hr (by decide) (by rfl) (pa_cons (pv 1) pa_nil)) (pa_cons (pv 4) pa_nil))))))))
        (pss_one (ps_ret pe_bl)) pss_nil)
      (pss_cons (ps_if (PW.pt (pw_or (pt_cmpR op_ne (pe_calK C.intK hr (by decide) (by rfl) (pk_cons (pv 1) pk_nil)) (pv 3) (nomark _))
          (pw_or (pt_cmpR op_ne (pe_calK C.nmK hr (by decide) (by rfl) (pk_cons (pv 1) pk_nil)) (pe_cal C.nm hr (by decide) (by rfl) (pa_cons (pv 1) pa_nil)) (nomark _))
          (pw_or1 (pt_cmpR op_ne (pe_calK C.letrK hr (by decide) (by rfl) (pk_cons (pv 1) pk_nil)) (pv 5) (nomark _))))))
        (pss_one (ps_ret pe_bl)) pss_nil)
      (pss_cons (ps_if (PW.pt (pw_or (pt_cmpR op_ne (pe_calK C.lstK hr (by decide) (by rfl) (pk_cons (pv 1) pk_nil)) (pv 2) (nomark _))
          (pw_or1 (pt_cmpR op_ne (pe_calK C.areK hr (by decide) (by rfl) (pk_cons (pv 1) pk_nil)) (pv 4) (nomark _)))))
        (pss_one (ps_ret pe_bl)) pss_nil)
      (pss_cons (ps_par (i := 6) (j := 7) (by rfl) scLooks.nd rfl rfl (by decide) rfl rfl (pa_cons (pe_cal C.integer hr (by decide) (by rfl) (pa_cons (pv 0) pa_nil)) (pa_cons (pe_cal C.integer hr (by decide) (by rfl) (pa_cons (pv 0) pa_nil)) pa_nil)) (by rfl))
      (pss_cons (ps_for PassesOwn.never rfl (pi_tup (pe_tup (pa_cons (pe_tup (pa_cons (pv 6) (pa_cons (pv 7) pa_nil))) (pa_cons (pe_tup (pa_cons pe_non (pa_cons (pv 7) pa_nil))) (pa_cons (pe_tup (pa_cons (pv 6) (pa_cons pe_non pa_nil))) (pa_cons (pe_tup (pa_cons pe_non (pa_cons pe_non pa_nil)))
          (pa_cons (pe_tup (pa_cons (pe_ifExp (pt_val (pv 3)) (pv 1) (pv 6)) (pa_cons (pv 7) pa_nil))) pa_nil)))))))
          (pg_tup (n := 2) rfl (pgs_cons (pg_name (i := 8) scLooks.nd rfl (Or.inl rfl)) (pgs_cons (pg_name (i := 9) scLooks.nd rfl (Or.inl rfl)) pgs_nil)))
          (Evl.pss_cut (ps_set (i := 10) scLooks.nd rfl (Or.inl rfl) (pe_and (pv 3) (pe_and (pe_or (pe_cmpR op_isN (pv 8) pe_non (nomark _)) (pe_one (pe_cmpR op_le (pv 8) (pv 1) (nomark _)))) (pe_one (pe_or (pe_cmpR op_isN (pv 9) pe_non (nomark _)) (pe_one (pe_cmpR op_le (pv 1) (pv 9) (nomark _))))))))
          (pss_one (ps_if (PW.pt (pw_or (pt_not (pt_val (pe_cal C.same hr (by decide) (by rfl) (pa_cons (pe_cal C.wit hr (by decide) (by rfl) (pa_cons (pv 1) (pa_cons (pv 8) (pa_cons (pv 9) pa_nil)))) (pa_cons (pv 10) pa_nil)))))
            (pw_or1 (pt_not (pt_val (pe_cal C.same hr (by decide) (by rfl) (pa_cons (pe_calK C.witK hr (by decide) (by rfl) (pk_cons (pv 9) (pk_cons (pv 8) (pk_cons (pv 1) pk_nil)))) (pa_cons (pv 10) pa_nil))))))))
            (pss_one (ps_ret pe_bl)) pss_nil))))
      (pss_one (ps_ret pe_bl)))))))))), ?_⟩
    refine ⟨_, rfl, by show 2 ≤ sizeLine; decide, fun tp htp => ?_⟩
    have D1 : Drew a c n H (L2.upd H tp (.tup [.ty "list", .ty "tuple"])) := (Drew.refl hH).new htp
    refine ⟨x, tp, _, _, _, _, rfl, upd_same, .cons (.ty _) (.cons (.ty _) .nil), (hv.at D1).ty.ty, (hv.at D1).ty.kSeq, ?_⟩
    refine ⟨_, rfl, x, t, rfl, (hv.at D1).ty, _, _, rfl, ?_⟩
    refine gen_heap fun H1 e1 => ?_
    rw [← e1] at D1
    have V1 := hv.at D1
    -- due
    refine ⟨fun σ' H' => σ' = [some (.ref a), some x, some (.bl (t == "list" || t == "tuple")), some (.bl (isI x)), some (.bl ((t == "list" || t == "tuple") && xs.all isI)), none, none, none, none, none, none, none] ∧ Drew a c n H H', ?_, ?_⟩
    · refine ⟨_, rfl, _, rfl, ?_⟩
      have turn : ∀ y, y ∈ xs → ∀ H2, Same H1 H2 → ∀ (Qy : V → Hp → Prop) (Qn : Hp → Prop), ((!isI y) = true → ∀ H', Same H2 H' → Qy y H') → ((!isI y) = false → ∀ H', Same H2 H' → Qn H') →
          gName 11 y (wipe [some (.ref a), some x, some (.bl (t == "list" || t == "tuple")), some (.bl (isI x)), none, none, none, none, none, none, none, none] [11]) H2 fun σ2 H2 => wipe σ2 [11] = wipe [some (.ref a), some x, some (.bl (t == "list" || t == "tuple")), some (.bl (isI x)), none, none, none, none, none, none, none, none] [11] ∧
            tNot (tB (tCall spIsInt [] E0 (tCons (tVar 11) tNil))) σ2 H2 fun b H3 => if b = true then tVar 11 σ2 H3 Qy else Qn H3 := by
        intro y hy H2 s2 Qy Qn ky kn
        obtain ⟨u, hu⟩ := V1.all y hy
        refine ⟨rfl, _, rfl, y, u, rfl, hu.same s2, _, rfl, ?_⟩
        cases hb : isI y with
        | true => exact iteF (kn (by rw [hb]; rfl) H2 (fun _ _ e => e))
        | false => exact iteT ⟨_, rfl, ky (by rw [hb]; rfl) H2 (fun _ _ e => e)⟩
      have after : ∀ Q1 : VK, (t == "list" || t == "tuple") = true → (∀ H', Same H1 H' → Q1 (.bl ((t == "list" || t == "tuple") && xs.all isI)) H') → ∀ (Dl : Addr) H', Same H1 H' → H' Dl = some (.lst ((xs.filter fun y => !isI y).map id)) →
          tLst tNil [some (.ref a), some x, some (.bl (t == "list" || t == "tuple")), some (.bl (isI x)), none, none, none, none, none, none, none, none] H' fun y2 H3 => rEqD K (.ref Dl) y2 H3 Q1 := by
        intro Q1 ht q Dl H' s2 hD
        refine ⟨Nat.zero_le _, fun p5 hp5 => ?_⟩
        have s5 : Same H' (L2.upd H' p5 (.lst [])) := same_new hp5
        rw [List.map_id] at hD
        obtain ⟨ds, d1, d2, d3⟩ := dp_items (K := K) (H := L2.upd H' p5 (.lst [])) (xs := xs.filter fun y => !isI y) fun y hy => ((V1.itm y (List.mem_filter.mp hy).1).same s2).same s5
        refine ⟨_, _, .lst (SqL.of (s5 _ _ hD)) d1, .lst (SqL.of upd_same) .nil, shaped_it d2, rfl, ?_⟩
        rw [eqv_nil, d3]
        have e6 : (xs.filter fun y => !isI y).isEmpty = ((t == "list" || t == "tuple") && xs.all isI) := by
          rw [ht, Bool.true_and, Bool.eq_iff_iff, List.isEmpty_iff, List.filter_eq_nil_iff, List.all_eq_true]
          constructor
          · intro h y hy
            simpa using h y hy
          · intro h y hy
            simpa using h y hy
        rw [e6]
        exact q _ (fun b o e => s5 b o (s2 b o e))
      cases V1.its with
      | lst e =>
        refine iteT ?_
        refine lc_in (Or.inl ⟨_, rfl, _, rfl, ⟨_, SqL.of e⟩, ?_⟩)
        exact lcp walk_list (fun y => !isI y) id (by have := V1.few; omega) (fun H2 s2 => SqL.of (s2 _ _ e)) turn (fun Dl H' _ s2 hD => after _ rfl (fun H' s => ⟨rfl, D1.same s⟩) Dl H' s2 hD)
      | tup e =>
        refine iteT ?_
        refine lc_in (Or.inr ⟨_, rfl, _, rfl, ⟨_, SqT.of e⟩, ?_⟩)
        exact lcp walk_tup (fun y => !isI y) id (by have := V1.few; omega) (fun H2 s2 => SqT.of (s2 _ _ e)) turn (fun Dl H' _ s2 hD => after _ rfl (fun H' s => ⟨rfl, D1.same s⟩) Dl H' s2 hD)
      | none hn =>
        rw [hn]
        exact iteF ⟨rfl, D1⟩
    rintro σ2 H2 ⟨rfl, D2⟩
    have V2 := hv.at D2
    -- letter
    refine ⟨fun σ' H' => σ' = [some (.ref a), some x, some (.bl (t == "list" || t == "tuple")), some (.bl (isI x)), some (.bl ((t == "list" || t == "tuple") && xs.all isI)), some (.bl (letterB x)), none, none, none, none, none, none] ∧ H' = H2, ?_, ?_⟩
    · refine ⟨_, rfl, _, rfl, ?_⟩
      cases hx : isI x with
      | false =>
        have e : letterB x = false := by
          cases x with
          | int i => exact Bool.noConfusion (show true = false from hx)
          | _ => rfl
        rw [e]
        exact iteF ⟨rfl, rfl⟩
      | true =>
        obtain ⟨i, rfl⟩ : ∃ i, x = .int i := by
          cases x with
          | int i => exact ⟨i, rfl⟩
          | _ => exact absurd hx Bool.false_ne_true
        rw [letter_law]
        refine iteT ?_
        refine ⟨_, rfl, _, _, rfl, rfl, _, rfl, ?_⟩
        have snd : ∀ Q1 : VK, Q1 (.bl (decide (-26 ≤ i) && decide (i ≤ -1))) H2 → ∀ σ : L2.St, σ[1]? = some (some (.int i)) →
            tChain (rI0 fun i j => V.bl (decide (i ≤ j))) (rI0 fun i j => V.bl (decide (i ≤ j))) (tUn (rU fun i => V.int (-i)) (tC (V.int 26))) (tVar 1) (tUn (rU fun i => V.int (-i)) (tC (V.int 1))) σ H2 Q1 := by
          intro Q1 q σ hσ
          refine ⟨_, rfl, _, hσ, _, _, rfl, rfl, _, rfl, ?_⟩
          by_cases h : (-26 : Int) ≤ i
          · rw [decide_eq_true h] at q ⊢
            exact iteT ⟨_, rfl, _, _, rfl, rfl, q⟩
          · rw [decide_eq_false h] at q ⊢
            exact iteF q
        by_cases h1 : (1 : Int) ≤ i
        · rw [decide_eq_true h1]
          refine iteT ⟨_, _, rfl, rfl, _, rfl, ?_⟩
          by_cases h2 : i ≤ (26 : Int)
          · rw [decide_eq_true h2]
            exact iteT ⟨rfl, rfl⟩
          · rw [decide_eq_false h2]
            exact iteF (snd _ ⟨rfl, rfl⟩ _ rfl)
        · rw [decide_eq_false h1]
          exact iteF ⟨_, rfl, iteF (snd _ ⟨rfl, rfl⟩ _ rfl)⟩
    rintro σ3 H3 ⟨rfl, rfl⟩
    -- is_integer, is_name, is_letter
    refine ⟨_, rfl, x, t, rfl, V2.ty, _, rfl, _, _, rfl, _, rfl, same_no ?_⟩
    refine ⟨_, rfl, x, t, rfl, V2.ty, V2.fine, fun H4 s4 => ⟨_, rfl, x, t, rfl, V2.ty.same s4, V2.fine, fun H5 s5 => ⟨_, _, rfl, _, rfl, same_no ?_⟩⟩⟩
    have D5 := (D2.same s4).same s5
    have V5 := hv.at D5
    refine ⟨_, rfl, x, t, rfl, V5.ty, _, rfl, _, _, rfl, _, rfl, same_no ?_⟩
    -- is_listed, are_integers
    refine ⟨_, rfl, x, t, rfl, V5.ty, fun H6 s6 => ⟨_, rfl, _, _, rfl, _, rfl, same_no ?_⟩⟩
    have D6 := D5.same s6
    have V6 := hv.at D6
    refine ⟨_, rfl, x, t, xs, rfl, V6.ty, V6.its, V6.all, V6.few, fun H7 s7 => ⟨_, rfl, _, _, rfl, _, rfl, same_no ?_⟩⟩
    have D7 := D6.same s7
    have V7 := hv.at D7
    -- by name
    refine ⟨_, rfl, rfl, x, t, rfl, V7.ty, _, rfl, rfl, _, rfl, ne_no ?_⟩
    refine ⟨_, rfl, rfl, x, t, rfl, V7.ty, V7.fine, fun H8 s8 => ⟨_, rfl, x, t, rfl, V7.ty.same s8, V7.fine, fun H9 s9 => ⟨rfl, _, rfl, ne_no ?_⟩⟩⟩
    have D9 := (D7.same s8).same s9
    have V9 := hv.at D9
    refine ⟨_, rfl, rfl, x, t, rfl, V9.ty, _, rfl, rfl, _, rfl, ne_no ?_⟩
    refine ⟨_, rfl, rfl, x, t, rfl, V9.ty, fun H10 s10 => ⟨_, rfl, rfl, _, rfl, ne_no ?_⟩⟩
    have D10 := D9.same s10
    have V10 := hv.at D10
    refine ⟨_, rfl, rfl, x, t, xs, rfl, V10.ty, V10.its, V10.all, V10.few, fun H11 s11 => ⟨_, rfl, rfl, _, rfl, ne_no ?_⟩⟩
    have D11 := D10.same s11
    -- low, high
    refine ⟨_, rfl, a, c, n, rfl, D11.1, by omega, fun i1 H12 hi1 D12 => ⟨_, rfl, a, c, n + 3, rfl, D12.1, by omega, fun i2 H13 hi2 D13 => ⟨_, _, rfl, ?_⟩⟩⟩
    have D13' : Drew a c (n + 6) H H13 := (D11.trans D12).trans D13
    have b1 : Bnd (.int i1) := .inr ⟨i1, rfl⟩
    have b2 : Bnd (.int i2) := .inr ⟨i2, rfl⟩
    have b0 : Bnd .non := .inl rfl
    -- the five pairs of bounds
    refine ⟨_, rfl, _, rfl, by show 2 ≤ sizeLine; decide, fun p1 hp1 => ?_⟩
    refine ⟨_, rfl, by show 2 ≤ sizeLine; decide, fun p2 hp2 => ?_⟩
    refine ⟨_, rfl, by show 2 ≤ sizeLine; decide, fun p3 hp3 => ?_⟩
    refine ⟨by show 2 ≤ sizeLine; decide, fun p4 hp4 => ?_⟩
    have five : ∃ v5, Bnd v5 ∧ ∀ (σ : L2.St) (Q1 : VK) (H : Hp), σ[1]? = some (some x) → σ[6]? = some (some (.int i1)) → Q1 v5 H → (if isI x = true then tVar 1 σ H Q1 else tVar 6 σ H Q1) := by
      cases hx : isI x with
      | true =>
        obtain ⟨i, rfl⟩ : ∃ i, x = .int i := by
          cases x with
          | int i => exact ⟨i, rfl⟩
          | _ => exact absurd hx Bool.false_ne_true
        exact ⟨_, .inr ⟨i, rfl⟩, fun σ Q1 H h1 _ q => iteT ⟨_, h1, q⟩⟩
      | false => exact ⟨_, b1, fun σ Q1 H _ h6 q => iteF ⟨_, h6, q⟩⟩
    obtain ⟨v5, b5, hv5⟩ := five
    refine ⟨_, rfl, _, rfl, hv5 _ _ _ rfl rfl ?_⟩
    refine ⟨_, rfl, by show 2 ≤ sizeLine; decide, fun p5 hp5 => ?_⟩
    refine ⟨by show 5 ≤ sizeLine; decide, fun p6 hp6 => ?_⟩
    have D14 := (((((D13'.new (o := .tup [.int i1, .int i2]) hp1).new (o := .tup [.non, .int i2]) hp2).new (o := .tup [.int i1, .non]) hp3).new (o := .tup [.non, .non]) hp4).new (o := .tup [v5, .int i2]) hp5).new (o := .tup [.ref p1, .ref p2, .ref p3, .ref p4, .ref p5]) hp6
    have f1 := upd_same (H := H13) (a := p1) (o := .tup [.int i1, .int i2])
    have f2 := upd_same (H := upd H13 p1 (.tup [.int i1, .int i2])) (a := p2) (o := .tup [.non, .int i2])
    have f3 := upd_same (H := upd (upd H13 p1 (.tup [.int i1, .int i2])) p2 (.tup [.non, .int i2])) (a := p3) (o := .tup [.int i1, .non])
    have f4 := upd_same (H := upd (upd (upd H13 p1 (.tup [.int i1, .int i2])) p2 (.tup [.non, .int i2])) p3 (.tup [.int i1, .non])) (a := p4) (o := .tup [.non, .non])
    have f5 := upd_same (H := upd (upd (upd (upd H13 p1 (.tup [.int i1, .int i2])) p2 (.tup [.non, .int i2])) p3 (.tup [.int i1, .non])) p4 (.tup [.non, .non])) (a := p5) (o := .tup [v5, .int i2])
    have g1 := (same_new (o := .tup [.ref p1, .ref p2, .ref p3, .ref p4, .ref p5]) hp6) _ _ ((same_new (o := .tup [v5, .int i2]) hp5) _ _ ((same_new (o := .tup [.non, .non]) hp4) _ _ ((same_new (o := .tup [.int i1, .non]) hp3) _ _ ((same_new (o := .tup [.non, .int i2]) hp2) _ _ f1))))
    have g2 := (same_new (o := .tup [.ref p1, .ref p2, .ref p3, .ref p4, .ref p5]) hp6) _ _ ((same_new (o := .tup [v5, .int i2]) hp5) _ _ ((same_new (o := .tup [.non, .non]) hp4) _ _ ((same_new (o := .tup [.int i1, .non]) hp3) _ _ f2)))
    have g3 := (same_new (o := .tup [.ref p1, .ref p2, .ref p3, .ref p4, .ref p5]) hp6) _ _ ((same_new (o := .tup [v5, .int i2]) hp5) _ _ ((same_new (o := .tup [.non, .non]) hp4) _ _ f3))
    have g4 := (same_new (o := .tup [.ref p1, .ref p2, .ref p3, .ref p4, .ref p5]) hp6) _ _ ((same_new (o := .tup [v5, .int i2]) hp5) _ _ f4)
    have g5 := (same_new (o := .tup [.ref p1, .ref p2, .ref p3, .ref p4, .ref p5]) hp6) _ _ f5
    have g6 := upd_same (H := upd (upd (upd (upd (upd H13 p1 (.tup [.int i1, .int i2])) p2 (.tup [.non, .int i2])) p3 (.tup [.int i1, .non])) p4 (.tup [.non, .non])) p5 (.tup [v5, .int i2])) (a := p6) (o := .tup [.ref p1, .ref p2, .ref p3, .ref p4, .ref p5])
    refine gen_heap fun H14 e14 => ?_
    rw [← e14] at D14 g1 g2 g3 g4 g5 g6
    have items : ∀ y, y ∈ [V.ref p1, .ref p2, .ref p3, .ref p4, .ref p5] → ∃ p l m, y = .ref p ∧ H14 p = some (.tup [l, m]) ∧ Bnd l ∧ Bnd m := by
      intro y hy
      simp only [List.mem_cons, List.mem_nil_iff, or_false] at hy
      rcases hy with rfl | rfl | rfl | rfl | rfl
      · exact ⟨_, _, _, rfl, g1, b1, b2⟩
      · exact ⟨_, _, _, rfl, g2, b0, b2⟩
      · exact ⟨_, _, _, rfl, g3, b1, b0⟩
      · exact ⟨_, _, _, rfl, g4, b0, b0⟩
      · exact ⟨_, _, _, rfl, g5, b5, b2⟩
    refine ⟨p6, rfl, ⟨_, SqT.of g6⟩, ?_⟩
    refine for_tup (xs := [V.ref p1, .ref p2, .ref p3, .ref p4, .ref p5]) (fun _ σ' H' => (∃ u1 u2 u3 : Option V, σ' = [some (.ref a), some x, some (.bl (t == "list" || t == "tuple")), some (.bl (isI x)), some (.bl ((t == "list" || t == "tuple") && xs.all isI)), some (.bl (letterB x)), some (.int i1), some (.int i2), u1, u2, u3, none]) ∧ Same H14 H')
      ⟨⟨_, _, _, rfl⟩, fun _ _ e => e⟩ (fun i σ' H' _ q => SqT.of (q.2 _ _ g6)) ?_ ?_
    · rintro i y σ' H15 hi ⟨⟨u1, u2, u3, rfl⟩, s15⟩
      obtain ⟨p, l, m, rfl, hp, bl, bm⟩ := items y (List.mem_of_getElem? hi)
      refine ⟨p, _, rfl, SqT.of (s15 _ _ hp), rfl, _, _, rfl, _, _, rfl, rfl, ?_⟩
      have D15 := D14.same s15
      have V15 := hv.at D15
      refine ⟨fun σ' H' => σ' = [some (.ref a), some x, some (.bl (t == "list" || t == "tuple")), some (.bl (isI x)), some (.bl ((t == "list" || t == "tuple") && xs.all isI)), some (.bl (letterB x)), some (.int i1), some (.int i2), some l, some m, some (.bl (within x l m)), none] ∧ H' = H15, ?_, ?_⟩
      · refine ⟨_, rfl, _, rfl, ?_⟩
        cases hx : isI x with
        | false =>
          have e : within x l m = false := by
            cases x with
            | int i => exact Bool.noConfusion (show true = false from hx)
            | _ => rfl
          rw [e]
          exact iteF ⟨rfl, rfl⟩
        | true =>
          obtain ⟨i, rfl⟩ : ∃ i, x = .int i := by
            cases x with
            | int i => exact ⟨i, rfl⟩
            | _ => exact absurd hx Bool.false_ne_true
          refine iteT ?_
          have half : ∀ (Q1 : VK) (σ : L2.St), σ[1]? = some (some (.int i)) → σ[9]? = some (some m) → Q1 (.bl (leB i m)) H15 →
              tOrV (tOp (fun x y H Q => y = .non ∧ Q (.bl (decide (x = .non))) H) (tVar 9) (tC .non)) (tOp (rI0 fun i j => .bl (decide (i ≤ j))) (tVar 1) (tVar 9)) σ H15 Q1 := by
            intro Q1 σ h1 h9 q
            rcases bm with rfl | ⟨b, rfl⟩
            · exact ⟨_, h9, rfl, _, rfl, iteT q⟩
            · exact ⟨_, h9, rfl, _, rfl, iteF ⟨_, h1, _, h9, _, _, rfl, rfl, q⟩⟩
          rcases bl with rfl | ⟨b, rfl⟩
          · refine ⟨_, rfl, rfl, _, rfl, iteT ⟨_, rfl, iteT (half _ _ rfl rfl ?_)⟩⟩
            exact ⟨rfl, rfl⟩
          · refine ⟨_, rfl, rfl, _, rfl, iteF ⟨_, rfl, _, rfl, _, _, rfl, rfl, _, rfl, ?_⟩⟩
            have ew : within (.int i) (.int b) m = (decide (b ≤ i) && leB i m) := rfl
            rw [ew]
            by_cases hb : b ≤ i
            · rw [decide_eq_true hb, Bool.true_and]
              exact iteT (half _ _ rfl rfl ⟨rfl, rfl⟩)
            · rw [decide_eq_false hb]
              exact iteF ⟨rfl, rfl⟩
      rintro σ4 H16 ⟨rfl, rfl⟩
      refine ⟨_, rfl, _, rfl, _, rfl, x, l, m, t, rfl, V15.ty, bl, bm, _, rfl, _, _, rfl, _, rfl, same_no ?_⟩
      refine ⟨_, rfl, _, rfl, _, rfl, rfl, x, l, m, t, rfl, V15.ty, bl, bm, _, rfl, _, _, rfl, _, rfl, same_no ?_⟩
      exact ⟨⟨_, _, _, rfl⟩, s15⟩
    · rintro σ' H15 ⟨_, s15⟩
      exact k _ (D14.same s15)
end
end K01
set_option Elab.async false
set_option linter.all false
set_option maxRecDepth 100000
set_option maxHeartbeats 2000000
namespace K01
open PySem L2 PySem.Spec PyProof.Rows
/-- the first that stands ahead already -/
def fT : (Key → Bool) → List Key → V
  | _, [] => .non
  | S, k :: r => if S k = true then kV k else fT (fun j => S j || decide (j = k)) r
def spTwice : Sp := fun vs H Q _ => ∃ (y : V) (p : Addr) (ks : List Key), vs = [y] ∧ y = .ref p ∧ (H p = some (.lst (ks.map kV)) ∨ H p = some (.tup (ks.map kV))) ∧ ks.length ≤ 1000 ∧ ∀ H', Same H H' → Q (fT (fun _ => false) ks) H'
structure TxH (mg : Str → Option Value) : Prop where
  set : mg "set" = none
  enum : mg "enumerate" = none
  tuple : mg "tuple" = none
  range : mg "range" = none
section
variable {P : Program} {w : World} {K : PySem.W.Frag} {mg : Str → Option Value} {base : Heap}
theorem scTwice : FnScope ["values", "seen", "value"] ["values"] (defScope sTwice) := ⟨rfl, rfl, rfl, by decide +kernel, rfl, by decide +kernel, by decide +kernel⟩
theorem ok_twice {f : Addr} {fd : FuncData} (F : Fun K "first_twice" "first_twice" sTwice f fd) (T : TxH mg) : FnOk P w K mg base CX0 1 f fd ["values"] spTwice := by
  refine F.ok scTwice (fun vs H Q E h => ?_) (fun cdv A outer s H vs Q E hr h => ?_)
  · obtain ⟨y, p, ks, rfl, _⟩ := h
    rfl
  · obtain ⟨y, p, ks, rfl, rfl, hp, hl, k⟩ := h
    refine ⟨_, pss_cons (ps_set (i := 1) scTwice.nd rfl (Or.inl rfl) (pe_callTy0 cr_set0K (by rfl) T.set (by decide +kernel)))
      (pss_cons (ps_for PassesOwn.never rfl (pi_or (pi_list (pv 0)) (pi_tup (pv 0))) (pg_name (i := 2) scTwice.nd rfl (Or.inl rfl))
        (pss_cons (ps_if (pt_cmpR or_sinK (pv 2) (pv 1) (by rfl)) (pss_one (ps_ret (pv 2))) pss_nil) (pss_one (ps_expr (pe_saddK (pv 1) (pa_cons (pv 2) pa_nil))))))
      (pss_one (ps_ret pe_non))), ?_⟩
    refine ⟨rfl, fun q hq => ?_⟩
    have nqp : p ≠ q := by
      rcases hp with h | h
      · exact ne_of_none h hq
      · exact ne_of_none h hq
    have hsb : (1000 : Nat) + 1 < scanBound := by decide +kernel
    -- one turn, whatever is walked
    have turn : ∀ (i : Nat) (x : V) (σ : L2.St) (H1 : Hp) (D : Ends) (N : L2.St → Hp → Prop), (ks.map kV)[i]? = some x → (∀ v H', Same H H' → v = fT (fun _ => false) ks → D.rt v H') →
        (∃ (S : Key → Bool) (n : Nat) (v2 : Option V), σ = [some (.ref p), some (.ref q), v2] ∧ H1 q = some (SetK P w q S n) ∧ n ≤ i ∧ fT (fun _ => false) ks = fT S (ks.drop i) ∧ Same H H1) →
        (∀ σ' H', (∃ (S : Key → Bool) (n : Nat) (v2 : Option V), σ' = [some (.ref p), some (.ref q), v2] ∧ H' q = some (SetK P w q S n) ∧ n ≤ i + 1 ∧ fT (fun _ => false) ks = fT S (ks.drop (i + 1)) ∧ Same H H') → N σ' H') →
        gName 2 x σ H1 fun σ2 H2 => (tSeq (tIfS (tTest (tOp (rSInK P w false) (tVar 2) (tVar 1))) (tRet (tVar 2)) tNext) (tDrop (tSAddK P w (tVar 1) (tCons (tVar 2) tNil)))) { D with nx := N, ct := N, bk := D.nx } σ2 H2 := by
      rintro i x σ H1 D N hx hret ⟨S, n, v2, rfl, hS, hn, hf, s1⟩ hN
      obtain ⟨key, hk, rfl⟩ : ∃ key, ks[i]? = some key ∧ x = kV key := by
        rw [List.getElem?_map] at hx
        cases e : ks[i]? with
        | none =>
          rw [e] at hx
          cases hx
        | some z =>
          rw [e] at hx
          exact ⟨z, rfl, (Option.some.inj hx).symm⟩
      have hi : i < ks.length := (List.getElem?_eq_some_iff.mp hk).1
      have ek : ks[i] = key := (List.getElem?_eq_some_iff.mp hk).2
      have ed : ks.drop i = key :: ks.drop (i + 1) := by rw [List.drop_eq_getElem_cons hi, ek]
      refine ⟨_, rfl, _, rfl, key, q, S, n, rfl, rfl, hS, _, rfl, ?_⟩
      show if (if false = true then !S key else S key) = true then _ else _
      rw [if_neg Bool.false_ne_true]
      refine ite2 (fun hm => ?_) (fun hm => ?_)
      · refine ⟨_, rfl, hret _ H1 s1 ?_⟩
        rw [hf, ed]
        show kV key = if S key = true then kV key else _
        rw [if_pos hm]
      · refine ⟨_, rfl, ⟨q, S, n, rfl, hS⟩, _, rfl, q, key, S, n, rfl, rfl, hS, by omega, ?_⟩
        refine hN _ _ ⟨fun j => S j || decide (j = key), _, _, rfl, upd_same, by rw [if_neg hm]; omega, ?_, ?_⟩
        · rw [hf, ed]
          show (if S key = true then kV key else fT (fun j => S j || decide (j = key)) (ks.drop (i + 1))) = _
          rw [if_neg hm]
        · intro b o e
          rw [upd_ne (ne_of_none e hq)]
          exact s1 b o e
    have start0 : ∃ (S : Key → Bool) (n : Nat) (v2 : Option V), [some (V.ref p), some (.ref q), none] = [some (.ref p), some (.ref q), v2] ∧ (L2.upd H q (SetK P w q (fun _ => false) 0)) q = some (SetK P w q S n) ∧ n ≤ 0 ∧ fT (fun _ => false) ks = fT S (ks.drop 0) ∧ Same H (L2.upd H q (SetK P w q (fun _ => false) 0)) :=
      ⟨_, 0, none, rfl, upd_same, Nat.le_refl _, rfl, same_new hq⟩
    have ends : ∀ (σ : L2.St) (H' : Hp), (∃ (S : Key → Bool) (n : Nat) (v2 : Option V), σ = [some (V.ref p), some (.ref q), v2] ∧ H' q = some (SetK P w q S n) ∧ n ≤ (ks.map kV).length ∧ fT (fun _ => false) ks = fT S (ks.drop (ks.map kV).length) ∧ Same H H') → Q .non H' := by
      rintro σ H' ⟨S, n, v2, _, _, _, hf, s1⟩
      have q1 := k H' s1
      rw [hf, List.length_map, List.drop_length] at q1
      exact q1
    rcases hp with h | h
    · refine Or.inl ⟨_, rfl, p, rfl, ⟨_, SqL.of (by rw [upd_ne nqp]; exact h)⟩, ?_⟩
      refine for_it (walk_list (xs := ks.map kV)) (fun i σ H1 => ∃ (S : Key → Bool) (n : Nat) (v2 : Option V), σ = [some (.ref p), some (.ref q), v2] ∧ H1 q = some (SetK P w q S n) ∧ n ≤ i ∧ fT (fun _ => false) ks = fT S (ks.drop i) ∧ Same H H1) start0 (fun i σ H1 _ ⟨_, _, _, _, _, _, _, s1⟩ => SqL.of (s1 _ _ h)) ?_ (fun σ H' q => ends σ H' q)
      rintro i x σ H1 H2 hi hq1 ⟨rfl, hx⟩
      exact turn i x σ H2 _ _ hx (fun v H' s e => by rw [e]; exact k H' s) hq1 (fun _ _ q => q)
    · refine Or.inr ⟨_, rfl, p, rfl, ⟨_, SqT.of (by rw [upd_ne nqp]; exact h)⟩, ?_⟩
      refine for_it (walk_tup (xs := ks.map kV)) (fun i σ H1 => ∃ (S : Key → Bool) (n : Nat) (v2 : Option V), σ = [some (.ref p), some (.ref q), v2] ∧ H1 q = some (SetK P w q S n) ∧ n ≤ i ∧ fT (fun _ => false) ks = fT S (ks.drop i) ∧ Same H H1) start0 (fun i σ H1 _ ⟨_, _, _, _, _, _, _, s1⟩ => SqT.of (s1 _ _ h)) ?_ (fun σ H' q => ends σ H' q)
      rintro i x σ H1 H2 hi hq1 ⟨rfl, hx⟩
      exact turn i x σ H2 _ _ hx (fun v H' s e => by rw [e]; exact k H' s) hq1 (fun _ _ q => q)
end
end K01
set_option Elab.async false
set_option linter.all false
set_option maxRecDepth 100000
set_option maxHeartbeats 2000000
namespace K01
open PySem L2 PySem.Spec PyProof.Rows
def memB (k : Key) (l : List Key) : Bool := l.any fun j => decide (j = k)
theorem memB_app (k j : Key) (l : List Key) : memB k (l ++ [j]) = (memB k l || decide (j = k)) := by
  unfold memB
  rw [List.any_append]
  simp
/-- those that stand ahead already -/
def fA : List Key → List Key → List Key
  | _, [] => []
  | pre, k :: r => (if memB k pre = true then [k] else []) ++ fA (pre ++ [k]) r
def headV : List Key → V
  | [] => .non
  | k :: _ => kV k
theorem fT_fA : ∀ (r pre : List Key) (S : Key → Bool), (∀ k, S k = memB k pre) → fT S r = headV (fA pre r)
  | [], _, _, _ => rfl
  | k :: r, pre, S, h => by
    show (if S k = true then kV k else fT (fun j => S j || decide (j = k)) r) = headV ((if memB k pre = true then [k] else []) ++ fA (pre ++ [k]) r)
    rw [h k]
    cases hk : memB k pre with
    | true => rfl
    | false =>
      rw [if_neg Bool.false_ne_true, if_neg Bool.false_ne_true]
      refine fT_fA r (pre ++ [k]) _ fun j => ?_
      show (S j || decide (j = k)) = memB j (pre ++ [k])
      rw [h j, memB_app]
      congr 1
      rw [Bool.eq_iff_iff, decide_eq_true_iff, decide_eq_true_iff]
      exact ⟨fun e => e.symm, fun e => e.symm⟩
theorem inV_keys (k : Key) : ∀ l : List Key, inV (kV k) (l.map kV) = memB k l := by
  intro l
  unfold inV memB
  rw [List.any_map]
  congr 1
  funext j
  show eqV (kV j) (kV k) = decide (j = k)
  rw [Bool.eq_iff_iff, decide_eq_true_iff]
  cases j with
  | inl a =>
    cases k with
    | inl b => exact ⟨fun e => congrArg Sum.inl (eq_of_beq (show (a == b) = true from e)), fun e => by cases e; exact beq_self_eq_true a⟩
    | inr b => exact ⟨fun e => absurd e Bool.false_ne_true, fun e => by cases e⟩
  | inr a =>
    cases k with
    | inl b => exact ⟨fun e => absurd e Bool.false_ne_true, fun e => by cases e⟩
    | inr b => exact ⟨fun e => congrArg Sum.inr (eq_of_beq (show (a == b) = true from e)), fun e => by cases e; exact beq_self_eq_true a⟩
theorem keys_flat (l : List Key) : (l.map kV).all flatV = true := by
  rw [List.all_map]
  refine List.all_eq_true.mpr fun k _ => ?_
  cases k <;> rfl
theorem cut_take (xs : List V) (i : Nat) (h : i ≤ xs.length) : cutV xs none (some (i : Int)) = xs.take i := by
  unfold cutV
  have e0 : HT.sIx xs.length 0 none = 0 := rfl
  rw [e0, List.drop_zero]
  have e1 : HT.sIx xs.length xs.length (some (i : Int)) = i := by
    unfold HT.sIx
    show (if (i : Int) < 0 then _ else min _ _) = i
    rw [if_neg (by omega)]
    have : ((i : Int)).toNat = i := Int.toNat_natCast i
    omega
  rw [e1, Nat.sub_zero]
theorem scal_key : ∀ l : List Key, scal (headV l) (headV l) = true
  | [] => rfl
  | k :: _ => by cases k <;> rfl
def okK (k : Key) : Prop := okV (kV k) = true
theorem fA_sub : ∀ (r pre : List Key), ∀ k ∈ fA pre r, k ∈ r
  | [], _, _, h => nomatch h
  | k :: r, pre, j, h => by
    have h2 : j ∈ (if memB k pre = true then [k] else []) ++ fA (pre ++ [k]) r := h
    rcases List.mem_append.mp h2 with h3 | h3
    · cases hk : memB k pre with
      | true =>
        rw [hk, if_pos rfl] at h3
        rw [List.mem_singleton.mp h3]
        exact List.mem_cons_self
      | false =>
        rw [hk, if_neg Bool.false_ne_true] at h3
        exact nomatch h3
    · exact List.mem_cons_of_mem _ (fA_sub r _ j h3)
theorem keys_of {l : List V} {p : Key → Prop} : (∀ v ∈ l, ∃ k, v = kV k ∧ p k) → ∃ ks : List Key, l = ks.map kV ∧ ∀ k ∈ ks, p k := by
  induction l with
  | nil => exact fun _ => ⟨[], rfl, fun _ h => nomatch h⟩
  | cons v r ih =>
    intro h
    obtain ⟨z, rfl, hz⟩ := h v (List.mem_cons_self)
    obtain ⟨ys, rfl, hy⟩ := ih fun u hu => h u (List.mem_cons_of_mem _ hu)
    exact ⟨z :: ys, rfl, fun u hu => by rcases List.mem_cons.mp hu with rfl | e; exact hz; exact hy u e⟩
theorem gn {i : Nat} {v : V} {σ : L2.St} {H : Hp} {Q : L2.St → Hp → Prop} (h : Q (σ.set i (some v)) H) : gName i v σ H Q := h
theorem sq {t u : TS} {D : Ends} {σ : L2.St} {H : Hp} (h : t { D with nx := u D } σ H) : tSeq t u D σ H := h
theorem as_lc {wi : TI} {g g2 : TG} {tt : TT} {te : TE} {vs : List Nat} {σ : L2.St} {H : Hp} {D : Ends} (h : tLc wi g tt te vs σ H fun x H1 => g2 x σ H1 D.nx) : tAsg (tLc wi g tt te vs) g2 D σ H := h
abbrev nTwR : List Str := ["_law_hand_here", "_law_pool", "_law_some", "_law_again", "_law_due", "_law_turn", "_law_at", "_law_each"]
def spTwR : Sp := fun vs H Q _ => ∃ (a c : Addr) (n : Nat), vs = [.ref a] ∧ HandAt H a c n ∧ n ≤ 8000 ∧ ∀ H', Drew a c (n + 10) H H' → Q (.bl true) H'
section
variable {P : Program} {w : World} {K : PySem.W.Frag} {mg : Str → Option Value} {base : Heap}
theorem scTwR : FnScope nTwR ["_law_hand_here"] (defScope sTwiceR) := ⟨rfl, rfl, rfl, by decide +kernel, rfl, by decide +kernel, by decide +kernel⟩
theorem ok_twR {f : Addr} {fd : FuncData} (F : Fun K "_law_twice_right" "_law_twice_right" sTwiceR f fd) (GT : Cal P w K mg base "_law_take" 1 ["_law_hand_here", "_law_many"] spTake) (GP : Cal P w K mg base "_law_pick" 2 ["_law_hand_here", "_law_some"] spPick)
    (GW : Cal P w K mg base "first_twice" 1 ["values"] spTwice) (GWK : CalK P w K mg base "first_twice" 1 ["values"] ["values"] id spTwice) (T : TxH mg) : FnOk P w K mg base CX0 3 f fd ["_law_hand_here"] spTwR := by
  refine F.ok scTwR (fun vs H Q E h => ?_) (fun cdv A outer s H vs Q E hr h => ?_)
  · obtain ⟨a, c, n, rfl, _⟩ := h
    rfl
  · obtain ⟨a, c, n, rfl, hH, hn, k⟩ := h
    refine ⟨_, pss_cons (ps_set (i := 1) scTwR.nd rfl (Or.inr rfl) (pe_cal GP hr (by decide) (by rfl) (pa_cons (pv 0) (pa_cons (pe_lst
        (pa_cons (pe_lst (pa_cons pe_int (pa_cons pe_int (pa_cons (pe_un un_neg pe_int) (pa_cons pe_int (pa_cons (pe_op op_pow pe_int pe_int) (pa_cons pe_int pa_nil)))))))
        (pa_cons (pe_lst (pa_cons pe_str (pa_cons pe_str (pa_cons pe_str (pa_cons pe_str (pa_cons pe_str (pa_cons pe_str pa_nil)))))))
        (pa_cons (pe_lst (pa_cons pe_int (pa_cons pe_int (pa_cons pe_int (pa_cons pe_int (pa_cons pe_int (pa_cons pe_int pa_nil))))))) pa_nil)))) pa_nil))))
      (pss_cons (ps_set (i := 2) scTwR.nd rfl (Or.inr rfl) (pe_lc (own := [("_law_turn", 5)]) (g := gName 5) (tt := tYes) rfl scTwR.nd (pi_range1 (by rfl) T.range (pa_cons (pe_cal GT hr (by decide) (by rfl) (pa_cons (pv 0) (pa_cons pe_int pa_nil))) pa_nil))
          (blkOk_by (N := nTwR) (sc := defScope sTwiceR) (by decide +kernel)) (fun _ _ _ _ _ => pg_name (i := 5) scTwR.nd rfl (Or.inl rfl)) (fun _ _ _ _ _ => pts_nil)
          (fun _ _ _ _ _ => pe_cal GP hr (by decide) (by rfl) (pa_cons (pv 0) (pa_cons (pv 1) pa_nil)))))
      (pss_cons (ps_setLc (i := 3) (own := [("_law_at", 6), ("_law_each", 7)]) (g := gTup K 2 (gCons (gName 6) (gCons (gName 7) gNil))) rfl scTwR.nd rfl rfl (sw_true rfl rfl rfl (by decide +kernel)) (pi_enum (by rfl) T.enum (pa_cons (pv 2) pa_nil))
          (blkOk_by (N := nTwR) (sc := defScope sTwiceR) (by decide +kernel)) (fun _ _ _ _ _ => pg_tup (n := 2) rfl (pgs_cons (pg_name (i := 6) scTwR.nd rfl (Or.inl rfl)) (pgs_cons (pg_name (i := 7) scTwR.nd rfl (Or.inl rfl)) pgs_nil)))
          (fun _ _ _ _ _ => pts_one (pt_cmpR (r := rIn K false) op_in_seq (pv 7) (pe_slice (r := rSlL K) sl_list (pv 2) po_none (po_some (pv 6))) (by rfl))) (fun _ _ _ _ _ => pv 7))
      (pss_cons (ps_set (i := 4) scTwR.nd rfl (Or.inl rfl) (pe_ifExp (pt_cmpR (op_neD hr.units) (pv 3) (pe_lst pa_nil) (nomark _)) (pe_ix ix_list (pv 3) pe_int (fun _ _ => rfl)) pe_non))
      (pss_one (ps_ret (pe_and (pe_cmpR op_eq (pe_cal GW hr (by decide) (by rfl) (pa_cons (pv 2) pa_nil)) (pv 4) (nomark _))
        (pe_one (pe_cmpR op_eq (pe_calK GWK hr (by decide) (by rfl) (pk_cons (pe_callTy call_tuple_of (by rfl) T.tuple (by decide +kernel) (pa_cons (pv 2) pa_nil)) pk_nil)) (pv 4) (nomark _))))))))), ?_⟩
    -- the pool
    have e20 : (10 : Int) ^ Int.toNat 20 = 100000000000000000000 := by decide
    refine ⟨_, rfl, _, rfl, _, _, rfl, rfl, ⟨by decide, by decide, by decide⟩, by show 6 ≤ sizeLine; decide, fun p1 hp1 => ?_⟩
    refine ⟨by show 6 ≤ sizeLine; decide, fun p2 hp2 => ⟨by show 6 ≤ sizeLine; decide, fun p3 hp3 => ⟨by show 3 ≤ sizeLine; decide, fun p4 hp4 => ?_⟩⟩⟩
    have D1 := ((((Drew.refl hH).new (o := .lst ([Sum.inl 0, Sum.inl 1, Sum.inl (-1), Sum.inl 7, Sum.inl (10 ^ Int.toNat 20), Sum.inl 2].map kV)) hp1).new (o := .lst ([Sum.inr (Str.ofString "a"), Sum.inr (Str.ofString "b"), Sum.inr (Str.ofString "ab"), Sum.inr (Str.ofString ""), Sum.inr (Str.ofString "ba"), Sum.inr (Str.ofString "a'")].map kV)) hp2).new (o := .lst ([Sum.inl 3, Sum.inl 30, Sum.inl 300, Sum.inl 33, Sum.inl 0, Sum.inl 5].map kV)) hp3).new (o := .lst [.ref p1, .ref p2, .ref p3]) hp4
    have f1 := upd_same (H := H) (a := p1) (o := .lst ([Sum.inl 0, Sum.inl 1, Sum.inl (-1), Sum.inl 7, Sum.inl (10 ^ Int.toNat 20), Sum.inl 2].map kV))
    have f2 := upd_same (H := L2.upd H p1 (.lst ([Sum.inl 0, Sum.inl 1, Sum.inl (-1), Sum.inl 7, Sum.inl (10 ^ Int.toNat 20), Sum.inl 2].map kV))) (a := p2) (o := .lst ([Sum.inr (Str.ofString "a"), Sum.inr (Str.ofString "b"), Sum.inr (Str.ofString "ab"), Sum.inr (Str.ofString ""), Sum.inr (Str.ofString "ba"), Sum.inr (Str.ofString "a'")].map kV))
    have s2 := same_new (o := .lst ([Sum.inr (Str.ofString "a"), Sum.inr (Str.ofString "b"), Sum.inr (Str.ofString "ab"), Sum.inr (Str.ofString ""), Sum.inr (Str.ofString "ba"), Sum.inr (Str.ofString "a'")].map kV)) hp2
    have s3 := same_new (o := .lst ([Sum.inl 3, Sum.inl 30, Sum.inl 300, Sum.inl 33, Sum.inl 0, Sum.inl 5].map kV)) hp3
    have s4 := same_new (o := .lst [.ref p1, .ref p2, .ref p3]) hp4
    have g1 := s4 _ _ (s3 _ _ (s2 _ _ f1))
    have g2 := s4 _ _ (s3 _ _ f2)
    have g3 := s4 _ _ upd_same
    have n1 : p1 ≠ a := hH.ne hp1
    have n2 : p2 ≠ a := (hH.new hp1).ne hp2
    have n3 : p3 ≠ a := ((hH.new hp1).new hp2).ne hp3
    refine ⟨a, c, _, n, rfl, D1.1, by omega, .inl ⟨p4, _, rfl, (((hH.new hp1).new hp2).new hp3).ne hp4, upd_same, (by show 0 < 3; decide), (by show 3 ≤ 1000; decide), ?_⟩⟩
    intro v hv H2 D2
    obtain ⟨p, ks, rfl, hpa, hp, hk0, hk1, hok⟩ : ∃ (p : Addr) (ks : List Key), v = .ref p ∧ p ≠ a ∧ H2 p = some (.lst (ks.map kV)) ∧ 0 < ks.length ∧ ks.length ≤ 6 ∧ ∀ k ∈ ks, okK k := by
      simp only [List.mem_cons, List.mem_nil_iff, or_false] at hv
      rcases hv with rfl | rfl | rfl
      · refine ⟨p1, _, rfl, n1, D2.2 _ _ n1 g1, by decide, by decide, fun k hk => ?_⟩
        simp only [List.mem_cons, List.mem_nil_iff, or_false] at hk
        rcases hk with rfl | rfl | rfl | rfl | rfl | rfl <;> rfl
      · refine ⟨p2, _, rfl, n2, D2.2 _ _ n2 g2, by decide, by decide, fun k hk => ?_⟩
        simp only [List.mem_cons, List.mem_nil_iff, or_false] at hk
        rcases hk with rfl | rfl | rfl | rfl | rfl | rfl <;> (show PyData.strOk _ = true; decide +kernel)
      · refine ⟨p3, [Sum.inl 3, Sum.inl 30, Sum.inl 300, Sum.inl 33, Sum.inl 0, Sum.inl 5], rfl, n3, D2.2 _ _ n3 g3, by decide, by decide, fun k hk => ?_⟩
        simp only [List.mem_cons, List.mem_nil_iff, or_false] at hk
        rcases hk with rfl | rfl | rfl | rfl | rfl | rfl <;> rfl
    have D20 : Drew a c (n + 1) H H2 := ⟨D2.1, D1.2.trans D2.2⟩
    -- some
    refine gn ?_
    dsimp only
    refine sq ?_
    refine as_lc ?_
    refine lc_in ?_
    refine ⟨_, rfl, a, c, 7, n + 1, rfl, D2.1, by omega, by decide, by decide, fun H3 q q0 q1 hH3 hK3 => ?_⟩
    have D30 : Drew a c (n + 1 + 1) H H3 := ⟨hH3, D20.2.trans hK3⟩
    obtain ⟨m, rfl⟩ : ∃ m : Nat, q = (m : Int) := ⟨q.toNat, by omega⟩
    refine ⟨_, rfl, by omega, by omega, ?_⟩
    have em : (((m : Nat) : Int)).toNat = m := Int.toNat_natCast m
    rw [em]
    refine lcd (a := a) (c := c) (n := n + 1 + 1) (m := m) (fun v => ∃ k, v = kV k ∧ okK k) (by omega) hH3 ?_ ?_
    · intro i x H' hi D' Qy ky Qn
      refine ⟨rfl, yes_te ?_⟩
      refine ⟨_, rfl, _, rfl, a, c, _, n + 1 + 1 + i, rfl, D'.1, by omega, .inl ⟨p, _, rfl, hpa, D'.2 _ _ hpa (hK3 _ _ hpa hp), by rw [List.length_map]; exact hk0, by rw [List.length_map]; omega, fun v hv H5 D5 => ?_⟩⟩
      obtain ⟨key, hkm, rfl⟩ := List.mem_map.mp hv
      exact ky _ H5 ⟨key, rfl, hok key hkm⟩ D5
    intro Dl xs H4 hD hl hg hx D4
    obtain ⟨js, rfl, hj⟩ := keys_of hg
    have hjl : js.length = m := by rw [List.length_map] at hl; exact hl
    have D40 := D30.trans D4
    have hH4 := D40.1
    have hjx : js.length ≤ 6 := by omega
    -- again
    refine gn ?_
    dsimp only
    refine sq ?_
    refine as_lc ?_
    refine lc_in ?_
    refine ⟨_, rfl, Dl, js.map kV, rfl, SqL.of hx, ?_⟩
    intro D5 hD5
    refine lc_it (walk_enum (K := K) (a := Dl) (xs := js.map kV)) (fun i H => Same H4 H ∧ ∃ acc : List Key, H D5 = some (.lst (acc.map kV)) ∧ acc.length ≤ i ∧ acc ++ fA (js.take i) (js.drop i) = fA [] js)
      ⟨same_new hD5, [], upd_same, Nat.le_refl _, rfl⟩ (fun i H _ q => SqL.of (q.1 _ _ hx)) ?_ ?_
    · rintro i y H5 H6 hi ⟨s5, acc, ha, hal, hf⟩ ⟨Tt, u1, u2, rfl, hT, rfl, e1, e2⟩
      cases e1
      rw [List.length_map] at hi
      have ej : js[i]? = some js[i] := List.getElem?_eq_getElem hi
      dsimp only at e2
      rw [List.getElem?_map, ej] at e2
      cases e2
      have sT := same_new (o := .tup [.int (i : Nat), kV js[i]]) hT
      refine ⟨Tt, _, rfl, SqT.of upd_same, rfl, _, _, rfl, _, _, rfl, rfl, rfl, ?_⟩
      have hx6 := sT _ _ (s5 _ _ hx)
      refine ⟨_, rfl, _, rfl, _, rfl, _, rfl, Dl, _, rfl, SqL.of hx6, fun p7 hp7 => ?_⟩
      rw [cut_take _ _ (by rw [List.length_map]; omega)]
      rw [← List.map_take]
      have s7 := same_new (o := .lst ((js.take i).map kV)) hp7
      refine ⟨p7, _, rfl, .inl (SqL.of upd_same), (by cases js[i] <;> rfl), keys_flat _, _, rfl, ?_⟩
      show if (if false = true then !inV (kV js[i]) ((js.take i).map kV) else inV (kV js[i]) ((js.take i).map kV)) = true then _ else _
      rw [if_neg Bool.false_ne_true, inV_keys]
      have et : js.take (i + 1) = js.take i ++ [js[i]] := List.take_succ_eq_append_getElem hi
      have ed : js.drop i = js[i] :: js.drop (i + 1) := List.drop_eq_getElem_cons hi
      have ef : fA (js.take i) (js.drop i) = (if memB js[i] (js.take i) = true then [js[i]] else []) ++ fA (js.take (i + 1)) (js.drop (i + 1)) := by
        rw [ed, et]
        rfl
      rw [ef] at hf
      have ha7 := s7 _ _ (sT _ _ ha)
      have s47 : Same H4 (upd (upd H5 Tt (.tup [.int (i : Nat), kV js[i]])) p7 (.lst ((js.take i).map kV))) := fun b o e => s7 b o (sT b o (s5 b o e))
      refine ite2 (fun hm => ?_) (fun hm => ?_)
      · rw [if_pos hm] at hf
        refine ⟨_, rfl, _, ha7, Evl.sz_lt (by rw [List.length_map]; omega), ?_, acc ++ [js[i]], ?_, by rw [List.length_append, List.length_singleton]; omega, by rw [List.append_assoc]; exact hf⟩
        · intro b o e
          rw [upd_ne (ne_of_none e hD5)]
          exact s47 b o e
        · rw [upd_same, List.map_append]
          rfl
      · rw [if_neg hm] at hf
        exact ⟨s47, acc, ha7, by omega, hf⟩
    rintro H5 ⟨s5, acc, ha, hal, hf⟩
    rw [List.length_map, List.take_length, List.drop_length] at hf
    have ea : acc = fA [] js := by rw [← hf]; show acc = acc ++ []; rw [List.append_nil]
    rw [ea] at ha
    have hx5 := s5 _ _ hx
    have D50 := D40.same s5
    have efT : fT (fun _ => false) js = headV (fA [] js) := fT_fA js [] _ fun _ => rfl
    have okA : ((fA [] js).map kV).all okV = true := by
      rw [List.all_map]
      exact List.all_eq_true.mpr fun j hjm => hj j (fA_sub js [] j hjm)
    -- due
    have due : ∀ (σ : L2.St) (H6 : Hp) (Q1 : VK), σ[3]? = some (some (.ref D5)) → H6 D5 = some (.lst ((fA [] js).map kV)) → (∀ H', Same H6 H' → Q1 (headV (fA [] js)) H') →
        tIf (tTest (tOp (rNeD K) (tVar 3) (tLst tNil))) (tOp (rIxL K) (tVar 3) (tC (.int 0))) (tC .non) σ H6 Q1 := by
      intro σ H6 Q1 h3 h6 q
      refine ⟨_, h3, Nat.zero_le _, fun p8 hp8 => ?_⟩
      have s8 := same_new (o := .lst []) hp8
      have h68 := s8 _ _ h6
      refine ⟨_, _, .lst (SqL.of h68) (dpAll_dat (ok_flat okA)), .lst (SqL.of upd_same) .nil, shaped_flat (flat_dat okA), rfl, _, rfl, ?_⟩
      rw [eqv_nil]
      cases hA : fA [] js with
      | nil =>
        rw [hA] at q
        exact iteF (q _ s8)
      | cons k0 r0 =>
        rw [hA] at q h68
        refine iteT ⟨_, h3, D5, _, _, _, rfl, rfl, SqL.of h68, atI_nat (j := 0) rfl, q _ s8⟩
    refine gn ?_
    dsimp only
    refine sq ?_
    refine due _ _ _ rfl ha fun H6 s6 => ?_
    have hx6 := s6 _ _ hx5
    have sc := scal_key (fA [] js)
    refine ⟨_, rfl, _, Dl, js, rfl, rfl, .inl hx6, by omega, fun H7 s7 => ?_⟩
    rw [efT]
    refine ⟨_, rfl, sc, _, rfl, ?_⟩
    rw [decide_eq_true rfl]
    refine iteT ?_
    have hx7 := s7 _ _ hx6
    refine ⟨_, rfl, Dl, _, rfl, .inl ⟨SqL.of hx7, fun l hl => ?_⟩⟩
    have s8 := same_new (o := .tup (js.map kV)) hl
    refine ⟨rfl, _, l, js, rfl, rfl, .inr upd_same, by omega, fun H9 s9 => ?_⟩
    rw [efT]
    refine ⟨_, rfl, sc, ?_⟩
    rw [decide_eq_true rfl]
    exact k _ (((((D50.same s6).same s7).same s8).same s9).mono (by omega))
end
end K01
set_option Elab.async false
set_option linter.all false
set_option maxRecDepth 100000
set_option maxHeartbeats 2000000
namespace PySem
namespace LowX
open PySem.W PySem.Calls PyProof.Rows PySem.HandSPX
/-! ### the text of __init__ -/
def iA (p1 p2 : Pos) : Arguments := { posonlyargs := [], args := [{ arg := "self", annotation := none, pos := p1 }, { arg := "part", annotation := none, pos := p2 }], vararg := none, kwonlyargs := [], kw_defaults := [], kwarg := none, defaults := [] }
def iB (q1 q2 q3 q4 : Pos) : List Stmt := [.Assign [.Attribute (.Name "self" q1) "part" q2] (.Name "part" q3) q4]
def iS : Scope := { kind := .function, names := [(PySem.Str.ofString "self", .local), (PySem.Str.ofString "part", .local)], isGenerator := false, isCoroutine := false, more := [] }
/-- what the written part says of Low, at C, and of its __init__, at fI -/
structure LowTxt (K : Frag) (mg : Str → Option Value) (C fI : Addr) : Prop where
  gC : mg "BadNumber" = some (.ref C)
  cls : ∃ nm q N bs bm sn sub ab col dd k0 k1 k2 k3 k5, K.lookup C = some (excClassObj nm q C N bs bm true sn sub ab col dd k0 k1 k2 k3 k5 "ValueError.__new__") ∧ refsVE bm = true
  sa : findIn K (.ref C) "__setattr__" = some (some (.builtin "object.__setattr__"))
  ga : findIn K (.ref C) "__getattribute__" = some (some (.builtin "BaseException.__getattribute__"))
  gg : findIn K (.ref C) "__getattr__" = some none
  noN : findIn K (.ref C) "part" = some none
  iC : findIn K (.ref C) "__init__" = some (some (.ref fI))
  tC : typeIn K (.ref fI) = some (.type "function")
  kC : keepIn K (.ref C) = true
  exC : subIn K (.ref C) (.type "BaseException") = some true
  tyC : typeIn K (.ref C) = some (.type "type")
  hdC : hasDictIn K C = true
  te : exmOne K (.ref C) (.ref C) = some true
  fn : ∃ (oc : Value) (od : Option Addr) (doc pm : Value) (an : Option Addr) (cdv ct : Value) (osl : Array (Option Value)) (p1 p2 q1 q2 q3 q4 : Pos),
    K.lookup fI = some ⟨oc, od, .func (fnOf "__init__" "BadNumber.__init__" (iA p1 p2) (iB q1 q2 q3 q4) iS .none .none doc pm an cdv ct), osl⟩ ∧ codeIn K cdv "BadNumber.__init__" = true
theorem one_size (v : Value) : [v].length ≤ sizeLine := by
  rw [sizeLine_eq]
  exact (by decide : 1 ≤ 16777216)
theorem kept_but {K : Frag} {h h' : Heap} {x : Addr} (X : K.In h) (hx : K.lookup x = none) (k : ∀ b o, b ≠ x → h.get? b = some o → h'.get? b = some o) : K.In h' := fun a o e =>
  k a o (fun z => by rw [z, hx] at e; cases e) (X a o e)
theorem ldC {M : Model} {s : Shared} {name : Str} {scope : Scope} {L a : Addr} {cd : Value} {m : Str → Option Value} {x : Str} {pos : Pos} {v : Value} {Q : Value → Shared → Prop} {A : Around} {E : Value → Shared → Prop} (hn : s.heap.Ns L m) (hv : m x = some v) (h : Q v s)
    (hk : scope.kind = .function := by rfl) (hl : (envOfC name scope L a cd).kindOf x = some .local := by rfl) (hd : (x == ("__debug__" : Str)) = false := by decide) :
    wpAny M A (eval (.Name x pos) (envOfC name scope L a cd)) Q E s := wpAny_Name (wpAny_loadName_local hk hl hn hv h) hd
/-- what __init__ leaves of a fresh exception at x -/
structure InitEnd (h h' : Heap) (x C dx t1 : Addr) (v : Value) : Prop where
  keep : ∀ b o, b ≠ x → h.get? b = some o → h'.get? b = some o
  obj : h'.get? x = some { cls := .ref C, dict := some dx, data := .fields #[.ref t1, .none, .none, .none, .bool false, .none] }
  dbig : h.objs.size ≤ dx
  dne : dx ≠ x
  ns : h'.Ns1 dx (fun y => if y = "part" then some v else none)
/-- a made Low -/
structure OwnMade (h h' : Heap) (e C d : Addr) (v : Value) : Prop where
  keep : ∀ b o, h.get? b = some o → h'.get? b = some o
  new : h.objs.size ≤ e
  obj : ∃ oe vs, h'.get? e = some oe ∧ oe.cls = .ref C ∧ oe.dict = some d ∧ oe.data = .fields vs ∧ vs[1]? = some .none
  dbig : h.objs.size ≤ d
  dne : d ≠ e
  ns : h'.Ns1 d (fun y => if y = "part" then some v else none)
section
variable {prog : Program} {w : World} {A : Around} {E : Value → Shared → Prop} {R : Result → Shared → Prop} {s : Shared} {K : Frag} {mg : Str → Option Value} {C fI : Addr}
theorem low_init (T : LowTxt K mg C fI) {x t0 : Addr} {v : Value} (X : K.In s.heap) (hlim : s.heap.NoLimit) (hx : s.heap.get? x = some (excO C t0)) (hnx : K.lookup x = none) (hroom : A.depth < recursionLimit)
    (hq : ∀ h' tk dx, InitEnd s.heap h' x C dx t0 v → R (.ok (.ret .none)) { s with heap := h', toks := tk }) :
    codeAny (model prog w) A (.call (.ref fI) ⟨[.ref x, v], []⟩) R s := by
  obtain ⟨oc, od, doc, pm, an, cdv, ct, osl, p1, p2, q1, q2, q3, q4, ho, hcd⟩ := T.fn
  obtain ⟨nm, q, N, bs, bm, sn, sub, ab, col, dd, k0, k1, k2, k3, k5, hC, hbm⟩ := T.cls
  have hcl : clsIn K C = some { name := nm, bases := bs, mro := .ref C :: bm, ns := N, qualname := q, hasDict := true, slotNames := sn, subclasses := sub, abstract := ab, collection := col, hasDel := false } := by unfold clsIn; rw [hC] <;> rfl
  refine Att.call_fn (binds := [("self", .ref x), ("part", v)]) X hlim ho hcd hroom (BindsTo.of_eq (by first | rfl | with_unfolding_all rfl)) (by first | rfl | decide | with_unfolding_all rfl) (fun s₁ IC => ?_) rfl rfl rfl
  obtain ⟨h₁, tk₁, rfl⟩ := IC.toInCall.same
  have k : ∀ b o, s.heap.get? b = some o → h₁.get? b = some o := IC.toInCall.keep
  have hn := IC.toInCall.ns
  have hxL : s.heap.objs.size ≠ x := Nat.ne_of_gt (Heap.lt_size hx)
  have X₁ : K.In h₁ := X.keeps k
  have hx₁ := k _ _ hx
  -- self.by = by
  show wpAny _ _ (execs _ _) _ _ _
  refine wpAny_execs_cons (plainObj_wpAny_Assign_Attribute ?_)
  refine ldC (v := v) hn (by first | rfl | with_unfolding_all rfl | kernel_rfl) (ldC (v := .ref x) hn (by first | rfl | with_unfolding_all rfl | kernel_rfl) ?_)
  refine set_plain X₁ (ox := excO C t0) (od := none) ⟨hx₁, rfl, rfl, trivial⟩ T.sa ?_
  refine exc_osa X₁ hx₁ hcl (show refsVE (.ref C :: bm) = true from hbm) rfl T.noN (fun h₃ tk₃ dx k₃ dn dne hx₃ hn₃ => ?_)
  show wpAny _ _ (execs _ _) _ _ _
  have z : s.heap.objs.size < h₁.objs.size := hn.lt
  exact wpAny_execs_nil (hq h₃ tk₃ dx ⟨fun b o hb e => k₃ b o hb (k b o e), hx₃, Nat.le_of_lt (Nat.lt_of_lt_of_le z dn), dne, hn₃⟩)
theorem low_made (T : LowTxt K mg C fI) {v : Value} (X : K.In s.heap) (hlim : s.heap.NoLimit) (hroom : A.depth + 1 < recursionLimit)
    (hq : ∀ h' tk e d, OwnMade s.heap h' e C d v → R (.ok (.ret (.ref e))) { s with heap := h', toks := tk }) :
    codeAny (model prog w) A (.call (.ref C) ⟨[v], []⟩) R s := by
  obtain ⟨nm, q, N, bs, bm, sn, sub, ab, col, dd, k0, k1, k2, k3, k5, hC, hbm⟩ := T.cls
  obtain ⟨hp, g, dr, tk, os⟩ := s
  have k : ∀ b o, hp.get? b = some o → ((hp.push (kdv_tup [v])).push (excO C hp.objs.size)).get? b = some o := fun b o e => Heap.get?_push_of_some _ (Heap.get?_push_of_some _ e)
  have hget : ((hp.push (kdv_tup [v])).push (excO C hp.objs.size)).get? (hp.objs.size + 1) = some (excO C hp.objs.size) := by heap_get
  have hnx : K.lookup (hp.objs.size + 1) = none := by
    cases e : K.lookup (hp.objs.size + 1) with
    | none => rfl
    | some o =>
      have z : hp.get? (hp.objs.size + 1) = some o := X _ _ e
      exact absurd (Nat.lt_of_succ_lt (Heap.lt_size z)) (Nat.lt_irrefl _)
  refine call_own F.excBase_ValueError (fun X => refsVE_contains X bm hbm) (X _ _ hC) (looks_findIn X T.iC) (fun self => bind_fn X self T.tC) (one_size v) ?_
  refine low_init (s := ⟨(hp.push (kdv_tup [v])).push (excO C hp.objs.size), g, dr, tk, os⟩) T (X.keeps k) (hlim.keeps k) hget hnx ?_ fun h' tk' dx ⟨k', hx, dn, dne, hns⟩ => ?_
  · show A.depth + 1 < recursionLimit
    exact hroom
  · have old : ∀ b o, hp.get? b = some o → h'.get? b = some o := fun b o e => k' b o (Nat.ne_of_lt (Nat.lt_succ_of_lt (Heap.lt_size e))) (k b o e)
    have z : hp.objs.size + 1 + 1 ≤ dx := by
      first
        | (simpa only [Heap.size_push] using dn)
        | exact dn
        | (have q := dn; rw [Heap.size_push, Heap.size_push] at q; exact q)
    exact ⟨rfl, hq h' tk' (hp.objs.size + 1) dx ⟨old, Nat.le_succ _, ⟨_, _, hx, rfl, rfl, rfl, rfl⟩, Nat.le_trans (Nat.le_trans (Nat.le_succ _) (Nat.le_succ _)) z, dne, hns⟩⟩
end
end LowX
end PySem
namespace L2
open PySem PySem.Spec PyProof.Rows
theorem relO_low {v : V} {v' : Value} (r : RelV v v') (f : Str) : RelO (List.lookup f [(("part" : Str), v)]) (if f = "part" then some v' else none) := by
  by_cases hw : f = "part"
  · subst hw
    rw [if_pos rfl]
    have q : List.lookup ("part" : Str) [(("part" : Str), v)] = some v := by simp [List.lookup]
    rw [q]
    exact r
  · rw [if_neg hw]
    have qw : (f == ("part" : Str)) = false := by simpa using hw
    have q2 : List.lookup f [(("part" : Str), v)] = none := by simp [List.lookup, qw]
    rw [q2]
    trivial
section
variable {X : Cx} {C fI : Addr}
/-- Low(e) -/
def tMkLow (C : Addr) (ta : TA) : St → Hp → XK → Prop := fun σ H Q => ta σ H fun vs H1 => ∃ v, vs = [v] ∧ ∀ d, H1 d = none → Q (.ref C) (some d) (upd H1 d (.xd [(("part" : Str), v)]))
theorem pmk_low {a : Expr} {ta : TA} {p pos : Pos} {k : Nat} (T : PySem.LowX.LowTxt X.K X.mg C fI) (hr : Room k X.A) (ha : PA X [a] ta) (hg : Gl X "BadNumber" := by rfl)
    (he : starEach (a :: []) X.env = (false, eval a X.env) :: starEach [] X.env := by rfl) (hpl : (backTo pos (starEach [] X.env)).any (·.1) = false := by rfl) :
    PMk X (.Call (.Name "BadNumber" p) [a] [] pos) (tMkLow C ta) := by
  intro pins s σ H Q I h
  refine wpAny_Call_Name_kw (ld_glob I hg T.gC ?_)
  refine PySem.W.callWith_K (h₀ := X.base) I.ok.mod.kin T.kC (thn (ha.run pos pins s σ H _ I h) fun us s1 hh => ?_) he hpl
  obtain ⟨vs, H1, I1, r1, v, ev, q1⟩ := hh
  subst ev
  refine ⟨I1.kIn, ?_⟩
  cases r1 with
  | cons rv rn =>
    rename_i v' us'
    cases rn
    show wpAny _ _ (call (.ref C) [v']) _ _ _
    have hlim := I1.nolimit
    obtain ⟨hp, g, dr, tk, os⟩ := s1
    refine wpAny_call (PySem.LowX.low_made T I1.kIn hlim (by have := hr.dp; omega) fun h' tk' e d M => ?_)
    show MkP X pins σ Q (.ref e) ⟨h', g, dr, tk', os⟩
    obtain ⟨oe, fv, hoe, hc, hd, hdat, h1⟩ := M.obj
    have hns := M.ns
    obtain ⟨G', g1, g2⟩ := restrict h' fun b => decide (b ≠ e)
    have gk : ∀ b, b ≠ e → G'.get? b = h'.get? b := fun b hb => g1 b (decide_eq_true hb)
    have ge : G'.get? e = none := g2 e (by simp)
    have old : ∀ b o, hp.get? b = some o → G'.get? b = some o := fun b o q => (gk b (Nat.ne_of_lt (Nat.lt_of_lt_of_le (Heap.lt_size q) M.new))).trans (M.keep b o q)
    have ob : ObjOk X.prog X.w (upd H1 d (.xd [(("part" : Str), v)])) G' d (.xd [(("part" : Str), v)]) :=
      ⟨_, hns.at (fun o q => (gk d M.dne).trans q), fun f => relO_low rv f⟩
    have J : Inv X pins σ (upd H1 d (.xd [(("part" : Str), v)])) ⟨G', g, dr, tk', os⟩ := I1.laid (t' := tk') old M.dbig ob
    refine ⟨e, oe, fv, ⟨G', g, dr, tk', os⟩, _, .ref C, some d, rfl, J, fun b o q => ?_, ge, hoe, ⟨hc, hd⟩, hdat, h1, ?_, rfl, I1.bare, raises_own T.exC T.tyC, q1 d (I1.hok.fresh M.dbig)⟩
    · by_cases hb : b = e
      · have q' : G'.get? b = some o := q
        rw [hb, ge] at q'; cases q'
      · exact (gk b hb).symm.trans q
    · rw [upd_ne (Ne.symm M.dne)]
      exact I1.hok.fresh M.new
/-- raise Low(e) -/
def tRaiseLow (C : Addr) (W : WX) (ta : TA) : TS := fun _ σ H => tMkLow C ta σ H fun cls d H' => W cls d σ H'
theorem ps_raiseLow {a : Expr} {ta : TA} {W : WX} {p pos pos2 : Pos} {k : Nat} (hc : X.calm = true) (T : PySem.LowX.LowTxt X.K X.mg C fI) (hr : Room k X.A) (tk : Takes X W) (ha : PA X [a] ta) (hg : Gl X "BadNumber" := by rfl)
    (he : starEach (a :: []) X.env = (false, eval a X.env) :: starEach [] X.env := by rfl) (hpl : (backTo pos (starEach [] X.env)).any (·.1) = false := by rfl) :
    PS X (.Raise (some (.Call (.Name "BadNumber" p) [a] [] pos)) none pos2) (tRaiseLow C W ta) := ps_raise hc tk (pmk_low T hr ha hg he hpl)
/-- low.by, low the exception that the suite holds (at a; its class cls, its dict d) -/
def tByLow (C : Addr) (a : Addr) (cls : Value) (d : Option Addr) (te : TE) : TE := fun σ H Q => te σ H fun x H1 => x = .ref a ∧ cls = .ref C ∧ ∃ (dd : Addr) (v : V), d = some dd ∧ H1 dd = some (.xd [(("part" : Str), v)]) ∧ Q v H1
theorem pe_byLow {a : Addr} {oe : Obj} {cls : Value} {d : Option Addr} {pn : List (Addr × Obj)} {e : Expr} {te : TE} {pos : Pos} (T : PySem.LowX.LowTxt X.K X.mg C fI) (hz : Zc cls d oe) (hf : ∃ vs, oe.data = .fields vs) (he : PE (X.suite a ((a, oe) :: pn)) e te)
    (hb : attributeBase e "part" X.env (eval e X.env) = eval e X.env := by rfl) :
    PE (X.suite a ((a, oe) :: pn)) (.Attribute e "part" pos) (tByLow C a cls d te) := by
  refine ⟨fun pins s σ H Q I h => ?_⟩
  refine attr_of hb (thn (he.run pins s σ H _ I h) fun u s1 hh => ?_)
  obtain ⟨x, H1, I1, rx, ex, ec, dd, v, ed, ea, q⟩ := hh
  subst ex
  obtain rfl : u = Value.ref a := rx
  subst ec
  subst ed
  obtain ⟨ha, _⟩ := I1.pin (a, oe) (List.mem_append_left _ List.mem_cons_self)
  obtain ⟨vs, hd⟩ := hf
  have hx : ObjOk X.prog X.w H1 s1.heap dd (.xd [(("part" : Str), v)]) := I1.hok dd _ ea
  obtain ⟨mA, hns, hr⟩ := hx
  obtain ⟨od, ho, hl⟩ := lookIn_ns hns
  have l : List.lookup ("part" : Str) [(("part" : Str), v)] = some v := by simp [List.lookup]
  obtain ⟨u, hu, ru⟩ := RelO.some_of (v := v) (o := mA "part") (by rw [← l]; exact hr "part")
  have J : PySem.W.InstAt s1.heap a oe C (some od) := ⟨ha, hz.1, by unfold PySem.W.notCls; rw [hd] <;> rfl, by rw [hz.2]; exact ho⟩
  exact HandSPX.exc_get I1.kIn J T.ga T.gg T.exC (PySem.W.findObj_own T.hdC T.noN rfl (by rw [hl, hu])) (handed_of ru) ⟨v, H1, I1.tok _, ru, q⟩
end
end L2


namespace K01
open PySem L2 PySem.Spec PyProof.Rows
/-! ### // by any divisor that is not too great -/
def CDivZ (_ j : Int) : Prop := j ≠ 0 ∧ j.natAbs.log2 < 9000
theorem op_fdivZ {X : Cx} : OpR X (binaryOp .FloorDiv) (rI CDivZ fun i j => .int (i.fdiv j)) := opI fun i j _ _ _ _ _ hc q => floordiv_int hc.1 q (.inl (PyProof.noPylong_of_log2 hc.2))
def gcdI (a b : Int) : Int := ((Nat.gcd a.natAbs b.natAbs : Nat) : Int)
def lowD (t b : Int) : Int := if b < 0 then -gcdI t b else gcdI t b
def spDivI : Sp := fun vs H Q _ => ∃ a b : Int, vs = [.int a, .int b] ∧ Q (.int (gcdI a b)) H
def spLowI : Sp := fun vs H Q _ => ∃ t b : Int, vs = [.int t, .int b] ∧ b ≠ 0 ∧ b.natAbs < 2 ^ 8000 ∧ ∀ p, H p = none → Q (.ref p) (upd H p (.tup [.int (t.fdiv (lowD t b)), .int (b.fdiv (lowD t b))]))
theorem gcd_pos {t b : Int} (h : b ≠ 0) : 0 < gcdI t b := by
  have : 0 < Nat.gcd t.natAbs b.natAbs := Nat.gcd_pos_of_pos_right _ (by omega)
  unfold gcdI
  omega
theorem gcd_le {t b : Int} (h : b ≠ 0) : (gcdI t b).natAbs ≤ b.natAbs := by
  have : Nat.gcd t.natAbs b.natAbs ≤ b.natAbs := Nat.gcd_le_right _ (by omega)
  unfold gcdI
  rw [Int.natAbs_natCast]
  exact this
theorem lowD_abs (t b : Int) : (lowD t b).natAbs = (gcdI t b).natAbs := by
  unfold lowD
  split
  · rw [Int.natAbs_neg]
  · rfl
theorem lowD_ok {t b : Int} (h : b ≠ 0) (hb : b.natAbs < 2 ^ 8000) : CDivZ t (lowD t b) := by
  have h1 := gcd_pos (t := t) h
  have h2 := gcd_le (t := t) h
  refine ⟨?_, ?_⟩
  · intro e
    have e2 := lowD_abs t b
    rw [e] at e2
    omega
  · rw [lowD_abs]
    exact Nat.lt_of_lt_of_le (PySem.Flt.log2_lt_of (by decide) (Nat.lt_of_le_of_lt h2 hb)) (by decide)
structure TxJ (mg : Str → Option Value) : Prop where
  gcd : mg "gcd" = some (.builtin "math.gcd")
section
variable {P : Program} {w : World} {K : PySem.W.Frag} {mg : Str → Option Value} {base : Heap}
theorem scDivisor : FnScope ["one", "other"] ["one", "other"] (defScope sDivisor) := ⟨rfl, rfl, rfl, by decide +kernel, rfl, by decide +kernel, by decide +kernel⟩
theorem ok_divI {f : Addr} {fd : FuncData} (F : Fun K "common_divisor" "common_divisor" sDivisor f fd) (GI : Cal P w K mg base "is_integer" 1 ["value"] spIsInt) (T : TxJ mg) : FnOk P w K mg base CX0 2 f fd ["one", "other"] spDivI := by
  refine F.ok scDivisor (fun vs H Q E h => ?_) (fun cdv A outer s H vs Q E hr h => ?_)
  · obtain ⟨a, b, rfl, _⟩ := h
    rfl
  · obtain ⟨a, b, rfl, k⟩ := h
    refine ⟨_, pss_cons (ps_if (pt_not (pt_val (pe_cal GI hr (by decide) (by rfl) (pa_cons (pv 0) pa_nil)))) (pss_one ps_never) pss_nil)
      (pss_cons (ps_if (pt_not (pt_val (pe_cal GI hr (by decide) (by rfl) (pa_cons (pv 1) pa_nil)))) (pss_one ps_never) pss_nil)
      (pss_one (ps_ret (pe_callBfun cr_gcd (by rfl) T.gcd (pa_cons (pv 0) (pa_cons (pv 1) pa_nil)))))), ?_⟩
    refine ⟨_, rfl, _, _, rfl, .int a, _, rfl, iteF ⟨_, rfl, _, _, rfl, .int b, _, rfl, iteF ?_⟩⟩
    exact ⟨_, rfl, _, rfl, a, b, rfl, k⟩
theorem scLowest : FnScope ["top", "bottom", "divisor"] ["top", "bottom"] (defScope sLowest) := ⟨rfl, rfl, rfl, by decide +kernel, rfl, by decide +kernel, by decide +kernel⟩
theorem ok_lowI {f : Addr} {fd : FuncData} (F : Fun K "lowest" "lowest" sLowest f fd) (GI : Cal P w K mg base "is_integer" 1 ["value"] spIsInt) (T : TxJ mg) : FnOk P w K mg base CX0 2 f fd ["top", "bottom"] spLowI := by
  refine F.ok scLowest (fun vs H Q E h => ?_) (fun cdv A outer s H vs Q E hr h => ?_)
  · obtain ⟨a, b, rfl, _⟩ := h
    rfl
  · obtain ⟨t, b, rfl, hb0, hb, k⟩ := h
    refine ⟨_, pss_cons (ps_if (pt_not (pt_val (pe_cal GI hr (by decide) (by rfl) (pa_cons (pv 0) pa_nil)))) (pss_one ps_never) pss_nil)
      (pss_cons (ps_if (PW.pt (pw_or (pt_not (pt_val (pe_cal GI hr (by decide) (by rfl) (pa_cons (pv 1) pa_nil)))) (pw_or1 (pt_cmpR op_eq (pv 1) pe_int (nomark _))))) (pss_one ps_never) pss_nil)
      (pss_cons (ps_set (i := 2) scLowest.nd rfl (Or.inl rfl) (pe_callBfun cr_gcd (by rfl) T.gcd (pa_cons (pv 0) (pa_cons (pv 1) pa_nil))))
      (Evl.pss_cut (ps_if (pt_cmpR op_lt (pv 1) pe_int (nomark _)) (pss_one (ps_set (i := 2) scLowest.nd rfl (Or.inl rfl) (pe_un un_neg (pv 2)))) pss_nil)
      (pss_one (ps_ret (pe_tup (pa_cons (pe_op op_fdivZ (pv 0) (pv 2)) (pa_cons (pe_op op_fdivZ (pv 1) (pv 2)) pa_nil)))))))), ?_⟩
    refine ⟨_, rfl, _, _, rfl, .int t, _, rfl, iteF ⟨_, rfl, _, _, rfl, .int b, _, rfl, iteF ⟨_, rfl, rfl, _, rfl, ?_⟩⟩⟩
    have hne : decide (V.int b = V.int 0) = false := decide_eq_false fun e => hb0 (by injection e)
    rw [hne]
    refine iteF ⟨_, rfl, _, rfl, t, b, rfl, ?_⟩
    refine ⟨fun σ' H' => σ' = [some (.int t), some (.int b), some (.int (lowD t b))] ∧ H' = H, ?_, ?_⟩
    · refine ⟨_, rfl, _, _, rfl, rfl, _, rfl, ?_⟩
      by_cases h0 : b < 0
      · rw [decide_eq_true h0]
        refine iteT ⟨_, rfl, _, rfl, ?_⟩
        have e : lowD t b = -gcdI t b := if_pos h0
        rw [e]
        exact ⟨rfl, rfl⟩
      · rw [decide_eq_false h0]
        have e : lowD t b = gcdI t b := if_neg h0
        rw [e]
        exact iteF ⟨rfl, rfl⟩
    · rintro σ' H' ⟨rfl, rfl⟩
      refine ⟨_, rfl, _, rfl, _, _, rfl, rfl, lowD_ok hb0 hb, _, rfl, _, rfl, _, _, rfl, rfl, lowD_ok hb0 hb, by show 2 ≤ sizeLine; decide, fun p hp => ?_⟩
      exact k p hp
end
end K01
set_option Elab.async false
set_option linter.all false
set_option maxRecDepth 100000
set_option maxHeartbeats 2000000
namespace K01
open PySem L2 PySem.Spec PyProof.Rows
/-! ### what is refused -/
abbrev Bad (C : Addr) (E : XK) (H : Hp) (z : Str) : Prop := ∀ H1, Same H H1 → ∀ d, H1 d = none → E (.ref C) (some d) (L2.upd H1 d (.xd [(("part" : Str), .str z)]))
def spDivX (C : Addr) : Sp := fun vs H _ E => ∃ (x y : V) (t u : String), vs = [x, y] ∧ Typ H x t ∧ Typ H y u ∧ ((isI x = false ∧ Bad C E H "one") ∨ (isI x = true ∧ isI y = false ∧ Bad C E H "other"))
def spLowX (C : Addr) : Sp := fun vs H _ E => ∃ (x y : V) (t u : String), vs = [x, y] ∧ Typ H x t ∧ Typ H y u ∧ ((isI x = false ∧ Bad C E H "top") ∨ (isI x = true ∧ (isI y = false ∨ y = .int 0) ∧ Bad C E H "bottom"))
theorem int_of {x : V} (h : isI x = true) : ∃ i, x = .int i := by
  cases x with
  | int i => exact ⟨i, rfl⟩
  | _ => exact absurd h Bool.false_ne_true
structure CalX (P : Program) (w : World) (K : PySem.W.Frag) (mg : Str → Option Value) (base : Heap) (x : Str) (k : Nat) (ps : List Str) (sp : Sp) : Prop where
  ex : ∃ (f : Addr) (fd : FuncData), FnOk P w K mg base (L2.CX P w) k f fd ps sp ∧ mg x = some (.ref f) ∧ PySem.W.keepIn K (.ref f) = true ∧ Binds K fd ps []
section
variable {P : Program} {w : World} {K : PySem.W.Frag} {mg : Str → Option Value} {base : Heap} {C fI : Addr}
theorem ok_divX {f : Addr} {fd : FuncData} (F : Fun K "common_divisor" "common_divisor" sDivisor f fd) (GI : Cal P w K mg base "is_integer" 1 ["value"] spIsInt) (T : PySem.LowX.LowTxt K mg C fI) : FnOk P w K mg base (L2.CX P w) 3 f fd ["one", "other"] (spDivX C) := by
  refine F.okX scDivisor (fun vs H Q E h => ?_) (fun cdv A outer s H vs Q E hr h => ?_)
  · obtain ⟨x, y, t, u, rfl, _⟩ := h
    rfl
  · obtain ⟨x, y, t, u, rfl, ht, hu, h⟩ := h
    refine ⟨_, pss_cons (ps_if (pt_not (pt_val (pe_cal GI hr (by decide) (by rfl) (pa_cons (pv 0) pa_nil)))) (pss_one (ps_raiseLow rfl T hr (takes_of rfl rfl rfl rfl) (by exact (pa_cons pe_str pa_nil)))) pss_nil)
      (pss_cons (ps_if (pt_not (pt_val (pe_cal GI hr (by decide) (by rfl) (pa_cons (pv 1) pa_nil)))) (pss_one (ps_raiseLow rfl T hr (takes_of rfl rfl rfl rfl) (by exact (pa_cons pe_str pa_nil)))) pss_nil)
      (pss_one ps_never)), ?_⟩
    refine ⟨_, rfl, x, t, rfl, ht, _, rfl, ?_⟩
    rcases h with ⟨hx, k⟩ | ⟨hx, hy, k⟩
    · rw [hx]
      exact iteT ⟨_, rfl, fun d hd => k H (fun _ _ e => e) d hd⟩
    · rw [hx]
      refine iteF ⟨_, rfl, y, u, rfl, hu, _, rfl, ?_⟩
      rw [hy]
      exact iteT ⟨_, rfl, fun d hd => k H (fun _ _ e => e) d hd⟩
theorem ok_lowX {f : Addr} {fd : FuncData} (F : Fun K "lowest" "lowest" sLowest f fd) (GI : Cal P w K mg base "is_integer" 1 ["value"] spIsInt) (T : PySem.LowX.LowTxt K mg C fI) : FnOk P w K mg base (L2.CX P w) 3 f fd ["top", "bottom"] (spLowX C) := by
  refine F.okX scLowest (fun vs H Q E h => ?_) (fun cdv A outer s H vs Q E hr h => ?_)
  · obtain ⟨x, y, t, u, rfl, _⟩ := h
    rfl
  · obtain ⟨x, y, t, u, rfl, ht, hu, h⟩ := h
    refine ⟨_, pss_cons (ps_if (pt_not (pt_val (pe_cal GI hr (by decide) (by rfl) (pa_cons (pv 0) pa_nil)))) (pss_one (ps_raiseLow rfl T hr (takes_of rfl rfl rfl rfl) (by exact (pa_cons pe_str pa_nil)))) pss_nil)
      (pss_cons (ps_if (PW.pt (pw_or (pt_not (pt_val (pe_cal GI hr (by decide) (by rfl) (pa_cons (pv 1) pa_nil)))) (pw_or1 (pt_cmpR op_eq (pv 1) pe_int (nomark _))))) (pss_one (ps_raiseLow rfl T hr (takes_of rfl rfl rfl rfl) (by exact (pa_cons pe_str pa_nil)))) pss_nil)
      (pss_cons ps_never (pss_cons ps_never (pss_one ps_never)))), ?_⟩
    refine ⟨_, rfl, x, t, rfl, ht, _, rfl, ?_⟩
    rcases h with ⟨hx, k⟩ | ⟨hx, hy, k⟩
    · rw [hx]
      exact iteT ⟨_, rfl, fun d hd => k H (fun _ _ e => e) d hd⟩
    · rw [hx]
      refine iteF ⟨_, rfl, y, u, rfl, hu, _, rfl, ?_⟩
      rcases hy with hy | rfl
      · rw [hy]
        exact iteT (iteT ⟨_, rfl, fun d hd => k H (fun _ _ e => e) d hd⟩)
      · refine iteF ⟨_, rfl, rfl, _, rfl, iteT ⟨_, rfl, fun d hd => k H (fun _ _ e => e) d hd⟩⟩
end
/-! ### the def that hears what a call refuses -/
def THeard (C : Addr) : (XK → Hp → VK → Prop) → Hp → VK → Prop := fun tl H Q =>
  tl (fun cls d H' => cls = .ref C ∧ ∃ (dd : Addr) (v : V), d = some dd ∧ H' dd = some (.xd [(("part" : Str), v)]) ∧ Q v H') H (fun _ H' => Q .non H')
theorem takes_len {X : Cx} {W : WX} (t : Takes X W) : Takes X (fun cls d σ H => σ.length = X.N.length → W cls d σ H) := fun u s' ⟨a, B, sI, pins, σ, H, cls, d, e, I, nb, up, sky, na, os, ag, w⟩ =>
  t u s' ⟨a, B, sI, pins, σ, H, cls, d, e, I, nb, up, sky, na, os, ag, w I.len⟩
abbrev nHeard : List Str := ["_law_ask", "error"]
theorem scHeard : FnScope nHeard ["_law_ask"] (defScope sHeard) := ⟨rfl, rfl, rfl, by decide +kernel, rfl, by decide +kernel, by decide +kernel⟩
theorem heard_gives {X : Cx} {g C fI : Addr} {cdg : Value} {q : Str} (T : PySem.LowX.LowTxt X.K X.mg C fI) : LamX.GivesTo X nHeard "_law_heard" (defScope sHeard) g cdg (defBody sHeard) "_law_ask" q (THeard C) := by
  intro f c' s H Q tl act hc h
  refine ⟨_, pss_cons (ps_try_as (X := (cxOf C8.CX0 X.prog X.w X.K X.mg X.base nHeard "_law_heard" (defScope sHeard) g cdg X.A X.stack s H C8.E0).nox) (i := 1) (c := .ref C)
      (tb := fun W D σ H => ∃ Ech : XK, (∀ cls d σ' H', Ech cls d H' → σ'.length = 2 → W cls d σ' H') ∧ σ[0]? = some (some (.ref f)) ∧ H c' = some (LamX.CodeO c' q) ∧ tl Ech H (fun _ H' => D.nx σ H'))
      (ts := fun a cls d => tRet (tByLow C a cls d (tVar 1)))
      rfl rfl scHeard.nd rfl rfl ⟨rfl, by decide, .inl T.gC⟩ LamX.takes0 (fun W pn xe tk _ => ?_) (fun a oe cls d pn hz hf => pss_one (ps_ret (pe_byLow T hz hf (pv 1))))) (pss_one (ps_ret pe_non)), ?_⟩
  · refine ⟨fun pins s' σ H' D I h' => ?_⟩
    obtain ⟨Ech, hW, h1, h2, h3⟩ := h'
    exact (pss_one (ps_expr (act _ pn xe Ech _ _ (takes_len tk) (fun cls d σ' H' h hl => hW cls d σ' H' h hl)))).run pins s' σ H' D I ⟨h1, h2, h3⟩
  · refine ⟨_, fun cls d σ' H' h1 h2 => ?_, rfl, hc, h⟩
    obtain ⟨rfl, dd, v, rfl, h3, h4⟩ := h1
    refine ⟨true, T.te, fun _ a ha => ?_, fun z => Bool.noConfusion z⟩
    refine ⟨_, ?_, rfl, rfl, dd, v, rfl, h3, h4⟩
    match σ', h2 with
    | [_, _], _ => rfl
end K01
set_option Elab.async false
set_option linter.all false
set_option maxRecDepth 100000
set_option maxHeartbeats 2000000
namespace K01
open PySem L2 PySem.Spec PyProof.Rows
/-! ### the greatest common divisor as the last of all -/
theorem gcd_swap (o p : Int) : gcdI p (-o) = gcdI o p := by
  unfold gcdI
  rw [Int.natAbs_neg, Nat.gcd_comm]
theorem gcd_self (o : Int) : gcdI o o = if o < 0 then -o else o := by
  unfold gcdI
  rw [Nat.gcd_self]
  split <;> omega
theorem gcd_zero (p : Int) : gcdI 0 p = if p < 0 then -p else p := by
  unfold gcdI
  rw [Int.natAbs_zero, Nat.gcd_zero_left]
  split <;> omega
theorem gcd_dvd_l (o p : Int) : gcdI o p ∣ o := by
  unfold gcdI
  exact Int.dvd_trans (Int.natCast_dvd_natCast.mpr (Nat.gcd_dvd_left _ _)) (Int.natAbs_dvd.mpr (Int.dvd_refl _))
theorem gcd_dvd_r (o p : Int) : gcdI o p ∣ p := by
  unfold gcdI
  exact Int.dvd_trans (Int.natCast_dvd_natCast.mpr (Nat.gcd_dvd_right _ _)) (Int.natAbs_dvd.mpr (Int.dvd_refl _))
def comm (o p : Int) (e : Int) : Bool := decide (o % e = 0) && decide (p % e = 0)
def ups (n : Nat) : List Int := (List.range n).map fun (i : Nat) => 1 + (i : Int)
theorem last_filter (f : Int → Bool) : ∀ (n : Nat) (g : Int), 1 ≤ g → g ≤ (n : Int) → f g = true → (∀ e, g < e → e ≤ (n : Int) → f e = false) → ∃ l, (ups n).filter f = l ++ [g]
  | 0, g, h1, h2, _, _ => by omega
  | n + 1, g, h1, h2, h3, h4 => by
    have e : ups (n + 1) = ups n ++ [1 + (n : Int)] := by
      unfold ups
      rw [List.range_succ, List.map_append]
      rfl
    rw [e, List.filter_append]
    by_cases hg : g = 1 + (n : Int)
    · refine ⟨(ups n).filter f, ?_⟩
      rw [← hg, List.filter_cons, if_pos h3]
      rfl
    · have hl := h4 (1 + (n : Int)) (by omega) (by omega)
      rw [List.filter_cons, if_neg (by rw [hl]; decide)]
      obtain ⟨l, hl2⟩ := last_filter f n g h1 (by omega) h3 fun e he1 he2 => h4 e he1 (by omega)
      exact ⟨l, by rw [hl2]; simp⟩
theorem last_gcd {o p : Int} (h : ¬ (o = 0 ∧ p = 0)) (n : Nat) (hn : (n : Int) = (if o < 0 then -o else o) + (if p < 0 then -p else p)) : ∃ l, (ups n).filter (comm o p) = l ++ [gcdI o p] := by
  have hd1 := gcd_dvd_l o p
  have hd2 := gcd_dvd_r o p
  have hpos : 0 < gcdI o p := by
    have : 0 < Nat.gcd o.natAbs p.natAbs := Nat.pos_of_ne_zero fun e => by
      have := Nat.gcd_eq_zero_iff.mp e
      omega
    unfold gcdI
    omega
  refine last_filter (comm o p) n (gcdI o p) (by omega) ?_ ?_ ?_
  · rw [hn]
    by_cases ho : o = 0
    · have hp0 : p ≠ 0 := fun e => h ⟨ho, e⟩
      have := gcd_le (t := o) hp0
      split <;> split <;> omega
    · have hle : Nat.gcd o.natAbs p.natAbs ≤ o.natAbs := Nat.gcd_le_left _ (by omega)
      have : gcdI o p ≤ (o.natAbs : Int) := by unfold gcdI; omega
      split <;> split <;> omega
  · unfold comm
    rw [decide_eq_true (Int.emod_eq_zero_of_dvd hd1), decide_eq_true (Int.emod_eq_zero_of_dvd hd2)]
    rfl
  · intro e he _
    cases hc : comm o p e with
    | false => rfl
    | true =>
      exfalso
      unfold comm at hc
      rw [Bool.and_eq_true] at hc
      have h1 := Int.dvd_of_emod_eq_zero (of_decide_eq_true hc.1)
      have h2 := Int.dvd_of_emod_eq_zero (of_decide_eq_true hc.2)
      have h3 : e.natAbs ∣ Nat.gcd o.natAbs p.natAbs := Nat.dvd_gcd (Int.natAbs_dvd_natAbs.mpr h1) (Int.natAbs_dvd_natAbs.mpr h2)
      have hgp : 0 < Nat.gcd o.natAbs p.natAbs := by unfold gcdI at hpos; omega
      have h4 := Nat.le_of_dvd hgp h3
      unfold gcdI at he
      omega
/-! ### fractions in lowest terms -/
theorem fdiv_exact {d k : Int} (hd : d ≠ 0) : (d * k).fdiv d = k := Int.mul_fdiv_cancel_left k hd
theorem lowD_ne {t b : Int} (h : b ≠ 0) : lowD t b ≠ 0 := fun e => by
  have h1 := gcd_pos (t := t) h
  have h2 := lowD_abs t b
  rw [e] at h2
  omega
theorem lowD_dvd (t b : Int) : lowD t b ∣ t ∧ lowD t b ∣ b := by
  unfold lowD
  split
  · exact ⟨(Int.neg_dvd).mpr (gcd_dvd_l t b), (Int.neg_dvd).mpr (gcd_dvd_r t b)⟩
  · exact ⟨gcd_dvd_l t b, gcd_dvd_r t b⟩
theorem pos_right {x y : Int} (hx : 0 < x) (h : 0 < x * y) : 0 < y := by
  rcases Int.lt_trichotomy y 0 with h1 | h1 | h1
  · have := Int.mul_neg_of_pos_of_neg hx h1
    omega
  · rw [h1, Int.mul_zero] at h
    omega
  · exact h1
theorem low_exact {t b : Int} (h : b ≠ 0) : ∃ k l, t = lowD t b * k ∧ b = lowD t b * l ∧ t.fdiv (lowD t b) = k ∧ b.fdiv (lowD t b) = l ∧ 0 < l ∧ l * gcdI t b = (if b < 0 then -b else b) := by
  obtain ⟨⟨k, hk⟩, ⟨l, hl⟩⟩ := lowD_dvd t b
  have hd := lowD_ne (t := t) h
  have hg := gcd_pos (t := t) h
  refine ⟨k, l, hk, hl, ?_, ?_, ?_, ?_⟩
  · generalize lowD t b = d at *
    subst hk
    exact fdiv_exact hd
  · generalize lowD t b = d at *
    subst hl
    exact fdiv_exact hd
  · unfold lowD at hl
    split at hl
    · rename_i hb
      have e : b = -(gcdI t b * l) := by rw [Int.neg_mul] at hl; exact hl
      have : 0 < gcdI t b * l := by omega
      exact pos_right hg this
    · rename_i hb
      have : 0 < gcdI t b * l := by omega
      exact pos_right hg this
  · unfold lowD at hl
    split at hl
    · rename_i hb
      have e : b = -(gcdI t b * l) := by rw [Int.neg_mul] at hl; exact hl
      rw [if_pos hb, Int.mul_comm]
      omega
    · rename_i hb
      rw [if_neg hb, Int.mul_comm]
      omega
end K01
set_option Elab.async false
set_option linter.all false
set_option maxRecDepth 100000
set_option maxHeartbeats 4000000
namespace K01
open PySem L2 PySem.Spec PyProof.Rows
/-! ### a def that makes lambdas: its own code object is at c -/
structure FunC (K : PySem.W.Frag) (x : Str) (st : Stmt) (f c : Addr) (fd : FuncData) : Prop where
  ex : ∃ (oc : Value) (od : Option Addr) (kV doc pm : Value) (an : Option Addr) (ct : Value) (osl : Array (Option Value)),
    fd = PySem.W.fnOf x x (defArgs st) (defBody st) (defScope st) .none kV doc pm an (.ref c) ct ∧ K.lookup f = some ⟨oc, od, .func fd, osl⟩ ∧ PySem.W.codeIn K (.ref c) x = true
theorem FunC.ok {P : Program} {w : World} {K : PySem.W.Frag} {mg : Str → Option Value} {base : Heap} {x : Str} {st : Stmt} {f c : Addr} {fd : FuncData} {N ps : List Str} {k : Nat} {sp : Sp} (F : FunC K x st f c fd) (S : FnScope N ps (defScope st))
    (len : ∀ vs H Q E, sp vs H Q E → vs.length = ps.length)
    (body : ∀ (A : Around) (outer : List Env) (s : Shared) (H : Hp) (vs : List V) (Q : VK) (E : XK), Room k (A.deeper (envOfC x (defScope st) s.heap.objs.size f (.ref c))) → sp vs H Q E →
      ∃ t, PSs (cxOf CX0 P w K mg base N x (defScope st) f (.ref c) A outer s H E).nox (defBody st) t ∧ t { nx := fun _ H' => Q .non H', rt := Q } (L2.start N vs) H) : FnOk P w K mg base CX0 (k + 1) f fd ps sp := by
  obtain ⟨oc, od, kV, doc, pm, an, ct, osl, rfl, lk, cd⟩ := F.ex
  refine fn_of lk cd S len fun A outer s H vs Q E room asked => ?_
  obtain ⟨t, ht, hq⟩ := body A outer s H vs Q E room asked
  exact ⟨t, ht.nox, hq⟩
/-- what the module has written of the def that hears -/
structure HearK (K : PySem.W.Frag) (mg : Str → Option Value) (g : Addr) : Prop where
  mg : mg "_law_heard" = some (.ref g)
  kp : PySem.W.keepIn K (.ref g) = true
  ex : ∃ (oc : Value) (od : Option Addr) (kV doc pm cdv ct : Value) (an : Option Addr) (osl : Array (Option Value)),
    K.lookup g = some ⟨oc, od, .func (PySem.W.fnOf "_law_heard" "_law_heard" (defArgs sHeard) (defBody sHeard) (defScope sHeard) .none kV doc pm an cdv ct), osl⟩ ∧ PySem.W.codeIn K cdv "_law_heard" = true
/-! ### drawn, all but the tables kept -/
structure DrewN (T : List (Addr × Str)) (a c : Addr) (n : Nat) (H H' : Hp) : Prop where
  hand : HandAt H' a c n
  keep : ∀ b o, b ≠ a → (∀ ps, o ≠ .tbl ps) → H b = some o → H' b = some o
  tabs : LamX.Tabs T H'
theorem tabs_kept {T : List (Addr × Str)} {a c : Addr} {n : Nat} {H H' : Hp} (h : HandAt H a c n) (k : Kept a H H') (t : LamX.Tabs T H) : LamX.Tabs T H' := by
  intro p hp
  obtain ⟨ps, h1, h2, h3⟩ := t p hp
  obtain ⟨ns, i, r, ha, _⟩ := h
  have na : ∀ {b : Addr} {o : HO}, H b = some o → (∀ xs, o ≠ .lst xs) → b ≠ a := fun e z q => by
    rw [q, ha] at e
    exact z _ (Option.some.inj e).symm
  refine ⟨ps, k _ _ (na h1 fun xs q => by cases q) h1, h2, fun pos cv hc => ?_⟩
  obtain ⟨d, e1, e2⟩ := h3 pos cv hc
  exact ⟨d, e1, k _ _ (na e2 fun xs q => by
    have q2 : HO.ext _ = HO.lst xs := q
    cases q2) e2⟩
theorem DrewN.of {T : List (Addr × Str)} {a c : Addr} {m n : Nat} {H H' : Hp} (hH : HandAt H a c m) (t : LamX.Tabs T H) (d : Drew a c n H H') : DrewN T a c n H H' := ⟨d.1, fun b o nb _ e => d.2 b o nb e, tabs_kept hH d.2 t⟩
theorem DrewN.mono {T : List (Addr × Str)} {a c : Addr} {m n : Nat} {H H' : Hp} (d : DrewN T a c m H H') (h : m ≤ n) : DrewN T a c n H H' := ⟨d.hand.mono h, d.keep, d.tabs⟩
theorem DrewN.trans {T : List (Addr × Str)} {a c : Addr} {m n : Nat} {H H1 H2 : Hp} (d : DrewN T a c m H H1) (e : DrewN T a c n H1 H2) : DrewN T a c n H H2 := ⟨e.hand, fun b o nb no h => e.keep b o nb no (d.keep b o nb no h), e.tabs⟩
theorem DrewN.same {T : List (Addr × Str)} {a c : Addr} {n : Nat} {H H1 H2 : Hp} (d : DrewN T a c n H H1) (s : Same H1 H2) : DrewN T a c n H H2 := ⟨d.hand.same s, fun b o nb no h => s b o (d.keep b o nb no h), d.tabs.ext s⟩
/-- a table was written -/
theorem DrewN.ext {T : List (Addr × Str)} {a c : Addr} {n : Nat} {H H1 H2 : Hp} (d : DrewN T a c n H H1) (s : LamX.ExtN H1 H2) (t : LamX.Tabs T H2) : DrewN T a c n H H2 := by
  refine ⟨?_, fun b o nb no h => s b o (d.keep b o nb no h) no, t⟩
  obtain ⟨ns, i, r, h1, h2, h3⟩ := d.hand
  exact ⟨ns, i, r, s _ _ h1 (fun ps q => by cases q), s _ _ h2 (fun ps q => by cases q), h3⟩
abbrev nDiv : List Str := ["_law_hand_here", "_law_shared", "_law_found", "_law_both", "_law_told", "_law_great", "_law_one", "_law_other", "_law_each"]
abbrev qDiv : Str := ("_law_divided_right" : Str) ++ ".<locals>." ++ "<lambda>"
def spDivided (T : List (Addr × Str)) : Sp := fun vs H Q _ => ∃ (a c : Addr) (n : Nat), vs = [.ref a] ∧ HandAt H a c n ∧ n ≤ 8000 ∧ LamX.Tabs T H ∧ ∀ H', DrewN T a c (n + 4) H H' → Q (.bl true) H'
structure CalsM (P : Program) (w : World) (K : PySem.W.Frag) (mg : Str → Option Value) (base : Heap) (C : Addr) : Prop where
  take : Cal P w K mg base "_law_take" 1 ["_law_hand_here", "_law_many"] spTake
  num : Cal P w K mg base "_law_is_number" 1 ["_law_value_here"] spIsInt
  div : Cal P w K mg base "common_divisor" 2 ["one", "other"] spDivI
  divK : CalK P w K mg base "common_divisor" 2 ["one", "other"] ["one", "other"] id spDivI
  low : Cal P w K mg base "lowest" 2 ["top", "bottom"] spLowI
  lowK : CalK P w K mg base "lowest" 2 ["top", "bottom"] ["bottom", "top"] List.reverse spLowI
  lowX : CalX P w K mg base "lowest" 3 ["top", "bottom"] (spLowX C)
  divX : CalX P w K mg base "common_divisor" 3 ["one", "other"] (spDivX C)
structure TxM (mg : Str → Option Value) : Prop where
  abs : mg "abs" = none
  int : mg "int" = none
  len : mg "len" = none
  range : mg "range" = none
  isin : mg "isinstance" = none
  tuple : mg "tuple" = none
theorem int_no {x y : Int} {A B : Prop} (e : x = y) (h : B) : if (!decide (V.int x = V.int y)) = true then A else B := by
  subst e
  rw [decide_eq_true rfl]
  exact iteF h
theorem int_eq {x y : Int} : decide (V.int x = V.int y) = decide (x = y) := by
  rw [Bool.eq_iff_iff, decide_eq_true_iff, decide_eq_true_iff]
  exact ⟨fun e => by injection e, fun e => by rw [e]⟩
theorem mul_bd {x y : Int} (h1 : -20 ≤ x) (h2 : x ≤ 20) (h3 : 0 ≤ y) (h4 : y ≤ 39) : -800 ≤ x * y ∧ x * y ≤ 800 := by
  have a1 : x * y ≤ 20 * y := Int.mul_le_mul_of_nonneg_right h2 h3
  have a2 : (-20) * y ≤ x * y := Int.mul_le_mul_of_nonneg_right h1 h3
  omega
theorem walk_ups (n : Nat) : Walk (Itr 1 n) ((ups n).map V.int).length (fun _ => True) (YAt ((ups n).map V.int)) := by
  have e : ((ups n).map V.int).length = n := by unfold ups; rw [List.length_map, List.length_map, List.length_range]
  rw [e]
  refine (walk_range (lo := 1) (n := n)).mono (fun _ h => h) ?_
  rintro i H x H' hi _ ⟨rfl, rfl⟩
  refine ⟨rfl, ?_⟩
  unfold ups
  rw [List.getElem?_map, List.getElem?_map, List.getElem?_range hi]
  rfl
theorem tup_eq {a b x y : Int} (h1 : a = x) (h2 : b = y) : PyData.eqv (.tuple [.int a, .int b]) (.tuple [.int x, .int y]) = true := by
  subst h1
  subst h2
  simp [PyData.eqv, PyData.eqvAll]
theorem gcd_neg (o p : Int) : gcdI (-o) (-p) = gcdI o p := by
  unfold gcdI
  rw [Int.natAbs_neg, Int.natAbs_neg]
theorem low_of {t b D k l : Int} (hD : lowD t b = D) (h0 : D ≠ 0) (h1 : t = D * k) (h2 : b = D * l) : t.fdiv (lowD t b) = k ∧ b.fdiv (lowD t b) = l := by
  rw [hD]
  subst h1
  subst h2
  exact ⟨fdiv_exact h0, fdiv_exact h0⟩
theorem low_neg {o p k l : Int} (hp : p ≠ 0) (h1 : o = lowD o p * k) (h2 : p = lowD o p * l) : (-o).fdiv (lowD (-o) (-p)) = k ∧ (-p).fdiv (lowD (-o) (-p)) = l := by
  have e : lowD (-o) (-p) = -lowD o p := by
    unfold lowD
    rw [gcd_neg]
    split <;> split <;> omega
  refine low_of e (by have := lowD_ne (t := o) hp; omega) ?_ ?_
  · rw [Int.neg_mul, ← h1]
  · rw [Int.neg_mul, ← h2]
theorem low_scale {o p G k l : Int} (hp : p ≠ 0) (hG : 0 < G) (h1 : o = lowD o p * k) (h2 : p = lowD o p * l) : (o * G).fdiv (lowD (o * G) (p * G)) = k ∧ (p * G).fdiv (lowD (o * G) (p * G)) = l := by
  have eg : gcdI (o * G) (p * G) = gcdI o p * G := by
    unfold gcdI
    rw [Int.natAbs_mul, Int.natAbs_mul, Nat.gcd_mul_right, Int.natCast_mul, Int.natAbs_of_nonneg (by omega)]
  have es : p * G < 0 ↔ p < 0 := by
    constructor
    · intro h
      rcases Int.lt_trichotomy p 0 with h3 | h3 | h3
      · exact h3
      · exact absurd h3 hp
      · have := Int.mul_pos h3 hG
        omega
    · intro h
      exact Int.mul_neg_of_neg_of_pos h hG
  have e : lowD (o * G) (p * G) = lowD o p * G := by
    unfold lowD
    rw [eg]
    by_cases h : p < 0
    · rw [if_pos h, if_pos (es.mpr h), Int.neg_mul]
    · rw [if_neg h, if_neg (fun q => h (es.mp q))]
  refine low_of e (Int.mul_ne_zero (lowD_ne hp) (by omega)) ?_ ?_
  · rw [Int.mul_assoc, Int.mul_comm G k, ← Int.mul_assoc, ← h1]
  · rw [Int.mul_assoc, Int.mul_comm G l, ← Int.mul_assoc, ← h2]
theorem low_zero {p : Int} (hp : p ≠ 0) : (0 : Int).fdiv (lowD 0 p) = 0 ∧ p.fdiv (lowD 0 p) = 1 := by
  have e : lowD 0 p = p := by
    unfold lowD
    rw [gcd_zero]
    split <;> omega
  exact low_of e hp (by simp) (by simp)
section
variable {P : Program} {w : World} {K : PySem.W.Frag} {mg : Str → Option Value} {base : Heap}
theorem scDiv : FnScope nDiv ["_law_hand_here"] (defScope sDivided) := ⟨rfl, rfl, rfl, by decide +kernel, rfl, by decide +kernel, by decide +kernel⟩
theorem ok_divided {f cd P1 g C fI : Addr} {fd : FuncData} {T : List (Addr × Str)} (F : FunC K "_law_divided_right" sDivided f cd fd) (M : CalsM P w K mg base C) (X : TxM mg) (L : PySem.LowX.LowTxt K mg C fI) (G : HearK K mg g)
    (TB : LamX.TabB base mg cd P1) (hT : (P1, qDiv) ∈ T) (hu : ∀ p ∈ T, p.1 = P1 → p.2 = qDiv) : FnOk P w K mg base CX0 6 f fd ["_law_hand_here"] (spDivided T) := by
  refine F.ok scDiv (fun vs H Q E h => ?_) (fun A outer s H vs Q E hr h => ?_)
  · obtain ⟨a, c, n, rfl, _⟩ := h
    rfl
  · obtain ⟨a, c, n, rfl, hH, hn, tT, k⟩ := h
    obtain ⟨oc, od, kV, doc, pm, cdv, ct, an, osl, lk, hcd⟩ := G.ex
    obtain ⟨fx, fdx, FX, mX, kX, bX⟩ := M.lowX.ex
    have bG : L2.Binds K (PySem.W.fnOf "_law_heard" "_law_heard" (defArgs sHeard) (defBody sHeard) (defScope sHeard) .none kV doc pm an cdv ct) ["_law_ask"] [] := (fun_mk (st := sHeard) lk hcd G.kp).binds (ps := ["_law_ask"]) fun _ _ _ _ _ _ us hl => match us, hl with | [_], _ => rfl
    refine ⟨_, pss_cons (ps_asg (pe_tup (pa_cons (pe_cal M.take hr (by decide) (by rfl) (pa_cons (pv 0) (pa_cons pe_int pa_nil))) (pa_cons (pe_op op_sub (pe_cal M.take hr (by decide) (by rfl) (pa_cons (pv 0) (pa_cons pe_int pa_nil))) pe_int) (pa_cons (pe_op op_sub (pe_cal M.take hr (by decide) (by rfl) (pa_cons (pv 0) (pa_cons pe_int pa_nil))) pe_int) pa_nil))))
        (pg_tup (n := 3) rfl (pgs_cons (pg_name (i := 1) scDiv.nd rfl (Or.inl rfl)) (pgs_cons (pg_name (i := 6) scDiv.nd rfl (Or.inr rfl)) (pgs_cons (pg_name (i := 7) scDiv.nd rfl (Or.inr rfl)) pgs_nil)))))
      (Evl.pss_cut (ps_asg (pe_tup (pa_cons (pe_op op_mul (pv 6) (pv 1)) (pa_cons (pe_op op_mul (pv 7) (pv 1)) pa_nil))) (pg_tup (n := 2) rfl (pgs_cons (pg_name (i := 6) scDiv.nd rfl (Or.inr rfl)) (pgs_cons (pg_name (i := 7) scDiv.nd rfl (Or.inr rfl)) pgs_nil))))
      (pss_cons (ps_set (i := 2) scDiv.nd rfl (Or.inl rfl) (pe_calK M.divK hr (by decide) (by rfl) (pk_cons (pv 6) (pk_cons (pv 7) pk_nil))))
      (pss_cons (ps_if (PW.pt (pw_or (pt_not (pt_val (pe_cal M.num hr (by decide) (by rfl) (pa_cons (pv 2) pa_nil)))) (pw_or1 (pt_cmpR op_ne (pe_cal M.div hr (by decide) (by rfl) (pa_cons (pv 7) (pa_cons (pe_un un_neg (pv 6)) pa_nil))) (pv 2) (nomark _))))) (pss_one (ps_ret pe_bl)) pss_nil)
      (pss_cons (ps_if (PW.pt (pw_or (pt_cmpR op_ne (pe_cal M.div hr (by decide) (by rfl) (pa_cons (pv 6) (pa_cons (pv 6) pa_nil))) (pe_callB call_abs (by rfl) X.abs (by decide +kernel) (pa_cons (pv 6) pa_nil)) (nomark _))
          (pw_or1 (pt_cmpR op_ne (pe_cal M.div hr (by decide) (by rfl) (pa_cons pe_int (pa_cons (pv 7) pa_nil))) (pe_callB call_abs (by rfl) X.abs (by decide +kernel) (pa_cons (pv 7) pa_nil)) (nomark _))))) (pss_one (ps_ret pe_bl)) pss_nil)
      (Evl.pss_cut (ps_if (PW.pt (pw_and (pt_cmpR op_eq (pv 6) pe_int (nomark _)) (pw_and1 (pt_cmpR op_eq (pv 7) pe_int (nomark _))))) (pss_one (ps_ret (pe_cmpR op_eq (pv 2) pe_int (nomark _)))) pss_nil)
      (pss_cons (ps_setLc (i := 3) (own := [("_law_each", 8)]) (g := gName 8) rfl scDiv.nd rfl rfl (sw_true rfl rfl rfl (by decide +kernel)) (pi_range2 (by rfl) X.range (pa_cons pe_int (pa_cons (pe_op op_add (pe_op op_add (pe_callB call_abs (by rfl) X.abs (by decide +kernel) (pa_cons (pv 6) pa_nil)) (pe_callB call_abs (by rfl) X.abs (by decide +kernel) (pa_cons (pv 7) pa_nil))) pe_int) pa_nil)))
          (blkOk_by (N := nDiv) (sc := defScope sDivided) (by decide +kernel)) (fun _ _ _ _ _ => pg_name (i := 8) scDiv.nd rfl (Or.inl rfl))
          (fun _ _ _ _ _ => pts_one (PW.pt (pw_and (pt_cmpR op_eq (pe_op op_mod (pe_callTy call_int1 (by rfl) X.int (by decide +kernel) (pa_cons (pv 6) pa_nil)) (pv 8)) pe_int (nomark _)) (pw_and1 (pt_cmpR op_eq (pe_op op_mod (pe_callTy call_int1 (by rfl) X.int (by decide +kernel) (pa_cons (pv 7) pa_nil)) (pv 8)) pe_int (nomark _)))))) (fun _ _ _ _ _ => pv 8))
      (pss_cons (ps_if (pt_cmpR op_ne (pv 2) (pe_ix ix_list (pv 3) (pe_un un_neg pe_int) (fun _ _ => rfl)) (nomark _)) (pss_one (ps_ret pe_bl)) pss_nil)
      (pss_cons (ps_if (pt_cmpR op_eq (pv 7) pe_int (nomark _)) (pss_one (ps_ret (pe_cmpR op_eq (LamX.pe_lamcall (T := T) (t := fun E => tCall (spLowX C) [] E (tCons (tVar 6) (tCons (tVar 7) tNil))) (k := 3) (by rfl) G.mg G.kp lk hcd bG scHeard (by rfl) (Or.inl rfl) (heard_gives L) TB rfl hT hu hr (LamX.lamS_by (sc := defScope sDivided) (by decide +kernel)) (by rfl)
          (fun q cl pm cv ctv => by rfl) (fun A outer s H E f c' hr2 => pe_call FX hr2 (by rfl) mX kX bX .nil (passes_call (takes_of rfl rfl rfl rfl) (fun _ _ _ _ h => h)) (pa_cons (pv 6) (pa_cons (pv 7) pa_nil)))) pe_str (nomark _)))) pss_nil)
      (pss_cons (ps_par (i := 4) (j := 5) (by rfl) scDiv.nd rfl rfl (by decide) rfl rfl (pa_cons (pe_calK M.lowK hr (by decide) (by rfl) (pk_cons (pv 7) (pk_cons (pv 6) pk_nil))) (pa_cons (pe_op op_add pe_int (pe_cal M.take hr (by decide) (by rfl) (pa_cons (pv 0) (pa_cons (pe_op op_pow pe_int pe_int) pa_nil)))) pa_nil)) (by rfl))
      (pss_cons (ps_if (PW.pt (pw_or (pt_not (pt_val (pe_callB call_isi (by rfl) X.isin (by decide +kernel) (pa_cons (pv 4) (pa_cons (pe_bltn (v := .ty "tuple") (by rfl) X.tuple (by decide +kernel) rfl) pa_nil)))))
          (pw_or (pt_cmpR op_ne (pe_callB call_len_seq (by rfl) X.len PySem.boot_len (pa_cons (pv 4) pa_nil)) pe_int (nomark _))
          (pw_or (pt_not (pt_val (pe_cal M.num hr (by decide) (by rfl) (pa_cons (pe_ix ix_tup (pv 4) pe_int (fun _ _ => rfl)) pa_nil))))
          (pw_or (pt_not (pt_val (pe_cal M.num hr (by decide) (by rfl) (pa_cons (pe_ix ix_tup (pv 4) pe_int (fun _ _ => rfl)) pa_nil))))
          (pw_or1 (pt_cmpR op_lt (pe_ix ix_tup (pv 4) pe_int (fun _ _ => rfl)) pe_int (nomark _)))))))) (pss_one (ps_ret pe_bl)) pss_nil)
      (pss_cons (ps_if (PW.pt (pw_or (pt_cmpR op_ne (pe_op op_mul (pe_ix ix_tup (pv 4) pe_int (fun _ _ => rfl)) (pv 7)) (pe_op op_mul (pe_ix ix_tup (pv 4) pe_int (fun _ _ => rfl)) (pv 6)) (nomark _))
          (pw_or (pt_cmpR op_ne (pe_callB call_abs (by rfl) X.abs (by decide +kernel) (pa_cons (pe_ix ix_tup (pv 4) pe_int (fun _ _ => rfl)) pa_nil)) (pe_op op_fdivZ (pe_callB call_abs (by rfl) X.abs (by decide +kernel) (pa_cons (pv 7) pa_nil)) (pv 2)) (nomark _))
          (pw_or1 (pt_cmpR (op_neD hr.units) (pe_cal M.low hr (by decide) (by rfl) (pa_cons (pe_un un_neg (pv 6)) (pa_cons (pe_un un_neg (pv 7)) pa_nil))) (pv 4) (nomark _)))))) (pss_one (ps_ret pe_bl)) pss_nil)
      (pss_one (ps_ret (pe_and (pe_cmpR (op_eqD hr.units) (pe_cal M.low hr (by decide) (by rfl) (pa_cons (pe_op op_mul (pv 6) (pv 5)) (pa_cons (pe_op op_mul (pv 7) (pv 5)) pa_nil))) (pv 4) (nomark _))
        (pe_one (pe_cmpR (op_eqD hr.units) (pe_cal M.low hr (by decide) (by rfl) (pa_cons pe_int (pa_cons (pv 7) pa_nil))) (pe_tup (pa_cons pe_int (pa_cons pe_int pa_nil))) (nomark _))))))))))))))))), ?_⟩
    refine ⟨_, rfl, a, c, 40, n, rfl, hH, by omega, by decide, by decide, fun H1 q1 a1 b1 hH1 hK1 => ?_⟩
    refine ⟨_, rfl, a, c, 41, n + 1, rfl, hH1, by omega, by decide, by decide, fun H2 q2 a2 b2 hH2 hK2 => ?_⟩
    refine ⟨_, _, rfl, rfl, _, rfl, a, c, 41, n + 1 + 1, rfl, hH2, by omega, by decide, by decide, fun H3 q3 a3 b3 hH3 hK3 => ?_⟩
    refine ⟨_, _, rfl, rfl, by show 3 ≤ sizeLine; decide, fun tp htp => ?_⟩
    refine ⟨tp, _, rfl, SqT.of upd_same, rfl, _, _, rfl, _, _, rfl, _, _, rfl, rfl, ?_⟩
    have D3 : Drew a c (n + 3) H H3 := ⟨hH3, (hK1.trans hK2).trans hK3⟩
    have D4 := D3.new (o := .tup [.int q1, .int (q2 - 20), .int (q3 - 20)]) htp
    refine ⟨fun σ' H' => ∃ o p z : Int, (-800 ≤ o ∧ o ≤ 800) ∧ (-800 ≤ p ∧ p ≤ 800) ∧ σ' = [some (.ref a), some (.int z), none, none, none, none, some (.int o), some (.int p), none] ∧ Drew a c (n + 3) H H', ?_, ?_⟩
    · refine ⟨_, rfl, _, rfl, _, _, rfl, rfl, .inl ⟨by omega, by omega⟩, _, rfl, _, rfl, _, _, rfl, rfl, .inl ⟨by omega, by omega⟩, by show 2 ≤ sizeLine; decide, fun tp2 htp2 => ?_⟩
      refine ⟨tp2, _, rfl, SqT.of upd_same, rfl, _, _, rfl, _, _, rfl, rfl, ?_⟩
      exact ⟨_, _, _, mul_bd (by omega) (by omega) a1 (by omega), mul_bd (by omega) (by omega) a1 (by omega), rfl, D4.new htp2⟩
    rintro σ5 H5 ⟨o, p, z, ⟨o1, o2⟩, ⟨p1, p2⟩, rfl, D5⟩
    -- found
    refine ⟨_, rfl, _, rfl, rfl, o, p, rfl, ?_⟩
    refine ⟨_, rfl, _, _, rfl, .int _, _, rfl, iteF ⟨_, rfl, _, rfl, _, rfl, p, -o, rfl, _, rfl, rfl, _, rfl, int_no (gcd_swap o p) ?_⟩⟩
    refine ⟨_, rfl, _, rfl, o, o, rfl, _, rfl, o, rfl, rfl, _, rfl, int_no (gcd_self o) ⟨_, rfl, 0, p, rfl, _, rfl, p, rfl, rfl, _, rfl, int_no (gcd_zero p) ?_⟩⟩
    -- both 0
    refine ⟨fun σ' H' => σ' = [some (.ref a), some (.int z), some (.int (gcdI o p)), none, none, none, some (.int o), some (.int p), none] ∧ H' = H5 ∧ ¬ (o = 0 ∧ p = 0), ?_, ?_⟩
    · refine ⟨_, rfl, rfl, _, rfl, ?_⟩
      rw [int_eq]
      by_cases ho : o = 0
      · rw [decide_eq_true ho]
        refine iteT ⟨_, rfl, rfl, _, rfl, ?_⟩
        rw [int_eq]
        by_cases hp : p = 0
        · rw [decide_eq_true hp]
          refine iteT ⟨_, rfl, rfl, ?_⟩
          have e : decide (V.int (gcdI o p) = V.int 0) = true := by
            rw [ho, hp]
            rfl
          rw [e]
          exact k _ ((DrewN.of hH tT D5).mono (by omega))
        · rw [decide_eq_false hp]
          exact iteF ⟨rfl, rfl, fun h => hp h.2⟩
      · rw [decide_eq_false ho]
        exact iteF ⟨rfl, rfl, fun h => ho h.1⟩
    rintro σ6 H6 ⟨rfl, rfl, hop⟩
    -- all that divide both
    refine sq ?_
    refine as_lc ?_
    refine lc_in ?_
    obtain ⟨N, hN⟩ : ∃ N : Nat, (N : Int) = (if o < 0 then -o else o) + (if p < 0 then -p else p) := ⟨((if o < 0 then -o else o) + (if p < 0 then -p else p)).toNat, by split <;> split <;> omega⟩
    have hN2 : N ≤ 1600 := by
      have : (N : Int) ≤ 1600 := by rw [hN]; split <;> split <;> omega
      omega
    refine ⟨_, rfl, o, rfl, _, rfl, p, rfl, _, _, rfl, rfl, _, _, rfl, rfl, 1, _, rfl, ⟨by decide, by decide, by omega, by omega⟩, ?_⟩
    have eN : ((if o < 0 then -o else o) + (if p < 0 then -p else p) + 1 - 1).toNat = N := by omega
    show tLc (fun _ H R => R (Itr 1 ((if o < 0 then -o else o) + (if p < 0 then -p else p) + 1 - 1).toNat) H) _ _ _ _ _ _ _
    rw [eN]
    have lenU : ((ups N).map V.int).length = N := by unfold ups; rw [List.length_map, List.length_map, List.length_range]
    refine lcp (walk_ups N) (fun v => match v with | .int e => comm o p e | _ => false) id (by omega) (fun _ _ => True.intro) ?_ ?_
    · intro y hy H7 s7 Qy Qn ky kn
      obtain ⟨e, he, rfl⟩ := List.mem_map.mp hy
      have he1 : 0 < e := by
        unfold ups at he
        obtain ⟨i, _, rfl⟩ := List.mem_map.mp he
        omega
      refine ⟨rfl, _, rfl, .inl ⟨_, rfl, _, rfl, _, _, rfl, rfl, he1, rfl, _, rfl, ?_⟩⟩
      rw [int_eq]
      by_cases h1 : o % e = 0
      · rw [decide_eq_true h1]
        refine iteT ⟨_, rfl, .inl ⟨_, rfl, _, rfl, _, _, rfl, rfl, he1, rfl, _, rfl, ?_⟩⟩
        rw [int_eq]
        by_cases h2 : p % e = 0
        · rw [decide_eq_true h2]
          exact iteT ⟨_, rfl, ky (by show comm o p e = true; unfold comm; rw [decide_eq_true h1, decide_eq_true h2]; rfl) H7 (fun _ _ e => e)⟩
        · rw [decide_eq_false h2]
          exact iteF (kn (by show comm o p e = false; unfold comm; rw [decide_eq_true h1, decide_eq_false h2]; rfl) H7 (fun _ _ e => e))
      · rw [decide_eq_false h1]
        exact iteF (kn (by show comm o p e = false; unfold comm; rw [decide_eq_false h1]; rfl) H7 (fun _ _ e => e))
    intro Dl H7 _ s7 hD
    obtain ⟨l, hl⟩ := last_gcd hop N hN
    have eL : ((((ups N).map V.int).filter fun v => match v with | .int e => comm o p e | _ => false).map id) = l.map V.int ++ [.int (gcdI o p)] := by
      rw [List.map_id, List.filter_map]
      have : ((ups N).filter ((fun v : V => match v with | .int e => comm o p e | _ => false) ∘ V.int)) = (ups N).filter (comm o p) := rfl
      rw [this, hl, List.map_append]
      rfl
    rw [eL] at hD
    have D7 := D5.same s7
    refine gn ?_
    dsimp only
    refine ⟨_, rfl, _, rfl, _, rfl, Dl, _, _, _, rfl, rfl, SqL.of hD, atI_last _ _, rfl, _, rfl, int_no rfl ?_⟩
    -- nothing below
    refine ⟨_, rfl, rfl, _, rfl, ?_⟩
    rw [int_eq]
    by_cases hp0 : p = 0
    · rw [decide_eq_true hp0]
      refine iteT ?_
      have N7 := (DrewN.of hH tT D7)
      refine ⟨N7.tabs, fun H8 x8 t8 => ?_⟩
      refine ⟨_, rfl, _, rfl, .int o, .int p, _, _, rfl, .int _, .int _, .inr ⟨rfl, .inr (by rw [hp0]), fun H9 s9 d hd => ?_⟩⟩
      refine ⟨rfl, d, _, rfl, upd_same, rfl, ?_⟩
      rw [decide_eq_true rfl]
      exact k _ (((((N7.ext x8 t8).same s9).same (same_new hd))).mono (by omega))
    rw [decide_eq_false hp0]
    refine iteF ?_
    -- in lowest terms
    have small : p.natAbs < 2 ^ 8000 := Nat.lt_of_le_of_lt (show p.natAbs ≤ 800 by omega) (Nat.lt_of_lt_of_le (by decide : 800 < 2 ^ 10) (Nat.pow_le_pow_right (by decide) (by decide)))
    refine ⟨_, rfl, _, rfl, rfl, o, p, rfl, hp0, small, fun tq htq => ?_⟩
    obtain ⟨k0, l0, eo, ep, fo, fp, lpos, lg⟩ := low_exact (t := o) hp0
    rw [fo, fp]
    have D8 := D7.new (o := .tup [.int k0, .int l0]) htq
    refine ⟨_, rfl, _, _, rfl, rfl, ⟨by decide, by decide, by decide⟩, a, c, _, n + 3, rfl, D8.1, by omega, by decide, by decide, fun H9 q9 a9 b9 hH9 hK9 => ?_⟩
    refine ⟨_, _, rfl, rfl, _, _, rfl, ?_⟩
    have D9 : Drew a c (n + 4) H H9 := ⟨hH9, D8.2.trans hK9⟩
    have hq9 : H9 tq = some (.tup [.int k0, .int l0]) := hK9 _ _ (D7.1.ne htq) upd_same
    have tq9 := SqT.of (K := K) hq9
    have hg := gcd_pos (t := o) hp0
    have hgl := gcd_le (t := o) hp0
    -- what is told of it
    refine ⟨_, rfl, .ref tq, _, _, _, _, rfl, .ty _, (Typ.tup hq9).ty, (Typ.tup hq9).kTup, _, rfl, iteF ?_⟩
    refine ⟨_, rfl, tq, _, rfl, .inr tq9, rfl, _, rfl, int_no rfl ?_⟩
    refine ⟨_, rfl, tq, _, 0, _, rfl, rfl, tq9, rfl, _, _, rfl, .int _, _, rfl, iteF ?_⟩
    refine ⟨_, rfl, tq, _, 1, _, rfl, rfl, tq9, rfl, _, _, rfl, .int _, _, rfl, iteF ?_⟩
    refine ⟨_, rfl, tq, _, 1, _, rfl, rfl, tq9, rfl, _, _, rfl, rfl, _, rfl, ?_⟩
    rw [decide_eq_false (by omega)]
    refine iteF ?_
    refine ⟨_, rfl, tq, _, 0, _, rfl, rfl, tq9, rfl, _, rfl, _, _, rfl, rfl, .inr ⟨by omega, by omega⟩, _, rfl, tq, _, 1, _, rfl, rfl, tq9, rfl, _, rfl, _, _, rfl, rfl, .inr ⟨by omega, by omega⟩, rfl, _, rfl, int_no ?_ ?_⟩
    · have e1 : k0 * p = k0 * (lowD o p * l0) := by rw [← ep]
      have e2 : l0 * o = l0 * (lowD o p * k0) := by rw [← eo]
      rw [e1, e2, Int.mul_left_comm, Int.mul_left_comm l0, Int.mul_comm k0 l0]
    refine ⟨_, rfl, tq, _, 1, _, rfl, rfl, tq9, rfl, l0, rfl, _, rfl, p, rfl, _, rfl, _, _, rfl, rfl, ⟨by omega, ?_⟩, rfl, _, rfl, int_no ?_ ?_⟩
    · exact Nat.lt_of_lt_of_le (PySem.Flt.log2_lt_of (by decide) (Nat.lt_of_le_of_lt hgl small)) (by decide)
    · rw [← lg, Int.mul_fdiv_cancel _ (by omega), if_neg (by omega)]
    have small2 : ∀ x : Int, x.natAbs ≤ 800 * 1000000000000000000000000000001 → x.natAbs < 2 ^ 8000 := fun x hx => Nat.lt_of_le_of_lt hx (Nat.lt_of_lt_of_le (by decide : 800 * 1000000000000000000000000000001 < 2 ^ 200) (Nat.pow_le_pow_right (by decide) (by decide)))
    have ln := low_neg hp0 eo ep
    refine ⟨_, rfl, _, rfl, _, rfl, _, rfl, -o, -p, rfl, by omega, by rw [Int.natAbs_neg]; exact small, fun tr htr => ?_⟩
    have s10 := same_new (o := .tup [.int ((-o).fdiv (lowD (-o) (-p))), .int ((-p).fdiv (lowD (-o) (-p)))]) htr
    refine ⟨_, rfl, _, _, .tup (SqT.of upd_same) (.cons (.int _) (.cons (.int _) .nil)), .tup (SqT.of (s10 _ _ hq9)) (.cons (.int _) (.cons (.int _) .nil)), shaped_flatT rfl, shaped_flatT rfl, _, rfl, ?_⟩
    rw [tup_eq ln.1 ln.2]
    refine iteF ?_
    have hG : 0 < 1 + q9 := by omega
    have ls := low_scale hp0 hG eo ep
    have e30 : (10 : Int) ^ Int.toNat 30 = 1000000000000000000000000000000 := by decide
    rw [e30] at b9
    have hpG : p * (1 + q9) ≠ 0 := Int.mul_ne_zero hp0 (by omega)
    have hbG : (p * (1 + q9)).natAbs < 2 ^ 8000 := by
      refine small2 _ ?_
      rw [Int.natAbs_mul]
      exact Nat.mul_le_mul (by omega) (by omega)
    refine ⟨_, rfl, _, rfl, _, _, rfl, rfl, .inl ⟨by omega, by omega⟩, _, rfl, _, rfl, _, _, rfl, rfl, .inl ⟨by omega, by omega⟩, _, _, rfl, hpG, hbG, fun ts hts => ?_⟩
    have s11 := same_new (o := .tup [.int ((o * (1 + q9)).fdiv (lowD (o * (1 + q9)) (p * (1 + q9)))), .int ((p * (1 + q9)).fdiv (lowD (o * (1 + q9)) (p * (1 + q9))))]) hts
    refine ⟨_, rfl, _, _, .tup (SqT.of upd_same) (.cons (.int _) (.cons (.int _) .nil)), .tup (SqT.of (s11 _ _ (s10 _ _ hq9))) (.cons (.int _) (.cons (.int _) .nil)), shaped_flatT rfl, shaped_flatT rfl, _, rfl, ?_⟩
    rw [tup_eq ls.1 ls.2]
    refine iteT ?_
    have lz := low_zero hp0
    refine ⟨_, rfl, 0, p, rfl, hp0, small, fun tu htu => ?_⟩
    have s12 := same_new (o := .tup [.int ((0 : Int).fdiv (lowD 0 p)), .int (p.fdiv (lowD 0 p))]) htu
    refine ⟨by show 2 ≤ sizeLine; decide, fun tv htv => ?_⟩
    have s13 := same_new (o := .tup [.int 0, .int 1]) htv
    refine ⟨_, _, .tup (SqT.of (s13 _ _ upd_same)) (.cons (.int _) (.cons (.int _) .nil)), .tup (SqT.of upd_same) (.cons (.int _) (.cons (.int _) .nil)), shaped_flatT rfl, shaped_flatT rfl, ?_⟩
    rw [tup_eq lz.1 lz.2]
    exact k _ (DrewN.of hH tT ((((D9.same s10).same s11).same s12).same s13))
end
end K01
set_option Elab.async false
set_option linter.all false
set_option maxRecDepth 100000
set_option maxHeartbeats 4000000
namespace K01
open PySem L2 PySem.Spec PyProof.Rows
theorem lam_read {T : List (Addr × Str)} {C : Addr} {sp : Sp} {ta : TA} {σ : L2.St} {H : Hp} {Q : VK} {z : Str} (tT : LamX.Tabs T H) (h : ∀ H1, LamX.ExtN H H1 → ∀ (E : XK) (Q1 : VK), Bad C E H1 z → tCall sp [] E ta σ H1 Q1)
    (k : ∀ H3, LamX.ExtN H H3 → LamX.Tabs T H3 → Q (.str z) H3) : LamX.tLam T (THeard C) (fun E => tCall sp [] E ta) σ H Q :=
  ⟨tT, fun H1 x1 t1 => h H1 x1 _ _ fun H2 s2 d hd => ⟨rfl, d, _, rfl, upd_same, k _ (x1.trans (LamX.ExtN.of fun b o e => same_new hd b o (s2 b o e))) ((t1.ext s2).ext (same_new hd))⟩⟩
theorem Typ.ext {H H' : Hp} {x : V} {t : String} (h : Typ H x t) (s : LamX.ExtN H H') : Typ H' x t := by
  cases h with
  | int i => exact .int i
  | bl b => exact .bl b
  | str z => exact .str z
  | non => exact .non
  | lst e => exact .lst (s _ _ e fun ps q => by cases q)
  | tup e => exact .tup (s _ _ e fun ps q => by cases q)
  | dct e => exact .dct (s _ _ e fun ps q => by cases q)
theorem lst_ext {H H' : Hp} {a : Addr} {xs : List V} (h : H a = some (.lst xs)) (s : LamX.ExtN H H') : H' a = some (.lst xs) := s _ _ h fun ps q => by cases q
/-- what is known while the list at l grows -/
structure Gr (T : List (Addr × Str)) (l : Addr) (v u : V) (tv tu : String) (H : Hp) (xs : List V) : Prop where
  at_ : H l = some (.lst xs)
  tabs : LamX.Tabs T H
  v : Typ H v tv
  u : Typ H u tu
theorem typ_put {H : Hp} {l : Addr} {xs ys : List V} {x : V} {t : String} (h : Typ H x t) (hl : H l = some (.lst xs)) : Typ (L2.upd H l (.lst ys)) x t := by
  have off : ∀ {b : Addr} {o : HO}, H b = some o → (∀ zs, o ≠ .lst zs) → b ≠ l := fun e z q => by
    rw [q, hl] at e
    exact z _ (Option.some.inj e).symm
  cases h with
  | int i => exact .int i
  | bl b => exact .bl b
  | str z => exact .str z
  | non => exact .non
  | @lst p zs e =>
    by_cases hp : p = l
    · rw [hp]
      exact .lst upd_same
    · exact .lst (by rw [upd_ne hp]; exact e)
  | tup e => exact .tup (by rw [upd_ne (off e fun zs q => by cases q)]; exact e)
  | dct e => exact .dct (by rw [upd_ne (off e fun zs q => by cases q)]; exact e)
theorem Gr.put {T : List (Addr × Str)} {l : Addr} {v u : V} {tv tu : String} {H : Hp} {xs ys : List V} (g : Gr T l v u tv tu H xs) : Gr T l v u tv tu (L2.upd H l (.lst ys)) ys := by
  refine ⟨upd_same, fun p hp => ?_, typ_put g.v g.at_, typ_put g.u g.at_⟩
  obtain ⟨ps, q1, q2, q3⟩ := g.tabs p hp
  have off : ∀ {b : Addr} {o : HO}, H b = some o → (∀ zs, o ≠ .lst zs) → b ≠ l := fun e z q => by
    rw [q, g.at_] at e
    exact z _ (Option.some.inj e).symm
  refine ⟨ps, by rw [upd_ne (off q1 fun zs q => by cases q)]; exact q1, q2, fun pos cv hc => ?_⟩
  obtain ⟨dq, e1, e2⟩ := q3 pos cv hc
  exact ⟨dq, e1, by rw [upd_ne (off e2 fun zs q => by have q2 : HO.ext _ = HO.lst zs := q; cases q2)]; exact e2⟩
theorem Gr.ext {T : List (Addr × Str)} {l : Addr} {v u : V} {tv tu : String} {H H' : Hp} {xs : List V} (g : Gr T l v u tv tu H xs) (x : LamX.ExtN H H') (t : LamX.Tabs T H') : Gr T l v u tv tu H' xs :=
  ⟨lst_ext g.at_ x, t, g.v.ext x, g.u.ext x⟩
abbrev nLaw : List Str := ["_law_script", "_law_hand_here", "_law_turn", "_law_heard_here", "_law_also", "_law_odd"]
abbrev qLaw : Str := ("law" : Str) ++ ".<locals>." ++ "<lambda>"
def spLaw (K : PySem.W.Frag) (T : List (Addr × Str)) : Sp := fun vs H Q _ => ∃ (a : Addr) (ns : List Int), vs = [.ref a] ∧ SqL K H a (ns.map V.int) ∧ ns.length ≤ 63 ∧ LamX.Tabs T H ∧ ∀ H', Q (.bl true) H'
structure CalsN (P : Program) (w : World) (K : PySem.W.Frag) (mg : Str → Option Value) (base : Heap) (T : List (Addr × Str)) : Prop where
  hand : Cal P w K mg base "_law_hand" 1 ["_law_script"] (spHand K)
  value : Cal P w K mg base "_law_value" 4 ["_law_hand_here"] spValue
  looks : Cal P w K mg base "_law_looks_right" 4 ["_law_hand_here", "_law_value_here"] spLooks
  twice : Cal P w K mg base "_law_twice_right" 3 ["_law_hand_here"] spTwR
  divided : Cal P w K mg base "_law_divided_right" 6 ["_law_hand_here"] (spDivided T)
  pick : Cal P w K mg base "_law_pick" 2 ["_law_hand_here", "_law_some"] spPick
section
variable {P : Program} {w : World} {K : PySem.W.Frag} {mg : Str → Option Value} {base : Heap}
theorem scLaw : FnScope nLaw ["_law_script"] (defScope sLaw) := ⟨rfl, rfl, rfl, by decide +kernel, rfl, by decide +kernel, by decide +kernel⟩
theorem ok_law {f cd P2 g C fI : Addr} {fd : FuncData} {T : List (Addr × Str)} (F : FunC K "law" sLaw f cd fd) (N : CalsN P w K mg base T) (M : CalsM P w K mg base C) (X : TxM mg) (L : PySem.LowX.LowTxt K mg C fI) (G : HearK K mg g)
    (TB : LamX.TabB base mg cd P2) (hT : (P2, qLaw) ∈ T) (hu : ∀ p ∈ T, p.1 = P2 → p.2 = qLaw) : FnOk P w K mg base CX0 7 f fd ["_law_script"] (spLaw K T) := by
  refine F.ok scLaw (fun vs H Q E h => ?_) (fun A outer s H vs Q E hr h => ?_)
  · obtain ⟨a, ns, rfl, _⟩ := h
    rfl
  · obtain ⟨a, ns, rfl, hS, hlen, tT, k⟩ := h
    obtain ⟨oc, od, kV, doc, pm, cdv, ct, an, osl, lk, hcd⟩ := G.ex
    obtain ⟨fx, fdx, FX, mX, kX, bX⟩ := M.lowX.ex
    obtain ⟨fy, fdy, FY, mY, kY, bY⟩ := M.divX.ex
    have bG : L2.Binds K (PySem.W.fnOf "_law_heard" "_law_heard" (defArgs sHeard) (defBody sHeard) (defScope sHeard) .none kV doc pm an cdv ct) ["_law_ask"] [] := (fun_mk (st := sHeard) lk hcd G.kp).binds (ps := ["_law_ask"]) fun _ _ _ _ _ _ us hl => match us, hl with | [_], _ => rfl
    have hr5 : Room 5 _ := hr.mono (by decide)
    refine ⟨_, pss_cons (ps_set (i := 1) scLaw.nd rfl (Or.inl rfl) (pe_cal N.hand hr (by decide) (by rfl) (pa_cons (pv 0) pa_nil)))
      (pss_cons (ps_for PassesOwn.never rfl (pi_range1 rfl X.range (pa_cons pe_int pa_nil)) (pg_name (i := 2) scLaw.nd rfl (Or.inl rfl))
        (pss_one (ps_if (PW.pt (pw_or (pt_not (pt_val (pe_cal N.looks hr (by decide) (by rfl) (pa_cons (pv 1) (pa_cons (pe_cal N.value hr (by decide) (by rfl) (pa_cons (pv 1) pa_nil)) pa_nil)))))
          (pw_or (pt_not (pt_val (pe_cal N.twice hr (by decide) (by rfl) (pa_cons (pv 1) pa_nil)))) (pw_or1 (pt_not (pt_val (pe_cal N.divided hr (by decide) (by rfl) (pa_cons (pv 1) pa_nil)))))))) (pss_one (ps_ret pe_bl)) pss_nil)))
      (pss_cons (ps_asg (pe_tup (pa_cons (pe_cal N.pick hr (by decide) (by rfl) (pa_cons (pv 1) (pa_cons (pe_lst (pa_cons pe_non (pa_cons pe_str (pa_cons pe_bl (pa_cons (pe_lst (pa_cons pe_int pa_nil)) (pa_cons pe_dnewK pa_nil)))))) pa_nil)))
          (pa_cons (pe_cal N.pick hr (by decide) (by rfl) (pa_cons (pv 1) (pa_cons (pe_lst (pa_cons pe_non (pa_cons pe_bl (pa_cons (pe_tup pa_nil) (pa_cons pe_str pa_nil))))) pa_nil))) pa_nil)))
          (pg_tup (n := 2) rfl (pgs_cons (pg_name (i := 5) scLaw.nd rfl (Or.inr rfl)) (pgs_cons (pg_name (i := 4) scLaw.nd rfl (Or.inr rfl)) pgs_nil))))
      (pss_cons (ps_set (i := 3) scLaw.nd rfl (Or.inl rfl) (pe_lst (pa_cons (LamX.pe_lamcall (T := T) (t := fun E => tCall (spDivX C) [] E (tCons (tVar 5) (tCons (tVar 4) tNil))) (k := 3) (by rfl) G.mg G.kp lk hcd bG scHeard (by rfl) (Or.inl rfl) (heard_gives L) TB rfl hT hu hr5 (LamX.lamS_by (sc := defScope sLaw) (by decide +kernel)) (by rfl)
          (fun q cl pm cv ctv => by rfl) (fun A outer s H E f c' hr2 => pe_call FY hr2 (by rfl) mY kY bY .nil (passes_call (takes_of rfl rfl rfl rfl) (fun _ _ _ _ h => h)) (pa_cons (pv 5) (pa_cons (pv 4) pa_nil)))) pa_nil)))
      (pss_cons (ps_expr (pe_bm PySem.F.plainAttrs_list PySem.F.slot_list_append PySem.F.type_list_append mt_append (pv 3) (pa_cons (LamX.pe_lamcall (T := T) (t := fun E => tCall (spDivX C) [] E (tCons (tC (.int 6)) (tCons (tVar 4) tNil))) (k := 3) (by rfl) G.mg G.kp lk hcd bG scHeard (by rfl) (Or.inl rfl) (heard_gives L) TB rfl hT hu hr5 (LamX.lamS_by (sc := defScope sLaw) (by decide +kernel)) (by rfl)
          (fun q cl pm cv ctv => by rfl) (fun A outer s H E f c' hr2 => pe_call FY hr2 (by rfl) mY kY bY .nil (passes_call (takes_of rfl rfl rfl rfl) (fun _ _ _ _ h => h)) (pa_cons pe_int (pa_cons (pv 4) pa_nil)))) pa_nil)))
      (pss_cons (ps_expr (pe_bm PySem.F.plainAttrs_list PySem.F.slot_list_append PySem.F.type_list_append mt_append (pv 3) (pa_cons (LamX.pe_lamcall (T := T) (t := fun E => tCall (spLowX C) [] E (tCons (tVar 5) (tCons (tVar 4) tNil))) (k := 3) (by rfl) G.mg G.kp lk hcd bG scHeard (by rfl) (Or.inl rfl) (heard_gives L) TB rfl hT hu hr5 (LamX.lamS_by (sc := defScope sLaw) (by decide +kernel)) (by rfl)
          (fun q cl pm cv ctv => by rfl) (fun A outer s H E f c' hr2 => pe_call FX hr2 (by rfl) mX kX bX .nil (passes_call (takes_of rfl rfl rfl rfl) (fun _ _ _ _ h => h)) (pa_cons (pv 5) (pa_cons (pv 4) pa_nil)))) pa_nil)))
      (pss_cons (ps_expr (pe_bm PySem.F.plainAttrs_list PySem.F.slot_list_append PySem.F.type_list_append mt_append (pv 3) (pa_cons (LamX.pe_lamcall (T := T) (t := fun E => tCall (spLowX C) [] E (tCons (tVar 5) (tCons (tC (.int 0)) tNil))) (k := 3) (by rfl) G.mg G.kp lk hcd bG scHeard (by rfl) (Or.inl rfl) (heard_gives L) TB rfl hT hu hr5 (LamX.lamS_by (sc := defScope sLaw) (by decide +kernel)) (by rfl)
          (fun q cl pm cv ctv => by rfl) (fun A outer s H E f c' hr2 => pe_call FX hr2 (by rfl) mX kX bX .nil (passes_call (takes_of rfl rfl rfl rfl) (fun _ _ _ _ h => h)) (pa_cons (pv 5) (pa_cons pe_int pa_nil)))) pa_nil)))
      (pss_cons (ps_expr (pe_bm PySem.F.plainAttrs_list PySem.F.slot_list_append PySem.F.type_list_append mt_append (pv 3) (pa_cons (LamX.pe_lamcall (T := T) (t := fun E => tCall (spLowX C) [] E (tCons (tC (.int 6)) (tCons (tVar 4) tNil))) (k := 3) (by rfl) G.mg G.kp lk hcd bG scHeard (by rfl) (Or.inl rfl) (heard_gives L) TB rfl hT hu hr5 (LamX.lamS_by (sc := defScope sLaw) (by decide +kernel)) (by rfl)
          (fun q cl pm cv ctv => by rfl) (fun A outer s H E f c' hr2 => pe_call FX hr2 (by rfl) mX kX bX .nil (passes_call (takes_of rfl rfl rfl rfl) (fun _ _ _ _ h => h)) (pa_cons pe_int (pa_cons (pv 4) pa_nil)))) pa_nil)))
      (pss_cons (ps_expr (pe_bm PySem.F.plainAttrs_list PySem.F.slot_list_append PySem.F.type_list_append mt_append (pv 3) (pa_cons (LamX.pe_lamcall (T := T) (t := fun E => tCall (spLowX C) [] E (tCons (tC (.int 0)) (tCons (tC (.int 0)) tNil))) (k := 3) (by rfl) G.mg G.kp lk hcd bG scHeard (by rfl) (Or.inl rfl) (heard_gives L) TB rfl hT hu hr5 (LamX.lamS_by (sc := defScope sLaw) (by decide +kernel)) (by rfl)
          (fun q cl pm cv ctv => by rfl) (fun A outer s H E f c' hr2 => pe_call FX hr2 (by rfl) mX kX bX .nil (passes_call (takes_of rfl rfl rfl rfl) (fun _ _ _ _ h => h)) (pa_cons pe_int (pa_cons pe_int pa_nil)))) pa_nil)))
      (pss_one (ps_ret (pe_cmpR (op_eqD hr.units) (pv 3) (pe_lst (pa_cons pe_str (pa_cons pe_str (pa_cons pe_str (pa_cons pe_str (pa_cons pe_str (pa_cons pe_str pa_nil))))))) (nomark _)))))))))))), ?_⟩
    -- the hand
    refine ⟨_, rfl, a, ns, rfl, hS, by omega, fun H1 h c s1 hn cn hH1 => ?_⟩
    have t1 := tT.ext s1
    -- six turns
    refine ⟨6, rfl, by decide, by decide, for_range (lo := 0) (n := 6) (fun i σ' H' => (∃ u2 : Option V, σ' = [some (.ref a), some (.ref h), u2, none, none, none]) ∧ HandAt H' h c (50 * i) ∧ LamX.Tabs T H') ⟨⟨none, rfl⟩, hH1, t1⟩ ?_ ?_⟩
    · rintro i σ' H2 hi ⟨⟨u2, rfl⟩, hH2, t2⟩
      refine ⟨_, rfl, _, rfl, h, c, 50 * i, rfl, hH2, by omega, fun x t xs H3 hv D3 => ?_⟩
      refine ⟨h, c, 50 * i + 30, x, t, xs, rfl, D3.1, by omega, hv, fun H4 D4 => ⟨_, rfl, iteF ?_⟩⟩
      refine ⟨_, rfl, h, c, 50 * i + 30 + 6, rfl, D4.1, by omega, fun H5 D5 => ⟨_, rfl, iteF ?_⟩⟩
      have t5 := tabs_kept D4.1 D5.2 (tabs_kept D3.1 D4.2 (tabs_kept hH2 D3.2 t2))
      refine ⟨_, rfl, h, c, 50 * i + 30 + 6 + 10, rfl, D5.1, by omega, t5, fun H6 D6 => ⟨_, rfl, iteF ?_⟩⟩
      exact ⟨⟨_, rfl⟩, D6.hand.mono (by omega), D6.tabs⟩
    rintro σ' H2 ⟨⟨u2, rfl⟩, hH2, t2⟩
    -- two odd values
    refine ⟨_, rfl, by show 1 ≤ sizeLine; decide, fun l5 hl5 dd hdd => ?_⟩
    refine ⟨by show 5 ≤ sizeLine; decide, fun lp hlp => ?_⟩
    have D3 := (((Drew.refl hH2).new (o := .lst [.int 5]) hl5).new (o := .dK []) hdd).new (o := .lst [.non, .str (Str.ofString "5"), .bl true, .ref l5, .ref dd]) hlp
    have g5 := (same_new (o := .lst [.non, .str (Str.ofString "5"), .bl true, .ref l5, .ref dd]) hlp) _ _ ((same_new (o := .dK []) hdd) _ _ (upd_same (H := H2) (a := l5) (o := .lst [.int 5])))
    have gd := (same_new (o := .lst [.non, .str (Str.ofString "5"), .bl true, .ref l5, .ref dd]) hlp) _ _ (upd_same (H := L2.upd H2 l5 (.lst [.int 5])) (a := dd) (o := .dK []))
    have n5 : l5 ≠ h := hH2.ne hl5
    have nd : dd ≠ h := (hH2.new hl5).ne hdd
    refine ⟨h, c, _, 50 * 6, rfl, D3.1, by omega, .inl ⟨lp, _, rfl, ((hH2.new hl5).new hdd).ne hlp, upd_same, (by show 0 < 5; decide), (by show 5 ≤ 1000; decide), ?_⟩⟩
    intro v hv H4 D4
    obtain ⟨tv, ty4, iv⟩ : ∃ tv, Typ (L2.del H4 h) v tv ∧ isI v = false := by
      simp only [List.mem_cons, List.mem_nil_iff, or_false] at hv
      rcases hv with rfl | rfl | rfl | rfl | rfl
      · exact ⟨_, .non, rfl⟩
      · exact ⟨_, .str _, rfl⟩
      · exact ⟨_, .bl _, rfl⟩
      · exact ⟨_, .lst (at_del (D4.2 _ _ n5 g5) n5), rfl⟩
      · exact ⟨_, .dct (at_del (D4.2 _ _ nd gd) nd), rfl⟩
    have t4 := tabs_kept D3.1 D4.2 (tabs_kept hH2 D3.2 t2)
    refine ⟨_, rfl, Nat.zero_le _, fun te hte => ⟨by show 4 ≤ sizeLine; decide, fun lq hlq => ?_⟩⟩
    have D5 := ((Drew.refl D4.1).new (o := .tup []) hte).new (o := .lst [.non, .bl false, .ref te, .str (Str.ofString "0")]) hlq
    have ge := (same_new (o := .lst [.non, .bl false, .ref te, .str (Str.ofString "0")]) hlq) _ _ (upd_same (H := H4) (a := te) (o := .tup []))
    have ne : te ≠ h := D4.1.ne hte
    refine ⟨h, c, _, 50 * 6 + 1, rfl, D5.1, by omega, .inl ⟨lq, _, rfl, (D4.1.new hte).ne hlq, upd_same, (by show 0 < 4; decide), (by show 4 ≤ 1000; decide), ?_⟩⟩
    intro u hu H6 D6
    obtain ⟨tu, ty6, iu⟩ : ∃ tu, Typ (L2.del H6 h) u tu ∧ isI u = false := by
      simp only [List.mem_cons, List.mem_nil_iff, or_false] at hu
      rcases hu with rfl | rfl | rfl | rfl
      · exact ⟨_, .non, rfl⟩
      · exact ⟨_, .bl _, rfl⟩
      · exact ⟨_, .tup (at_del (D6.2 _ _ ne ge) ne), rfl⟩
      · exact ⟨_, .str _, rfl⟩
    have tyv : Typ H6 v tv := ((ty4.same (kept_del D5.2)).same (kept_del D6.2)).same del_sub
    have tyu : Typ H6 u tu := ty6.same del_sub
    have t6 := tabs_kept D5.1 D6.2 (tabs_kept D4.1 D5.2 t4)
    refine ⟨by show 2 ≤ sizeLine; decide, fun tp htp => ?_⟩
    refine ⟨tp, _, rfl, SqT.of upd_same, rfl, _, _, rfl, _, _, rfl, rfl, ?_⟩
    have t7 := t6.ext (same_new (o := .tup [v, u]) htp)
    have tyv7 := tyv.same (same_new (o := .tup [v, u]) htp)
    have tyu7 := tyu.same (same_new (o := .tup [v, u]) htp)
    refine gen_heap fun H7 e7 => ?_
    rw [← e7] at t7 tyv7 tyu7
    -- what each call refuses
    refine lam_read t7 (fun H1 x1 E Q1 b => ⟨_, rfl, _, rfl, v, u, _, _, rfl, tyv7.ext x1, tyu7.ext x1, .inl ⟨iv, b⟩⟩) (fun H8 x8 t8 => ?_)
    refine ⟨by show 1 ≤ sizeLine; decide, fun ll hll => ?_⟩
    have g9 : Gr T ll v u tv tu (L2.upd H8 ll (.lst [.str "one"])) [.str "one"] := ⟨upd_same, t8.ext (same_new hll), (tyv7.ext x8).same (same_new hll), (tyu7.ext x8).same (same_new hll)⟩
    refine gen_heap fun H9 e9 => ?_
    rw [← e9] at g9
    refine ⟨_, rfl, .inl ⟨rfl, _, SqL.of g9.at_⟩, lam_read g9.tabs (fun H1 x1 E Q1 b => ⟨_, rfl, .int 6, u, _, _, rfl, .int _, g9.u.ext x1, .inr ⟨rfl, iu, b⟩⟩) (fun HA xA tA => ?_)⟩
    have gA := g9.ext xA tA
    refine ⟨ll, _, _, rfl, rfl, gA.at_, Evl.sz_lt (by show 1 < 100000; decide), ?_⟩
    have g10 := gA.put (ys := [V.str "one"] ++ [.str "other"])
    refine gen_heap fun H10 e10 => ?_
    rw [← e10] at g10
    refine ⟨_, rfl, .inl ⟨rfl, _, SqL.of g10.at_⟩, lam_read g10.tabs (fun H1 x1 E Q1 b => ⟨_, rfl, _, rfl, v, u, _, _, rfl, g10.v.ext x1, g10.u.ext x1, .inl ⟨iv, b⟩⟩) (fun HB xB tB => ?_)⟩
    have gB := g10.ext xB tB
    refine ⟨ll, _, _, rfl, rfl, gB.at_, Evl.sz_lt (by show 2 < 100000; decide), ?_⟩
    have g11 := gB.put (ys := [V.str "one"] ++ [.str "other"] ++ [.str "top"])
    refine gen_heap fun H11 e11 => ?_
    rw [← e11] at g11
    refine ⟨_, rfl, .inl ⟨rfl, _, SqL.of g11.at_⟩, lam_read g11.tabs (fun H1 x1 E Q1 b => ⟨_, rfl, v, .int 0, _, _, rfl, g11.v.ext x1, .int _, .inl ⟨iv, b⟩⟩) (fun HC xC tC => ?_)⟩
    have gC := g11.ext xC tC
    refine ⟨ll, _, _, rfl, rfl, gC.at_, Evl.sz_lt (by show 3 < 100000; decide), ?_⟩
    have g12 := gC.put (ys := [V.str "one"] ++ [.str "other"] ++ [.str "top"] ++ [.str "top"])
    refine gen_heap fun H12 e12 => ?_
    rw [← e12] at g12
    refine ⟨_, rfl, .inl ⟨rfl, _, SqL.of g12.at_⟩, lam_read g12.tabs (fun H1 x1 E Q1 b => ⟨_, rfl, .int 6, u, _, _, rfl, .int _, g12.u.ext x1, .inr ⟨rfl, .inl iu, b⟩⟩) (fun HD xD tD => ?_)⟩
    have gD := g12.ext xD tD
    refine ⟨ll, _, _, rfl, rfl, gD.at_, Evl.sz_lt (by show 4 < 100000; decide), ?_⟩
    have g13 := gD.put (ys := [V.str "one"] ++ [.str "other"] ++ [.str "top"] ++ [.str "top"] ++ [.str "bottom"])
    refine gen_heap fun H13 e13 => ?_
    rw [← e13] at g13
    refine ⟨_, rfl, .inl ⟨rfl, _, SqL.of g13.at_⟩, lam_read g13.tabs (fun H1 x1 E Q1 b => ⟨.int 0, .int 0, _, _, rfl, .int _, .int _, .inr ⟨rfl, .inr rfl, b⟩⟩) (fun HE xE tE => ?_)⟩
    have gE := g13.ext xE tE
    refine ⟨ll, _, _, rfl, rfl, gE.at_, Evl.sz_lt (by show 5 < 100000; decide), ?_⟩
    have g14 := gE.put (ys := [V.str "one"] ++ [.str "other"] ++ [.str "top"] ++ [.str "top"] ++ [.str "bottom"] ++ [.str "bottom"])
    refine gen_heap fun H14 e14 => ?_
    rw [← e14] at g14
    refine ⟨_, rfl, by show 6 ≤ sizeLine; decide, fun pz hpz => ?_⟩
    have h15 := (same_new (o := .lst [.str "one", .str "other", .str "top", .str "top", .str "bottom", .str "bottom"]) hpz) _ _ g14.at_
    have okl : ([V.str "one", .str "other", .str "top", .str "top", .str "bottom", .str "bottom"]).all okV = true := by decide +kernel
    refine ⟨_, _, .lst (SqL.of h15) (dpAll_dat (ok_flat okl)), .lst (SqL.of upd_same) (dpAll_dat (ok_flat okl)), shaped_flat (flat_dat okl), shaped_flat (flat_dat okl), ?_⟩
    have eq : PyData.eqv (.list (([V.str "one"] ++ [V.str "other"] ++ [V.str "top"] ++ [V.str "top"] ++ [V.str "bottom"] ++ [V.str "bottom"]).map dat)) (.list (([V.str "one", .str "other", .str "top", .str "top", .str "bottom", .str "bottom"]).map dat)) = true := by simp [PyData.eqv, PyData.eqvAll, dat]
    rw [eq]
    exact k _
end
end K01
set_option Elab.async false
set_option linter.all false
set_option maxRecDepth 100000
set_option maxHeartbeats 4000000
namespace K01
open PySem L2 PySem.Spec PyProof.Rows
/-! ### what the top has written -/
/-- a def of the text, held by its name -/
structure FF (K : PySem.W.Frag) (mg : Str → Option Value) (x : Str) (st : Stmt) : Prop where
  ex : ∃ (f : Addr) (oc : Value) (od : Option Addr) (kV doc pm cdv ct : Value) (an : Option Addr) (osl : Array (Option Value)),
    K.lookup f = some ⟨oc, od, .func (PySem.W.fnOf x x (defArgs st) (defBody st) (defScope st) .none kV doc pm an cdv ct), osl⟩ ∧ PySem.W.codeIn K cdv x = true ∧ PySem.W.keepIn K (.ref f) = true ∧ mg x = some (.ref f)
theorem ff_mk {K : PySem.W.Frag} {mg : Str → Option Value} {h : Heap} {x : Str} {st : Stmt} {f : Addr} {oc : Value} {od an : Option Addr} {kV doc pm cdv ct : Value} {osl : Array (Option Value)} (X : K.In h) (G : h.Ns mainGlobals mg)
    (a : PySem.W.nsIn K mainGlobals x = some (some (.ref f))) (l : K.lookup f = some ⟨oc, od, .func (PySem.W.fnOf x x (defArgs st) (defBody st) (defScope st) .none kV doc pm an cdv ct), osl⟩) (c : PySem.W.codeIn K cdv x = true) (k : PySem.W.keepIn K (.ref f) = true) : FF K mg x st :=
  ⟨f, oc, od, kV, doc, pm, cdv, ct, an, osl, l, c, k, PySem.W.mg_of X G a⟩
section
variable {P : Program} {w : World} {K : PySem.W.Frag} {mg : Str → Option Value} {base : Heap} {x : Str} {st : Stmt} {k : Nat} {ps ks : List Str} {sp : Sp}
theorem FF.cal (F : FF K mg x st) (ok : ∀ f fd, Fun K x x st f fd → FnOk P w K mg base CX0 k f fd ps sp)
    (hb : ∀ (kV doc pm : Value) (an : Option Addr) (cdv ct : Value) (us : List Value), us.length = ps.length → bindArgs (PySem.W.fnOf x x (defArgs st) (defBody st) (defScope st) .none kV doc pm an cdv ct) ⟨us, []⟩ = pure (ps.zip us)) : Cal P w K mg base x k ps sp := by
  obtain ⟨f, oc, od, kV, doc, pm, cdv, ct, an, osl, l, c, kp, m⟩ := F.ex
  exact ⟨f, _, ok f _ (fun_mk l c kp), m, kp, (fun_mk l c kp).binds hb⟩
theorem FF.calX (F : FF K mg x st) (ok : ∀ f fd, Fun K x x st f fd → FnOk P w K mg base (L2.CX P w) k f fd ps sp)
    (hb : ∀ (kV doc pm : Value) (an : Option Addr) (cdv ct : Value) (us : List Value), us.length = ps.length → bindArgs (PySem.W.fnOf x x (defArgs st) (defBody st) (defScope st) .none kV doc pm an cdv ct) ⟨us, []⟩ = pure (ps.zip us)) : CalX P w K mg base x k ps sp := by
  obtain ⟨f, oc, od, kV, doc, pm, cdv, ct, an, osl, l, c, kp, m⟩ := F.ex
  exact ⟨f, _, ok f _ (fun_mk l c kp), m, kp, (fun_mk l c kp).binds hb⟩
theorem FF.calK (F : FF K mg x st) (g : List Value → List Value) (gV : List V → List V) (ok : ∀ f fd, Fun K x x st f fd → FnOk P w K mg base CX0 k f fd ps sp)
    (hb : ∀ (kV doc pm : Value) (an : Option Addr) (cdv ct : Value) (ws : List Value), ws.length = ks.length → bindArgs (PySem.W.fnOf x x (defArgs st) (defBody st) (defScope st) .none kV doc pm an cdv ct) ⟨[], ks.zip ws⟩ = pure (ps.zip (g ws)))
    (hr : ∀ {zs : List V} {ws : List Value}, Vals zs ws → Vals (gV zs) (g ws)) : CalK P w K mg base x k ps ks gV sp := by
  obtain ⟨f, oc, od, kV, doc, pm, cdv, ct, an, osl, l, c, kp, m⟩ := F.ex
  refine ⟨f, _, g, ok f _ (fun_mk l c kp), m, kp, ⟨fun s us ws _ h0 h1 => ?_, fun _ r => hr r⟩⟩
  obtain rfl : us = [] := List.length_eq_zero_iff.mp h0
  exact .of_eq (hb kV doc pm an cdv ct ws h1)
end
theorem vals_app {a c : List V} {b d : List Value} (h1 : Vals a b) (h2 : Vals c d) : Vals (a ++ c) (b ++ d) := by
  induction h1 with
  | nil => exact h2
  | cons h t ih => exact .cons h ih
theorem vals_rev {a : List V} {b : List Value} (h : Vals a b) : Vals a.reverse b.reverse := by
  induction h with
  | nil => exact .nil
  | cons h t ih =>
    rw [List.reverse_cons, List.reverse_cons]
    exact vals_app ih (.cons h .nil)
structure Names (mg : Str → Option Value) : Prop where
  isin : mg "isinstance" = none
  int : mg "int" = none
  bool : mg "bool" = none
  str : mg "str" = none
  list : mg "list" = none
  tuple : mg "tuple" = none
  all : mg "all" = none
  len : mg "len" = none
  abs : mg "abs" = none
  range : mg "range" = none
  set : mg "set" = none
  enum : mg "enumerate" = none
  kind : ∃ t, mg "MOST_KIND" = some (.int 26 t)
  most : ∃ t, mg "MOST_NAME" = some (.int 12 t)
  alpha : ∃ t, mg "ALPHABET" = some (.str alphS t)
  digs : ∃ t, mg "DIGITS" = some (.str digS t)
  gcd : mg "gcd" = some (.builtin "math.gcd")
structure Defs (K : PySem.W.Frag) (mg : Str → Option Value) : Prop where
  d_sIsInt : FF K mg "is_integer" sIsInt
  d_sWithin : FF K mg "is_within" sWithin
  d_sLetter : FF K mg "is_letter" sLetter
  d_sName : FF K mg "is_name" sName
  d_sListed : FF K mg "is_listed" sListed
  d_sAreInts : FF K mg "are_integers" sAreInts
  d_sTwice : FF K mg "first_twice" sTwice
  d_sDivisor : FF K mg "common_divisor" sDivisor
  d_sLowest : FF K mg "lowest" sLowest
  d_sHand : FF K mg "_law_hand" sHand
  d_sTake : FF K mg "_law_take" sTake
  d_sPick : FF K mg "_law_pick" sPick
  d_sInteger : FF K mg "_law_integer" sInteger
  d_sText : FF K mg "_law_text" sText
  d_sValue : FF K mg "_law_value" sValue
  d_sIsNumber : FF K mg "_law_is_number" sIsNumber
  d_sIsName : FF K mg "_law_is_name" sIsName
  d_sSame : FF K mg "_law_same" sSame
  d_sLooks : FF K mg "_law_looks_right" sLooks
  d_sTwiceR : FF K mg "_law_twice_right" sTwiceR
  d_sHeard : FF K mg "_law_heard" sHeard
  d_sDivided : FF K mg "_law_divided_right" sDivided

theorem law_mk {P : Program} {w : World} {K : PySem.W.Frag} {mg : Str → Option Value} {base : Heap} {C fI fD fL cD cL P1 P2 : Addr} {fdD fdL : FuncData} (N : Names mg) (D : Defs K mg) (L : PySem.LowX.LowTxt K mg C fI) (hP : P1 ≠ P2)
    (FD : FunC K "_law_divided_right" sDivided fD cD fdD) (mD : mg "_law_divided_right" = some (.ref fD)) (kD : PySem.W.keepIn K (.ref fD) = true) (bD : Binds K fdD ["_law_hand_here"] []) (FL : FunC K "law" sLaw fL cL fdL)
    (TD : LamX.TabB base mg cD P1) (TL : LamX.TabB base mg cL P2) : FnOk P w K mg base CX0 7 fL fdL ["_law_script"] (spLaw K [(P1, qDiv), (P2, qLaw)]) := by
  have b1 : ∀ {x p : Str} {st : Stmt}, True := fun {_ _ _} => True.intro
  have tA : TxA mg := ⟨N.int, N.len, N.abs⟩
  have tB : TxB mg := ⟨N.isin, N.int, N.bool, N.str, N.list, N.tuple⟩
  have tC : TxC mg := ⟨N.kind, N.all⟩
  have tD : TxD mg := ⟨N.most, N.alpha, N.digs, N.all, N.len⟩
  have tE : TxE mg := ⟨N.range, N.len, N.str, N.isin, N.bool⟩
  have tH : TxH mg := ⟨N.set, N.enum, N.tuple, N.range⟩
  have tJ : TxJ mg := ⟨N.gcd⟩
  have tM : TxM mg := ⟨N.abs, N.int, N.len, N.range, N.isin, N.tuple⟩
  have cInt : Cal P w K mg base "is_integer" 1 ["value"] spIsInt := D.d_sIsInt.cal (fun f fd F => ok_isInt F tB) fun _ _ _ _ _ _ us hl => match us, hl with | [_], _ => rfl
  have cIntK : CalK P w K mg base "is_integer" 1 ["value"] ["value"] id spIsInt := D.d_sIsInt.calK id id (fun f fd F => ok_isInt F tB) (fun _ _ _ _ _ _ us hl => match us, hl with | [_], _ => rfl) fun r => r
  have cNum : Cal P w K mg base "_law_is_number" 1 ["_law_value_here"] spIsInt := D.d_sIsNumber.cal (fun f fd F => ok_isNum F tB) fun _ _ _ _ _ _ us hl => match us, hl with | [_], _ => rfl
  have cWit : Cal P w K mg base "is_within" 2 ["value", "least", "most"] spWithin := D.d_sWithin.cal (fun f fd F => ok_within F cInt) fun _ _ _ _ _ _ us hl => match us, hl with | [_, _, _], _ => rfl
  have cWitK : CalK P w K mg base "is_within" 2 ["value", "least", "most"] ["most", "least", "value"] List.reverse spWithin := D.d_sWithin.calK List.reverse List.reverse (fun f fd F => ok_within F cInt) (fun _ _ _ _ _ _ us hl => match us, hl with | [_, _, _], _ => rfl) fun r => vals_rev r
  have cLet : Cal P w K mg base "is_letter" 3 ["value"] spLetter := D.d_sLetter.cal (fun f fd F => ok_letter F cWit tC) fun _ _ _ _ _ _ us hl => match us, hl with | [_], _ => rfl
  have cLetK : CalK P w K mg base "is_letter" 3 ["value"] ["value"] id spLetter := D.d_sLetter.calK id id (fun f fd F => ok_letter F cWit tC) (fun _ _ _ _ _ _ us hl => match us, hl with | [_], _ => rfl) fun r => r
  have cNm : Cal P w K mg base "is_name" 1 ["value"] spName := D.d_sName.cal (fun f fd F => ok_name F tB tD) fun _ _ _ _ _ _ us hl => match us, hl with | [_], _ => rfl
  have cNmK : CalK P w K mg base "is_name" 1 ["value"] ["value"] id spName := D.d_sName.calK id id (fun f fd F => ok_name F tB tD) (fun _ _ _ _ _ _ us hl => match us, hl with | [_], _ => rfl) fun r => r
  have cLnm : Cal P w K mg base "_law_is_name" 1 ["_law_value_here"] spName := D.d_sIsName.cal (fun f fd F => ok_isName F tB tD) fun _ _ _ _ _ _ us hl => match us, hl with | [_], _ => rfl
  have cLst : Cal P w K mg base "is_listed" 1 ["value"] spListed := D.d_sListed.cal (fun f fd F => ok_listed F tB) fun _ _ _ _ _ _ us hl => match us, hl with | [_], _ => rfl
  have cLstK : CalK P w K mg base "is_listed" 1 ["value"] ["value"] id spListed := D.d_sListed.calK id id (fun f fd F => ok_listed F tB) (fun _ _ _ _ _ _ us hl => match us, hl with | [_], _ => rfl) fun r => r
  have cAre : Cal P w K mg base "are_integers" 2 ["value"] spAreInts := D.d_sAreInts.cal (fun f fd F => ok_areInts F cInt cLst tC) fun _ _ _ _ _ _ us hl => match us, hl with | [_], _ => rfl
  have cAreK : CalK P w K mg base "are_integers" 2 ["value"] ["value"] id spAreInts := D.d_sAreInts.calK id id (fun f fd F => ok_areInts F cInt cLst tC) (fun _ _ _ _ _ _ us hl => match us, hl with | [_], _ => rfl) fun r => r
  have cSame : Cal P w K mg base "_law_same" 1 ["_law_answer", "_law_due"] spSame := D.d_sSame.cal (fun f fd F => ok_same F tE) fun _ _ _ _ _ _ us hl => match us, hl with | [_, _], _ => rfl
  have cHand : Cal P w K mg base "_law_hand" 1 ["_law_script"] (spHand K) := D.d_sHand.cal (fun f fd F => ok_hand F tA) fun _ _ _ _ _ _ us hl => match us, hl with | [_], _ => rfl
  have cTake : Cal P w K mg base "_law_take" 1 ["_law_hand_here", "_law_many"] spTake := D.d_sTake.cal (fun f fd F => ok_take F tA) fun _ _ _ _ _ _ us hl => match us, hl with | [_, _], _ => rfl
  have cPick : Cal P w K mg base "_law_pick" 2 ["_law_hand_here", "_law_some"] spPick := D.d_sPick.cal (fun f fd F => ok_pick F cTake tE) fun _ _ _ _ _ _ us hl => match us, hl with | [_, _], _ => rfl
  have cInteger : Cal P w K mg base "_law_integer" 3 ["_law_hand_here"] spInteger := D.d_sInteger.cal (fun f fd F => ok_integer F cTake cPick) fun _ _ _ _ _ _ us hl => match us, hl with | [_], _ => rfl
  have cText : Cal P w K mg base "_law_text" 3 ["_law_hand_here"] spText := D.d_sText.cal (fun f fd F => ok_text F cTake cPick tE) fun _ _ _ _ _ _ us hl => match us, hl with | [_], _ => rfl
  have cValue : Cal P w K mg base "_law_value" 4 ["_law_hand_here"] spValue := D.d_sValue.cal (fun f fd F => ok_value F cTake cPick cInteger cText tE) fun _ _ _ _ _ _ us hl => match us, hl with | [_], _ => rfl
  have gG : CalsG P w K mg base := { num := cNum, int := cInt, intK := cIntK, nm := cNm, nmK := cNmK, lnm := cLnm, letr := cLet, letrK := cLetK, lst := cLst, lstK := cLstK, are := cAre, areK := cAreK, wit := cWit, witK := cWitK, same := cSame, integer := cInteger }
  have cLooks : Cal P w K mg base "_law_looks_right" 4 ["_law_hand_here", "_law_value_here"] spLooks := D.d_sLooks.cal (fun f fd F => ok_looks F gG tB) fun _ _ _ _ _ _ us hl => match us, hl with | [_, _], _ => rfl
  have cTw : Cal P w K mg base "first_twice" 1 ["values"] spTwice := D.d_sTwice.cal (fun f fd F => ok_twice F tH) fun _ _ _ _ _ _ us hl => match us, hl with | [_], _ => rfl
  have cTwK : CalK P w K mg base "first_twice" 1 ["values"] ["values"] id spTwice := D.d_sTwice.calK id id (fun f fd F => ok_twice F tH) (fun _ _ _ _ _ _ us hl => match us, hl with | [_], _ => rfl) fun r => r
  have cTwR : Cal P w K mg base "_law_twice_right" 3 ["_law_hand_here"] spTwR := D.d_sTwiceR.cal (fun f fd F => ok_twR F cTake cPick cTw cTwK tH) fun _ _ _ _ _ _ us hl => match us, hl with | [_], _ => rfl
  have gM : CalsM P w K mg base C := {
    take := cTake
    num := cNum
    div := D.d_sDivisor.cal (fun f fd F => ok_divI F cInt tJ) fun _ _ _ _ _ _ us hl => match us, hl with | [_, _], _ => rfl
    divK := D.d_sDivisor.calK id id (fun f fd F => ok_divI F cInt tJ) (fun _ _ _ _ _ _ us hl => match us, hl with | [_, _], _ => rfl) fun r => r
    low := D.d_sLowest.cal (fun f fd F => ok_lowI F cInt tJ) fun _ _ _ _ _ _ us hl => match us, hl with | [_, _], _ => rfl
    lowK := D.d_sLowest.calK List.reverse List.reverse (fun f fd F => ok_lowI F cInt tJ) (fun _ _ _ _ _ _ us hl => match us, hl with | [_, _], _ => rfl) fun r => vals_rev r
    lowX := D.d_sLowest.calX (fun f fd F => ok_lowX F cInt L) fun _ _ _ _ _ _ us hl => match us, hl with | [_, _], _ => rfl
    divX := D.d_sDivisor.calX (fun f fd F => ok_divX F cInt L) fun _ _ _ _ _ _ us hl => match us, hl with | [_, _], _ => rfl }
  obtain ⟨g, oc, od, kV, doc, pm, cdv, ct, an, osl, lg, cg, kg, mg1⟩ := D.d_sHeard.ex
  have hG : HearK K mg g := ⟨mg1, kg, ⟨oc, od, kV, doc, pm, cdv, ct, an, osl, lg, cg⟩⟩
  have u1 : ∀ p ∈ [(P1, qDiv), (P2, qLaw)], p.1 = P1 → p.2 = qDiv := by
    intro p hp e
    simp only [List.mem_cons, List.mem_nil_iff, or_false] at hp
    rcases hp with rfl | rfl
    · rfl
    · exact absurd e.symm hP
  have u2 : ∀ p ∈ [(P1, qDiv), (P2, qLaw)], p.1 = P2 → p.2 = qLaw := by
    intro p hp e
    simp only [List.mem_cons, List.mem_nil_iff, or_false] at hp
    rcases hp with rfl | rfl
    · exact absurd e hP
    · rfl
  have cDiv : Cal P w K mg base "_law_divided_right" 6 ["_law_hand_here"] (spDivided [(P1, qDiv), (P2, qLaw)]) := ⟨fD, fdD, ok_divided FD gM tM L hG TD (List.mem_cons_self) u1, mD, kD, bD⟩
  exact ok_law FL { hand := cHand, value := cValue, looks := cLooks, twice := cTwR, divided := cDiv, pick := cPick } gM tM L hG TL (List.mem_cons_of_mem _ List.mem_cons_self) u2
end K01
set_option Elab.async false
set_option linter.all false
set_option maxRecDepth 100000
set_option maxHeartbeats 4000000
namespace K01
open PySem L2 PySem.Spec PyProof.Rows
theorem exm_self {K : PySem.W.Frag} {S : Addr} (h1 : PySem.W.subIn K (.ref S) (.type "BaseException") = some true) (h2 : PySem.W.isClsIn K S = true) (h3 : PySem.W.typeIn K (.ref S) = some (.type "type")) (h4 : PySem.W.subIn K (.ref S) (.ref S) = some true) :
    PySem.W.exmOne K (.ref S) (.ref S) = some true := by
  have e1 : (PySem.W.subIn K (.ref S) (.type "BaseException") == some true) = true := by rw [h1] <;> rfl
  have e2 : ((PySem.W.clsIn K S).isSome && PySem.W.typeIn K (.ref S) == some (.type "type")) = true := by
    have h2' : (PySem.W.clsIn K S).isSome = true := h2
    rw [h2', h3] <;> rfl
  show (if (PySem.W.subIn K (.ref S) (.type "BaseException") == some true) = true then (if ((PySem.W.clsIn K S).isSome && PySem.W.typeIn K (.ref S) == some (.type "type")) = true then PySem.W.subIn K (.ref S) (.ref S) else none) else none) = some true
  rw [if_pos e1, if_pos e2]
  exact h4
theorem low_mk {K : PySem.W.Frag} {h : Heap} {mg : Str → Option Value} {C f1 : Addr} (X : K.In h) (G : h.Ns mainGlobals mg)
    {nm q : Str} {N : Addr} {bs bm : List Value} {sn : List Str} {sub : List Value} {ab : Bool} {col : Option Bool} {dd : Option Addr} {m0 m1 m2 m3 m5 : Option Value}
    {od1 an1 : Option Addr} {sl1 : Array (Option Value)} {oc1 dc1 pm1 cd1 ct1 : Value} {a1 a2 a3 a4 a5 a6 : Pos}
    (aC : PySem.W.nsIn K mainGlobals "BadNumber" = some (some (.ref C)))
    (xL : K.lookup C = some (excClassObj nm q C N bs bm true sn sub ab col dd m0 m1 m2 m3 m5 "ValueError.__new__")) (rv : PySem.HandSPX.refsVE bm = true)
    (sa : PySem.W.findIn K (.ref C) "__setattr__" = some (some (.builtin "object.__setattr__"))) (ga : PySem.W.findIn K (.ref C) "__getattribute__" = some (some (.builtin "BaseException.__getattribute__"))) (gg : PySem.W.findIn K (.ref C) "__getattr__" = some none) (nb : PySem.W.findIn K (.ref C) "part" = some none)
    (i1 : PySem.W.findIn K (.ref C) "__init__" = some (some (.ref f1))) (t1 : PySem.W.typeIn K (.ref f1) = some (.type "function"))
    (l1 : K.lookup f1 = some ⟨oc1, od1, .func (PySem.W.fnOf "__init__" "BadNumber.__init__" (PySem.LowX.iA a1 a2) (PySem.LowX.iB a3 a4 a5 a6) PySem.LowX.iS .none .none dc1 pm1 an1 cd1 ct1), sl1⟩) (c1 : PySem.W.codeIn K cd1 "BadNumber.__init__" = true)
    (kC : PySem.W.keepIn K (.ref C) = true) (eC : PySem.W.subIn K (.ref C) (.type "BaseException") = some true) (tC : PySem.W.typeIn K (.ref C) = some (.type "type")) (hC : PySem.W.hasDictIn K C = true) (iC : PySem.W.isClsIn K C = true) (sC : PySem.W.subIn K (.ref C) (.ref C) = some true) : ∃ C fI, PySem.LowX.LowTxt K mg C fI :=
  ⟨C, f1, { gC := PySem.W.mg_of X G aC, cls := ⟨nm, q, N, bs, bm, sn, sub, ab, col, dd, m0, m1, m2, m3, m5, xL, rv⟩, sa := sa, ga := ga, gg := gg, noN := nb, iC := i1, tC := t1, kC := kC, exC := eC, tyC := tC, hdC := hC, te := exm_self eC iC tC sC, fn := ⟨_, _, _, _, _, _, _, _, _, _, _, _, _, _, l1, c1⟩ }⟩
theorem names_mk {K : PySem.W.Frag} {h : Heap} {mg : Str → Option Value} {u0 u1 u2 u3 : Tok} (X : K.In h) (G : h.Ns mainGlobals mg)
    (n0 : PySem.W.nsIn K mainGlobals "isinstance" = some none) (n1 : PySem.W.nsIn K mainGlobals "int" = some none) (n2 : PySem.W.nsIn K mainGlobals "bool" = some none) (n3 : PySem.W.nsIn K mainGlobals "str" = some none) (n4 : PySem.W.nsIn K mainGlobals "list" = some none) (n5 : PySem.W.nsIn K mainGlobals "tuple" = some none)
    (n6 : PySem.W.nsIn K mainGlobals "all" = some none) (n7 : PySem.W.nsIn K mainGlobals "len" = some none) (n8 : PySem.W.nsIn K mainGlobals "abs" = some none) (n9 : PySem.W.nsIn K mainGlobals "range" = some none) (n10 : PySem.W.nsIn K mainGlobals "set" = some none) (n11 : PySem.W.nsIn K mainGlobals "enumerate" = some none)
    (g0 : PySem.W.nsIn K mainGlobals "MOST_KIND" = some (some (.int 26 u0))) (g1 : PySem.W.nsIn K mainGlobals "MOST_NAME" = some (some (.int 12 u1))) (g2 : PySem.W.nsIn K mainGlobals "ALPHABET" = some (some (.str alphS u2))) (g3 : PySem.W.nsIn K mainGlobals "DIGITS" = some (some (.str digS u3))) (g4 : PySem.W.nsIn K mainGlobals "gcd" = some (some (.builtin "math.gcd"))) : Names mg :=
  ⟨PySem.W.mg_none_of X G n0, PySem.W.mg_none_of X G n1, PySem.W.mg_none_of X G n2, PySem.W.mg_none_of X G n3, PySem.W.mg_none_of X G n4, PySem.W.mg_none_of X G n5, PySem.W.mg_none_of X G n6, PySem.W.mg_none_of X G n7, PySem.W.mg_none_of X G n8, PySem.W.mg_none_of X G n9, PySem.W.mg_none_of X G n10, PySem.W.mg_none_of X G n11,
    ⟨_, PySem.W.mg_of X G g0⟩, ⟨_, PySem.W.mg_of X G g1⟩, ⟨_, PySem.W.mg_of X G g2⟩, ⟨_, PySem.W.mg_of X G g3⟩, PySem.W.mg_of X G g4⟩
theorem at_mk {l : PySem.W.OpenLaw} {w : World} {K : PySem.W.Frag} {h : Heap} {mg : Str → Option Value} {fa P1 P2 : Addr} (X : K.In h) (G : h.Ns mainGlobals mg) (hfa : mg "law" = some (.ref fa)) (N : Names mg) (D : Defs K mg) (L : ∃ C fI, PySem.LowX.LowTxt K mg C fI) (hP : P1 ≠ P2)
    (t1 : h.get? P1 = some { cls := .none, data := .fields #[] }) (t2 : h.get? P2 = some { cls := .none, data := .fields #[] })
    {fD cD fL cL : Addr} {od1 an1 od2 an2 : Option Addr} {sl1 sl2 : Array (Option Value)} {oc1 kV1 dc1 pm1 ct1 oc2 kV2 dc2 pm2 ct2 : Value}
    (aD : PySem.W.nsIn K mainGlobals "_law_divided_right" = some (some (.ref fD))) (lD : K.lookup fD = some ⟨oc1, od1, .func (PySem.W.fnOf "_law_divided_right" "_law_divided_right" (defArgs sDivided) (defBody sDivided) (defScope sDivided) .none kV1 dc1 pm1 an1 (.ref cD) ct1), sl1⟩)
    (eD : PySem.W.codeIn K (.ref cD) "_law_divided_right" = true) (kD : PySem.W.keepIn K (.ref fD) = true) (hD : PySem.W.codeHdIn K cD P1 = true) (nD : K.lookup P1 = none)
    (aL : PySem.W.nsIn K mainGlobals "law" = some (some (.ref fL))) (lL : K.lookup fL = some ⟨oc2, od2, .func (PySem.W.fnOf "law" "law" (defArgs sLaw) (defBody sLaw) (defScope sLaw) .none kV2 dc2 pm2 an2 (.ref cL) ct2), sl2⟩)
    (eL : PySem.W.codeIn K (.ref cL) "law" = true) (hL : PySem.W.codeHdIn K cL P2 = true) (nL : K.lookup P2 = none) : LamX.LawAtS l w K CX0 7 63 "_law_script" mg fa h := by
  have e := hfa.symm.trans (PySem.W.mg_of X G aL)
  cases e
  obtain ⟨C, fI, L⟩ := L
  have two : ∀ {Z : Addr × Addr → Prop}, Z (cD, P1) → Z (cL, P2) → ∀ p ∈ [(cD, P1), (cL, P2)], Z p := by
    intro Z h1 h2 p hp
    simp only [List.mem_cons, List.mem_nil_iff, or_false] at hp
    rcases hp with rfl | rfl
    · exact h1
    · exact h2
  have FD : FunC K "_law_divided_right" sDivided fD cD _ := ⟨oc1, od1, kV1, dc1, pm1, an1, ct1, sl1, rfl, lD, eD⟩
  have FL : FunC K "law" sLaw fa cL _ := ⟨oc2, od2, kV2, dc2, pm2, an2, ct2, sl2, rfl, lL, eL⟩
  have bD : Binds K (PySem.W.fnOf "_law_divided_right" "_law_divided_right" (defArgs sDivided) (defBody sDivided) (defScope sDivided) .none kV1 dc1 pm1 an1 (.ref cD) ct1) ["_law_hand_here"] [] := (fun_mk (st := sDivided) lD eD kD).binds (ps := ["_law_hand_here"]) fun _ _ _ _ _ _ us hl => match us, hl with | [_], _ => rfl
  refine ⟨PySem.W.fnOf "law" "law" (defArgs sLaw) (defBody sLaw) (defScope sLaw) .none kV2 dc2 pm2 an2 (.ref cL) ct2, [(cD, P1), (cL, P2)], spLaw K [(P1, qDiv), (P2, qLaw)], two t1 t2, two nD nL, two (PySem.W.codeHd_of_K X hD) (PySem.W.codeHd_of_K X hL), fun s u => .of_eq rfl, ?_, fun base _ _ T => ?_⟩
  · intro H a ns hl _ hH hS
    refine ⟨a, ns, rfl, hS, hl, fun p hp => ?_, fun _ => rfl⟩
    simp only [List.mem_cons, List.mem_nil_iff, or_false] at hp
    rcases hp with rfl | rfl
    · exact .nil (hH (cD, P1) List.mem_cons_self)
    · exact .nil (hH (cL, P2) (List.mem_cons_of_mem _ List.mem_cons_self))
  · exact law_mk N D L hP FD (PySem.W.mg_of X G aD) kD bD FL (T (cD, P1) List.mem_cons_self) (T (cL, P2) (List.mem_cons_of_mem _ List.mem_cons_self))
end K01

open PySem PySem.W PyProof.Rows in
set_option maxRecDepth 100000 in
set_option pp.maxSteps 200 in
set_option maxHeartbeats 0 in
theorem PySem.Challenge.cw_handlerims_k01_checks_of_any_values_holds : PySem.Challenge.rw_handlerims_k01_checks_of_any_values.Holds := by
  w_on; o_law; k_head; (case hw => w_witness2)
  k_fill
  refine LamX.walk_ofTs (l := PySem.Challenge.rw_handlerims_k01_checks_of_any_values) (n := 63) (k := 7) (CX := fun _ => L2.CX0) (x := "_law_script") rfl (by decide) rfl ⟨rfl, by decide, by decide⟩ (fun w h Y => PySem.W.km_in_of Y) ?F (fun _ _ _ _ _ z => z)
  case F =>
    intro w mg fa h Y KX G hmg
    have tabs := PySem.W.km_tabs_of Y
    have hlaw : mg "law" = some (.ref fa) := hmg
    clear hmg
    have hN : K01.Names mg := by
      refine' K01.names_mk KX G ?n0 ?n1 ?n2 ?n3 ?n4 ?n5 ?n6 ?n7 ?n8 ?n9 ?n10 ?n11 ?g0 ?g1 ?g2 ?g3 ?g4
      (case n0 => k_is)
      (case n1 => k_is)
      (case n2 => k_is)
      (case n3 => k_is)
      (case n4 => k_is)
      (case n5 => k_is)
      (case n6 => k_is)
      (case n7 => k_is)
      (case n8 => k_is)
      (case n9 => k_is)
      (case n10 => k_is)
      (case n11 => k_is)
      (case g0 => k_is)
      (case g1 => k_is)
      (case g2 => k_is)
      (case g3 => k_is)
      (case g4 => k_is)
    refine' K01.at_mk (P1 := 209) (P2 := 214) KX G hlaw hN ?D ?L (by decide) (tabs 209 (by decide)) (tabs 214 (by decide)) ?aD ?lD ?eD ?kD ?hD ?nD ?aL ?lL ?eL ?hL ?nL
    case D =>
      refine' { d_sIsInt := K01.ff_mk KX G ?a0 ?l0 ?c0 ?k0, d_sWithin := K01.ff_mk KX G ?a1 ?l1 ?c1 ?k1, d_sLetter := K01.ff_mk KX G ?a2 ?l2 ?c2 ?k2, d_sName := K01.ff_mk KX G ?a3 ?l3 ?c3 ?k3, d_sListed := K01.ff_mk KX G ?a4 ?l4 ?c4 ?k4, d_sAreInts := K01.ff_mk KX G ?a5 ?l5 ?c5 ?k5, d_sTwice := K01.ff_mk KX G ?a6 ?l6 ?c6 ?k6, d_sDivisor := K01.ff_mk KX G ?a7 ?l7 ?c7 ?k7, d_sLowest := K01.ff_mk KX G ?a8 ?l8 ?c8 ?k8, d_sHand := K01.ff_mk KX G ?a9 ?l9 ?c9 ?k9, d_sTake := K01.ff_mk KX G ?a10 ?l10 ?c10 ?k10, d_sPick := K01.ff_mk KX G ?a11 ?l11 ?c11 ?k11, d_sInteger := K01.ff_mk KX G ?a12 ?l12 ?c12 ?k12, d_sText := K01.ff_mk KX G ?a13 ?l13 ?c13 ?k13, d_sValue := K01.ff_mk KX G ?a14 ?l14 ?c14 ?k14, d_sIsNumber := K01.ff_mk KX G ?a15 ?l15 ?c15 ?k15, d_sIsName := K01.ff_mk KX G ?a16 ?l16 ?c16 ?k16, d_sSame := K01.ff_mk KX G ?a17 ?l17 ?c17 ?k17, d_sLooks := K01.ff_mk KX G ?a18 ?l18 ?c18 ?k18, d_sTwiceR := K01.ff_mk KX G ?a19 ?l19 ?c19 ?k19, d_sHeard := K01.ff_mk KX G ?a20 ?l20 ?c20 ?k20, d_sDivided := K01.ff_mk KX G ?a21 ?l21 ?c21 ?k21 }
      (case a0 => k_is); (case l0 => k_is); (case c0 => k_is); (case k0 => k_is)
      (case a1 => k_is); (case l1 => k_is); (case c1 => k_is); (case k1 => k_is)
      (case a2 => k_is); (case l2 => k_is); (case c2 => k_is); (case k2 => k_is)
      (case a3 => k_is); (case l3 => k_is); (case c3 => k_is); (case k3 => k_is)
      (case a4 => k_is); (case l4 => k_is); (case c4 => k_is); (case k4 => k_is)
      (case a5 => k_is); (case l5 => k_is); (case c5 => k_is); (case k5 => k_is)
      (case a6 => k_is); (case l6 => k_is); (case c6 => k_is); (case k6 => k_is)
      (case a7 => k_is); (case l7 => k_is); (case c7 => k_is); (case k7 => k_is)
      (case a8 => k_is); (case l8 => k_is); (case c8 => k_is); (case k8 => k_is)
      (case a9 => k_is); (case l9 => k_is); (case c9 => k_is); (case k9 => k_is)
      (case a10 => k_is); (case l10 => k_is); (case c10 => k_is); (case k10 => k_is)
      (case a11 => k_is); (case l11 => k_is); (case c11 => k_is); (case k11 => k_is)
      (case a12 => k_is); (case l12 => k_is); (case c12 => k_is); (case k12 => k_is)
      (case a13 => k_is); (case l13 => k_is); (case c13 => k_is); (case k13 => k_is)
      (case a14 => k_is); (case l14 => k_is); (case c14 => k_is); (case k14 => k_is)
      (case a15 => k_is); (case l15 => k_is); (case c15 => k_is); (case k15 => k_is)
      (case a16 => k_is); (case l16 => k_is); (case c16 => k_is); (case k16 => k_is)
      (case a17 => k_is); (case l17 => k_is); (case c17 => k_is); (case k17 => k_is)
      (case a18 => k_is); (case l18 => k_is); (case c18 => k_is); (case k18 => k_is)
      (case a19 => k_is); (case l19 => k_is); (case c19 => k_is); (case k19 => k_is)
      (case a20 => k_is); (case l20 => k_is); (case c20 => k_is); (case k20 => k_is)
      (case a21 => k_is); (case l21 => k_is); (case c21 => k_is); (case k21 => k_is)
    case L =>
      refine' K01.low_mk KX G ?aC ?xL ?rv ?sa ?ga ?gg ?nb ?i1 ?t1 ?l1 ?c1 ?kC ?eC ?tC ?hC ?iC ?sC
      (case aC => k_is); (case xL => k_is); (case rv => decide +kernel); (case sa => k_is); (case ga => k_is); (case gg => k_is); (case nb => k_is)
      (case i1 => k_is); (case t1 => k_is); (case l1 => k_is); (case c1 => k_is)
      (case kC => k_is); (case eC => k_is); (case tC => k_is); (case hC => k_is); (case iC => k_is); (case sC => first | rfl | k_is)
    (case aD => k_is); (case lD => k_is); (case eD => k_is); (case kD => k_is); (case hD => first | kernel_rfl | with_unfolding_all rfl); (case nD => first | rfl | k_is)
    (case aL => k_is); (case lL => k_is); (case eL => k_is); (case hL => first | kernel_rfl | with_unfolding_all rfl); (case nL => first | rfl | k_is)
#print axioms PySem.Challenge.cw_handlerims_k01_checks_of_any_values_holds
