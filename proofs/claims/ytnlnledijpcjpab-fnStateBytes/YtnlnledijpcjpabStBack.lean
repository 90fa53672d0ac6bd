/-
  Chapter 5: a right state comes back of its bytes: the numbers. Own work.
-/
import Derived.Test.YtnlnledijpcjpabGetGI
import Derived.Test.YtnlnledijpcjpabStSame
namespace Go.Proofs.Ytnlnledijpcjpab
open Go.ChangeShapes Go.WideShapes Go.ChangeAt Go.RowKit
set_option maxRecDepth 100000
set_option linter.unusedVariables false
theorem ib_in {x a b : Int} (h : ib x a b = true) : a ≤ x ∧ x ≤ b := by
  unfold ib at h
  simpa using h
theorem ib_of {x a b : Int} (h : a ≤ x ∧ x ≤ b) : ib x a b = true := by unfold ib; simp [h]
theorem bnd_self {x : Int} (h : -2147483647 ≤ x ∧ x ≤ 2147483647) : bnd x = x := by unfold bnd; (repeat' split) <;> omega
theorem bt_rng (b : Bool) : 0 ≤ bt b ∧ bt b ≤ 1 := by cases b <;> decide
theorem bt_is (b : Bool) : (bt b == 1) = b := by cases b <;> rfl
/-- the numbers of a state's bytes -/
theorem gs_enc (L : List Int) {j : Nat} (hj : j < L.length) : gok (lnL L) (encM L) (4 * (j : Int)) = true ∧ gnum (lnL L) (encM L) (4 * (j : Int)) = bnd (L.getD j 0) := by
  have r := bnd_rng (L.getD j 0)
  have hn := num4_encM (f := encM L) (L := L) (j := j) (fun k _ => rfl)
  have e4 : (4 * (j : Int)).toNat = 4 * j := by omega
  have hg : gok (lnL L) (encM L) (4 * (j : Int)) = true := by
    rw [gok_in (by unfold lnL; omega), e4, hn]
    generalize bnd (L.getD j 0) = z at r ⊢
    simp; omega
  refine ⟨hg, ?_⟩
  unfold gnum
  rw [if_pos hg, e4, hn]
  omega
theorem stA_pre (s : Stt) (k : Nat) {j : Nat} (hj : j < (stA s k).length) : ∀ m, (stA s (k + m)).getD j 0 = (stA s k).getD j 0
  | 0 => rfl
  | m + 1 => by
    have ih := stA_pre s k hj m
    have hl := stA_len s k
    have hl2 := stA_len s (k + m)
    show (stA s (k + m) ++ pcl (s.ps (k + m))).getD j 0 = _
    rw [getD_app1 _ _ (by omega), ih]
theorem stL_B (s : Stt) {j : Nat} (hj : j < 2 + 13 * s.pn + 3 * s.sn) : (stL s).getD j 0 = (stB s s.sn).getD j 0 := by
  have hl := stB_len s s.sn
  unfold stL
  rw [getD_app1 _ _ (by simp; omega), getD_app1 _ _ (by omega)]
theorem stL_A (s : Stt) {j : Nat} (hj : j < 1 + 13 * s.pn) : (stL s).getD j 0 = (stA s s.pn).getD j 0 := by
  have hl := stA_len s s.pn
  have hl0 := stB_len s 0
  rw [stL_B s (by omega)]
  have := stB_pre s 0 (j := j) (by omega) s.sn
  rw [Nat.zero_add] at this
  rw [this]
  exact getD_app1 _ _ (by omega)
theorem stL_0 (s : Stt) : (stL s).getD 0 0 = (s.pn : Int) := by
  rw [stL_A s (by omega)]
  have := stA_pre s 0 (j := 0) (by simp [stA]) s.pn
  rw [Nat.zero_add] at this
  rw [this]
  rfl
theorem stL_P (s : Stt) {i j : Nat} (hi : i < s.pn) (hj : j < 13) : (stL s).getD (1 + 13 * i + j) 0 = (pcl (s.ps i)).getD j 0 := by
  have hl := stA_len s i
  have hl1 := stA_len s (i + 1)
  rw [stL_A s (by omega)]
  have := stA_pre s (i + 1) (j := 1 + 13 * i + j) (by omega) (s.pn - (i + 1))
  rw [show i + 1 + (s.pn - (i + 1)) = s.pn by omega] at this
  rw [this]
  show (stA s i ++ pcl (s.ps i)).getD _ 0 = _
  rw [getD_app2 _ _ (by omega), hl, show 1 + 13 * i + j - (1 + 13 * i) = j by omega]
theorem stL_S (s : Stt) : (stL s).getD (1 + 13 * s.pn) 0 = (s.sn : Int) := by
  have hl := stA_len s s.pn
  have hl0 := stB_len s 0
  rw [stL_B s (by omega)]
  have := stB_pre s 0 (j := 1 + 13 * s.pn) (by omega) s.sn
  rw [Nat.zero_add] at this
  rw [this]
  show (stA s s.pn ++ [(s.sn : Int)]).getD _ 0 = _
  rw [getD_app2 _ _ (by omega), hl, Nat.sub_self]
  rfl
theorem stL_D (s : Stt) {i : Nat} (hi : i < s.sn) : (stL s).getD (2 + 13 * s.pn + 3 * i) 0 = (s.ss i).li ∧ (stL s).getD (2 + 13 * s.pn + 3 * i + 1) 0 = (s.ss i).po ∧ (stL s).getD (2 + 13 * s.pn + 3 * i + 2) 0 = bt (s.ss i).lo := by
  have hl := stB_len s i
  have hl1 := stB_len s (i + 1)
  have key : ∀ j, j < 3 → (stL s).getD (2 + 13 * s.pn + 3 * i + j) 0 = (((stB s i ++ [(s.ss i).li]) ++ [(s.ss i).po]) ++ [bt (s.ss i).lo]).getD (2 + 13 * s.pn + 3 * i + j) 0 := fun j hj => by
    rw [stL_B s (by omega)]
    have := stB_pre s (i + 1) (j := 2 + 13 * s.pn + 3 * i + j) (by omega) (s.sn - (i + 1))
    rw [show i + 1 + (s.sn - (i + 1)) = s.sn by omega] at this
    rw [this]
    rfl
  refine ⟨?_, ?_, ?_⟩
  · have := key 0 (by omega)
    rw [Nat.add_zero] at this
    rw [this, getD_app1 _ _ (by simp; omega), getD_app1 _ _ (by simp; omega), getD_app2 _ _ (by omega), hl, Nat.sub_self]
    rfl
  · rw [key 1 (by omega), getD_app1 _ _ (by simp; omega), getD_app2 _ _ (by simp; omega)]
    have : 2 + 13 * s.pn + 3 * i + 1 - (stB s i ++ [(s.ss i).li]).length = 0 := by simp; omega
    rw [this]
    rfl
  · rw [key 2 (by omega), getD_app2 _ _ (by simp; omega)]
    have : 2 + 13 * s.pn + 3 * i + 2 - ((stB s i ++ [(s.ss i).li]) ++ [(s.ss i).po]).length = 0 := by simp; omega
    rw [this]
    rfl
theorem stL_E (s : Stt) : (stL s).getD (2 + 13 * s.pn + 3 * s.sn) 0 = s.ac ∧ (stL s).getD (2 + 13 * s.pn + 3 * s.sn + 1) 0 = s.cl := by
  have hl := stB_len s s.sn
  unfold stL
  refine ⟨?_, ?_⟩
  · rw [getD_app1 _ _ (by simp; omega), getD_app2 _ _ (by omega), hl, Nat.sub_self]
    rfl
  · rw [getD_app2 _ _ (by simp; omega)]
    have : 2 + 13 * s.pn + 3 * s.sn + 1 - (stB s s.sn ++ [s.ac]).length = 0 := by simp; omega
    rw [this]
    rfl
theorem okS_congr {s t : Stt} (h1 : t.pn = s.pn) (h2 : ∀ i, i < s.pn → t.ps i = s.ps i) (h3 : t.sn = s.sn) (h4 : ∀ i, i < s.sn → t.ss i = s.ss i) (h5 : t.ac = s.ac) (h6 : t.cl = s.cl) : okS t = okS s := by
  have all : ∀ (n : Nat) (f g : Nat → Bool), (∀ i, i < n → f i = g i) → (List.range n).all f = (List.range n).all g := fun n f g h => by
    rw [Bool.eq_iff_iff, List.all_eq_true, List.all_eq_true]
    constructor
    · intro hh i hi; rw [← h i (List.mem_range.1 hi)]; exact hh i hi
    · intro hh i hi; rw [h i (List.mem_range.1 hi)]; exact hh i hi
  unfold okS hdS psS ssS
  rw [h1, h3, h5, h6]
  rw [all s.pn (pAt t) (pAt s) (fun i hi => by
    unfold pAt
    rw [h2 i hi, h3, h6]
    by_cases h0 : i = 0
    · simp [h0]
    · rw [h2 (i - 1) (by omega)]), all s.sn (fun i => okSd (t.ss i)) (fun i => okSd (s.ss i)) (fun i hi => by rw [h4 i hi])]
theorem pc_eq {p q : Pc} (h0 : p.id = q.id) (h1 : p.ow = q.ow) (h2 : p.si = q.si) (h3 : p.zo = q.zo) (h4 : p.st = q.st) (h5 : p.po = q.po) (h6 : p.to = q.to) (h7 : p.tr = q.tr) (h8 : p.pl = q.pl) (h9 : p.mi = q.mi) (h10 : p.ma = q.ma) (h11 : p.de = q.de) (h12 : p.be = q.be) : p = q := by
  cases p; cases q; simp_all
/-- a right state comes back of its bytes -/
theorem gs_there {s : Stt} (h : okS s = true) : gsOk (ptN s) (ptF s) = true ∧ smS (gsR (ptN s) (ptF s)) s = true := by
  have hN : ptN s = lnL (stL s) := by unfold ptN; rw [if_pos h]
  rw [hN]
  show gsOk (lnL (stL s)) (encM (stL s)) = true ∧ smS (gsR (lnL (stL s)) (encM (stL s))) s = true
  obtain ⟨p1, p2, p3, p4⟩ := okS_parts h
  have hh := h
  unfold okS hdS ssS at hh
  simp only [Bool.and_eq_true, decide_eq_true_eq, List.all_eq_true, List.mem_range] at hh
  obtain ⟨⟨⟨⟨⟨_, _⟩, hac⟩, hcl⟩, _⟩, hss⟩ := hh
  have hac := ib_in hac
  have hcl := ib_in hcl
  have hlen := stL_len s
  have G : ∀ j, j < 4 + 13 * s.pn + 3 * s.sn → gok (lnL (stL s)) (encM (stL s)) (4 * (j : Int)) = true ∧ gnum (lnL (stL s)) (encM (stL s)) (4 * (j : Int)) = bnd ((stL s).getD j 0) := fun j hj => gs_enc (stL s) (by omega)
  have hnn : lnL (stL s) = 4 * (4 + 13 * s.pn + 3 * s.sn) := by unfold lnL; rw [hlen]
  generalize lnL (stL s) = n at G hnn ⊢
  generalize encM (stL s) = f at G ⊢
  have g0 := G 0 (by omega)
  rw [stL_0, bnd_self (by omega)] at g0
  have hc0 : gcN n f 0 = s.pn := by unfold gcN; rw [show (0 : Int) = 4 * ((0 : Nat) : Int) by omega, g0.2]; omega
  have hK : gsK n f = 4 * ((1 + 13 * s.pn : Nat) : Int) := by unfold gsK gqA; rw [hc0]; push_cast; omega
  have g1 := G (1 + 13 * s.pn) (by omega)
  rw [stL_S, bnd_self (by omega)] at g1
  have hc1 : gcN n f (gsK n f) = s.sn := by unfold gcN; rw [hK, g1.2]; omega
  have hP : ∀ i, i < s.pn → ∀ j : Nat, j < 13 → gok n f (gqA 0 i + 4 * (j : Int)) = true ∧ gnL n f (gqA 0 i) j = bnd ((pcl (s.ps i)).getD j 0) := fun i hi j hj => by
    have := G (1 + 13 * i + j) (by omega)
    rw [stL_P s hi hj] at this
    unfold gnL
    rw [show gqA 0 i + 4 * (j : Int) = 4 * ((1 + 13 * i + j : Nat) : Int) by unfold gqA; push_cast; omega]
    exact this
  have hps : ∀ i, i < s.pn → rawP n f (gqA 0 i) = s.ps i ∧ gpOk n f (gqA 0 i) = true := fun i hi => by
    have ho := p4 i hi
    have ho2 := ho
    unfold okP okA okB at ho2
    simp only [Bool.and_eq_true] at ho2
    obtain ⟨⟨⟨⟨⟨⟨⟨⟨⟨h0, h1⟩, h2⟩, h3⟩, h4⟩, h5⟩, h6⟩, h7⟩, ⟨⟨h8, h9⟩, h10⟩⟩, _⟩ := ho2
    have b0 := ib_in h0
    have b1 := ib_in h1
    have b2 := ib_in h2
    have b3 := ib_in h3
    have b4 := ib_in h4
    have b5 := ib_in h5
    have b6 := ib_in h6
    have b7 := ib_in h7
    have b8 := ib_in h8
    have b9 := ib_in h9
    have b10 := ib_in h10
    have b11 := bt_rng (s.ps i).de
    have b12 := bt_rng (s.ps i).be
    have q := fun j (hj : j < 13) => (hP i hi j hj).2
    have e11 : gnL n f (gqA 0 i) 11 = bt (s.ps i).de := (q 11 (by omega)).trans (bnd_self (show -2147483647 ≤ bt (s.ps i).de ∧ bt (s.ps i).de ≤ 2147483647 by omega))
    have e12 : gnL n f (gqA 0 i) 12 = bt (s.ps i).be := (q 12 (by omega)).trans (bnd_self (show -2147483647 ≤ bt (s.ps i).be ∧ bt (s.ps i).be ≤ 2147483647 by omega))
    have hr : rawP n f (gqA 0 i) = s.ps i := by
      refine pc_eq ((q 0 (by omega)).trans (bnd_self ?_)) ((q 1 (by omega)).trans (bnd_self ?_)) ((q 2 (by omega)).trans (bnd_self ?_)) ((q 3 (by omega)).trans (bnd_self ?_)) ((q 4 (by omega)).trans (bnd_self ?_)) ((q 5 (by omega)).trans (bnd_self ?_)) ((q 6 (by omega)).trans (bnd_self ?_)) ((q 7 (by omega)).trans (bnd_self ?_)) ((q 8 (by omega)).trans (bnd_self ?_)) ((q 9 (by omega)).trans (bnd_self ?_)) ((q 10 (by omega)).trans (bnd_self ?_)) ?_ ?_
      case refine_12 => show (gnL n f (gqA 0 i) 11 == 1) = _; rw [e11]; exact bt_is _
      case refine_13 => show (gnL n f (gqA 0 i) 12 == 1) = _; rw [e12]; exact bt_is _
      case refine_1 => show -2147483647 ≤ (s.ps i).id ∧ (s.ps i).id ≤ 2147483647; omega
      case refine_2 => show -2147483647 ≤ (s.ps i).ow ∧ (s.ps i).ow ≤ 2147483647; omega
      case refine_3 => show -2147483647 ≤ (s.ps i).si ∧ (s.ps i).si ≤ 2147483647; omega
      case refine_4 => show -2147483647 ≤ (s.ps i).zo ∧ (s.ps i).zo ≤ 2147483647; omega
      case refine_5 => show -2147483647 ≤ (s.ps i).st ∧ (s.ps i).st ≤ 2147483647; omega
      case refine_6 => show -2147483647 ≤ (s.ps i).po ∧ (s.ps i).po ≤ 2147483647; omega
      case refine_7 => show -2147483647 ≤ (s.ps i).to ∧ (s.ps i).to ≤ 2147483647; omega
      case refine_8 => show -2147483647 ≤ (s.ps i).tr ∧ (s.ps i).tr ≤ 2147483647; omega
      case refine_9 => show -2147483647 ≤ (s.ps i).pl ∧ (s.ps i).pl ≤ 2147483647; omega
      case refine_10 => show -2147483647 ≤ (s.ps i).mi ∧ (s.ps i).mi ≤ 2147483647; omega
      case refine_11 => show -2147483647 ≤ (s.ps i).ma ∧ (s.ps i).ma ≤ 2147483647; omega
    refine ⟨hr, ?_⟩
    unfold gpOk gnOk
    rw [hr, ho, e11, e12, ib_of b11, ib_of b12]
    simp only [Bool.and_true, List.all_eq_true, List.mem_range]
    exact fun j hj => (hP i hi j hj).1
  have hD : ∀ i, i < s.sn → ∀ j : Nat, j < 3 → gok n f (gtA (gsK n f) i + 4 * (j : Int)) = true ∧ gnL n f (gtA (gsK n f) i) j = bnd ((stL s).getD (2 + 13 * s.pn + 3 * i + j) 0) := fun i hi j hj => by
    have := G (2 + 13 * s.pn + 3 * i + j) (by omega)
    unfold gnL
    rw [show gtA (gsK n f) i + 4 * (j : Int) = 4 * ((2 + 13 * s.pn + 3 * i + j : Nat) : Int) by unfold gtA; rw [hK]; push_cast; omega]
    exact this
  have hds : ∀ i, i < s.sn → gtF n f (gsK n f) i = s.ss i ∧ ib (gnL n f (gtA (gsK n f) i) 2) 0 1 = true := fun i hi => by
    obtain ⟨d0, d1, d2⟩ := stL_D s hi
    have ho := hss i hi
    unfold okSd at ho
    rw [Bool.and_eq_true] at ho
    have o0 := ib_in ho.1
    have o1 := ib_in ho.2
    have o2 := bt_rng (s.ss i).lo
    have e0 := (hD i hi 0 (by omega)).2
    have e1 := (hD i hi 1 (by omega)).2
    have e2 := (hD i hi 2 (by omega)).2
    rw [Nat.add_zero, d0, bnd_self (by omega)] at e0
    rw [d1, bnd_self (by omega)] at e1
    rw [d2, bnd_self (by omega)] at e2
    refine ⟨?_, by rw [e2]; exact ib_of o2⟩
    unfold gtF
    rw [e0, e1, e2, bt_is]
  have hE : ∀ j : Nat, j < 2 → gok n f (gtA (gsK n f) s.sn + 4 * (j : Int)) = true ∧ gnL n f (gtA (gsK n f) s.sn) j = bnd ((stL s).getD (2 + 13 * s.pn + 3 * s.sn + j) 0) := fun j hj => by
    have := G (2 + 13 * s.pn + 3 * s.sn + j) (by omega)
    unfold gnL
    rw [show gtA (gsK n f) s.sn + 4 * (j : Int) = 4 * ((2 + 13 * s.pn + 3 * s.sn + j : Nat) : Int) by unfold gtA; rw [hK]; push_cast; omega]
    exact this
  have e0 := (hE 0 (by omega)).2
  have e1 := (hE 1 (by omega)).2
  obtain ⟨d0, d1⟩ := stL_E s
  rw [Nat.add_zero, d0, bnd_self (by omega)] at e0
  rw [d1, bnd_self (by omega)] at e1
  have a1 : (gsR n f).pn = s.pn := hc0
  have a2 : ∀ i, i < s.pn → (gsR n f).ps i = s.ps i := fun i hi => (hps i hi).1
  have a3 : (gsR n f).sn = s.sn := hc1
  have a4 : ∀ i, i < s.sn → (gsR n f).ss i = s.ss i := fun i hi => (hds i hi).1
  have a5 : (gsR n f).ac = s.ac := by show gnL n f (gtA (gsK n f) (gcN n f (gsK n f))) 0 = _; rw [hc1]; exact e0
  have a6 : (gsR n f).cl = s.cl := by show gnL n f (gtA (gsK n f) (gcN n f (gsK n f))) 1 = _; rw [hc1]; exact e1
  refine ⟨?_, ?_⟩
  · have hgp : GsP n f := by
      refine ⟨?_, fun i hi => (hps i (by omega)).2, ?_, fun i hi => ?_, ?_⟩
      · have z1 : gok n f 0 = true := g0.1
        have z2 : gnum n f 0 = (s.pn : Int) := g0.2
        unfold gcOk
        rw [z1, z2, ib_of (by omega)]
        rfl
      · unfold gcOk
        rw [hK, g1.1, g1.2, ib_of (by omega)]
        rfl
      · unfold gnOkK
        rw [List.all_eq_true]
        exact fun j hj => (hD i (by omega) j (List.mem_range.1 hj)).1
      · unfold gnOkK
        rw [List.all_eq_true, hc1]
        exact fun j hj => (hE j (List.mem_range.1 hj)).1
    have hF : gsF n f = true := by
      unfold gsF
      rw [List.all_eq_true, hc1]
      exact fun i hi => (hds i (List.mem_range.1 hi)).2
    unfold gsOk
    rw [gsP_iff.2 hgp, hF, okS_congr a1 a2 a3 a4 a5 a6, h]
    simp only [Bool.true_and, decide_eq_true_eq]
    unfold lnL
    rw [stL_len, a1, a3]
    exact hnn
  · unfold smS eqD eqR
    rw [a1, a3, a5, a6]
    simp only [decide_true, Bool.true_and, Bool.and_eq_true, List.all_eq_true, List.mem_range]
    exact ⟨fun i hi => by rw [a4 i hi]; exact smD_self _, fun i hi => by rw [a2 i hi]; exact smP_self _⟩
theorem gs_empty (f : Nat → Int) : gsOk 0 f = false := by
  have : gok 0 f 0 = false := by unfold gok; simp
  unfold gsOk gsP gqOk gcOk
  rw [this]
  rfl
end Go.Proofs.Ytnlnledijpcjpab
