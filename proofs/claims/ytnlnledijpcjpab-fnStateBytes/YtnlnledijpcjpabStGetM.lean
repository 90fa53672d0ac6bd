/-
  Chapter 5: what GetState reads, as numbers: where the state's own bytes are what was read. Own work.
-/
import Derived.Test.YtnlnledijpcjpabGetAD
import Derived.Test.YtnlnledijpcjpabStPut
namespace Go.Proofs.Ytnlnledijpcjpab
open Go.ChangeShapes Go.WideShapes Go.ChangeAt Go.RowKit
set_option maxRecDepth 100000
set_option linter.unusedVariables false
/-- where the sides begin -/
def gsK (n : Nat) (f : Nat → Int) : Int := gqA 0 (gcN n f 0)
/-- the state that the numbers would be -/
def gsR (n : Nat) (f : Nat → Int) : Stt := ⟨none, gcN n f 0, gcN n f 0, 0, gqF n f 0, none, gcN n f (gsK n f), gcN n f (gsK n f), 0, gtF n f (gsK n f), gnL n f (gtA (gsK n f) (gcN n f (gsK n f))) 0, gnL n f (gtA (gsK n f) (gcN n f (gsK n f))) 1⟩
def gsP (n : Nat) (f : Nat → Int) : Bool := gqOk n f 0 && gtOk n f (gsK n f) && gnOkK 2 n f (gtA (gsK n f) (gcN n f (gsK n f)))
def gsF (n : Nat) (f : Nat → Int) : Bool := (List.range (gcN n f (gsK n f))).all (fun i => ib (gnL n f (gtA (gsK n f) i) 2) 0 1)
def gsOk (n : Nat) (f : Nat → Int) : Bool := gsP n f && gsF n f && okS (gsR n f) && decide (n = lnL (stL (gsR n f)))
theorem getD_app1 (L M : List Int) {j : Nat} (h : j < L.length) : (L ++ M).getD j 0 = L.getD j 0 := by
  simp only [List.getD]
  rw [List.getElem?_append_left h]
theorem getD_app2 (L M : List Int) {j : Nat} (h : L.length ≤ j) : (L ++ M).getD j 0 = M.getD (j - L.length) 0 := by
  simp only [List.getD]
  rw [List.getElem?_append_right h]
theorem ns_app {P : Nat → Int} {L M : List Int} (hL : ∀ j, j < L.length → L.getD j 0 = P j) (hM : ∀ j, j < M.length → M.getD j 0 = P (L.length + j)) : ∀ j, j < (L ++ M).length → (L ++ M).getD j 0 = P j := by
  intro j hj
  rw [List.length_append] at hj
  by_cases h : j < L.length
  · rw [getD_app1 L M h]; exact hL j h
  · rw [getD_app2 L M (by omega), hM (j - L.length) (by omega)]
    congr 1
    omega
theorem ns_one {P : Nat → Int} {L : List Int} {x : Int} (hL : ∀ j, j < L.length → L.getD j 0 = P j) (hx : x = P L.length) : ∀ j, j < (L ++ [x]).length → (L ++ [x]).getD j 0 = P j :=
  ns_app hL (fun j hj => by
    have : j = 0 := by simpa using hj
    subst this
    simpa using hx)
theorem gp_flags {n : Nat} {f : Nat → Int} {at' : Int} (h : gpOk n f at' = true) : ∀ k, k < 13 → (pcl (rawP n f at')).getD k 0 = gnL n f at' k := fun k hk => by
  unfold gpOk at h
  simp only [Bool.and_eq_true] at h
  obtain ⟨⟨⟨_, h2⟩, h3⟩, _⟩ := h
  have : k = 0 ∨ k = 1 ∨ k = 2 ∨ k = 3 ∨ k = 4 ∨ k = 5 ∨ k = 6 ∨ k = 7 ∨ k = 8 ∨ k = 9 ∨ k = 10 ∨ k = 11 ∨ k = 12 := by omega
  rcases this with rfl | rfl | rfl | rfl | rfl | rfl | rfl | rfl | rfl | rfl | rfl | rfl | rfl
  case inr.inr.inr.inr.inr.inr.inr.inr.inr.inr.inr.inl => exact bt_ib _ h2
  case inr.inr.inr.inr.inr.inr.inr.inr.inr.inr.inr.inr => exact bt_ib _ h3
  all_goals rfl
/-- the number at place 4 j -/
def gsN (n : Nat) (f : Nat → Int) (j : Nat) : Int := gnum n f (4 * (j : Int))
theorem gcN_int {n : Nat} {f : Nat → Int} {at' lo hi : Int} (h : gcOk n f at' lo hi = true) (h0 : 0 ≤ lo) : (gcN n f at' : Int) = gnum n f at' ∧ lo ≤ (gcN n f at' : Int) ∧ (gcN n f at' : Int) ≤ hi := by
  unfold gcOk ib at h
  simp only [Bool.and_eq_true, decide_eq_true_eq] at h
  unfold gcN
  omega
structure GsP (n : Nat) (f : Nat → Int) : Prop where
  c0 : gcOk n f 0 0 8 = true
  ps : ∀ i, i < gcN n f 0 → gpOk n f (gqA 0 i) = true
  c1 : gcOk n f (gsK n f) 2 3 = true
  ss : ∀ i, i < gcN n f (gsK n f) → gnOkK 3 n f (gtA (gsK n f) i) = true
  la : gnOkK 2 n f (gtA (gsK n f) (gcN n f (gsK n f))) = true
theorem gsP_iff {n : Nat} {f : Nat → Int} : gsP n f = true ↔ GsP n f := by
  unfold gsP gqOk gtOk
  simp only [Bool.and_eq_true, List.all_eq_true, List.mem_range]
  exact ⟨fun ⟨⟨⟨h1, h2⟩, h3, h4⟩, h5⟩ => ⟨h1, h2, h3, h4, h5⟩, fun h => ⟨⟨⟨h.c0, h.ps⟩, h.c1, h.ss⟩, h.la⟩⟩
theorem gs_stA {n : Nat} {f : Nat → Int} (h : GsP n f) : ∀ k, k ≤ gcN n f 0 → ∀ j, j < (stA (gsR n f) k).length → (stA (gsR n f) k).getD j 0 = gsN n f j
  | 0, _ => fun j hj => by
    have : j = 0 := by simpa [stA] using hj
    subst this
    exact (gcN_int h.c0 (by omega)).1
  | k + 1, hk => by
    refine ns_app (gs_stA h k (by omega)) (fun j hj => ?_)
    have hj13 : j < 13 := by simpa [pcl] using hj
    rw [stA_len]
    show (pcl (rawP n f (gqA 0 k))).getD j 0 = _
    rw [gp_flags (h.ps k (by omega)) j hj13]
    unfold gnL gsN gqA
    congr 1
    push_cast
    omega
theorem gs_stB {n : Nat} {f : Nat → Int} (h : GsP n f) (hf : gsF n f = true) : ∀ k, k ≤ gcN n f (gsK n f) → ∀ j, j < (stB (gsR n f) k).length → (stB (gsR n f) k).getD j 0 = gsN n f j
  | 0, _ => by
    refine ns_one (gs_stA h _ (Nat.le_refl _)) ?_
    show (gcN n f (gsK n f) : Int) = gsN n f (stA (gsR n f) (gcN n f 0)).length
    rw [(gcN_int h.c1 (by omega)).1, stA_len]
    unfold gsN gsK gqA
    congr 1
    push_cast
    omega
  | k + 1, hk => by
    have hb := gs_stB h hf k (by omega)
    have hl := stB_len (gsR n f) k
    have hpn : (gsR n f).pn = gcN n f 0 := rfl
    have e : ∀ i : Nat, i < 3 → gnL n f (gtA (gsK n f) k) i = gsN n f ((stB (gsR n f) k).length + i) := fun i hi => by
      rw [hl, hpn]
      unfold gnL gsN gtA gsK gqA
      congr 1
      push_cast
      omega
    have hfl : ib (gnL n f (gtA (gsK n f) k) 2) 0 1 = true := by
      unfold gsF at hf
      exact List.all_eq_true.1 hf k (List.mem_range.2 (by omega))
    refine ns_one (ns_one (ns_one hb ?_) ?_) ?_
    · exact e 0 (by omega)
    · rw [List.length_append]; exact e 1 (by omega)
    · rw [List.length_append, List.length_append]
      exact (bt_ib _ hfl).trans (e 2 (by omega))
theorem gs_stL {n : Nat} {f : Nat → Int} (h : GsP n f) (hf : gsF n f = true) : ∀ j, j < (stL (gsR n f)).length → (stL (gsR n f)).getD j 0 = gsN n f j := by
  have hl := stB_len (gsR n f) (gsR n f).sn
  have hpn : (gsR n f).pn = gcN n f 0 := rfl
  have hsn : (gsR n f).sn = gcN n f (gsK n f) := rfl
  have e : ∀ i : Nat, gnL n f (gtA (gsK n f) (gcN n f (gsK n f))) i = gsN n f ((stB (gsR n f) (gsR n f).sn).length + i) := fun i => by
    rw [hl, hpn, hsn]
    unfold gnL gsN gtA
    congr 1
    unfold gsK gqA
    push_cast
    omega
  refine ns_one (ns_one (gs_stB h hf _ (Nat.le_refl _)) (e 0)) ?_
  rw [List.length_append]
  exact e 1
theorem gs_gok {n : Nat} {f : Nat → Int} (h : GsP n f) : ∀ j, j < (stL (gsR n f)).length → gok n f (4 * (j : Int)) = true := by
  intro j hj
  rw [stL_len] at hj
  have hpn : (gsR n f).pn = gcN n f 0 := rfl
  have hsn : (gsR n f).sn = gcN n f (gsK n f) := rfl
  rw [hpn, hsn] at hj
  have hk : gsK n f = 4 + 52 * (gcN n f 0 : Int) := by unfold gsK gqA; omega
  have c1 := h.c1
  unfold gcOk at c1
  rw [Bool.and_eq_true] at c1
  have c0 := h.c0
  unfold gcOk at c0
  rw [Bool.and_eq_true] at c0
  by_cases j0 : j = 0
  · subst j0; exact c0.1
  by_cases j1 : j < 1 + 13 * gcN n f 0
  · have hp := h.ps ((j - 1) / 13) (by omega)
    unfold gpOk gnOk at hp
    simp only [Bool.and_eq_true] at hp
    have := List.all_eq_true.1 hp.1.1.1 ((j - 1) % 13) (List.mem_range.2 (by omega))
    unfold gqA at this
    rw [show (4 : Int) * (j : Int) = 0 + 4 + 52 * (((j - 1) / 13 : Nat) : Int) + 4 * (((j - 1) % 13 : Nat) : Int) by omega]
    exact this
  by_cases j2 : j = 1 + 13 * gcN n f 0
  · rw [show (4 : Int) * (j : Int) = gsK n f by omega]; exact c1.1
  have hss := h.ss
  have hla := h.la
  clear hsn
  generalize gcN n f (gsK n f) = M at hj hss hla ⊢
  by_cases j3 : j < 2 + 13 * gcN n f 0 + 3 * M
  · have hs := hss ((j - (2 + 13 * gcN n f 0)) / 3) (by omega)
    unfold gnOkK at hs
    have := List.all_eq_true.1 hs ((j - (2 + 13 * gcN n f 0)) % 3) (List.mem_range.2 (by omega))
    unfold gtA at this
    rw [show (4 : Int) * (j : Int) = gsK n f + 4 + 12 * (((j - (2 + 13 * gcN n f 0)) / 3 : Nat) : Int) + 4 * (((j - (2 + 13 * gcN n f 0)) % 3 : Nat) : Int) by omega]
    exact this
  · have hs := hla
    unfold gnOkK at hs
    have := List.all_eq_true.1 hs (j - (2 + 13 * gcN n f 0 + 3 * M)) (List.mem_range.2 (by omega))
    unfold gtA at this
    rw [show (4 : Int) * (j : Int) = gsK n f + 4 + 12 * (M : Int) + 4 * ((j - (2 + 13 * gcN n f 0 + 3 * M) : Nat) : Int) by omega]
    exact this
theorem enc_back2 {n : Nat} {f : Nat → Int} {j : Nat} (hu : U8 n f) (h : gok n f (4 * (j : Int)) = true) : ∀ k, k < 4 → enc (gsN n f j) k = f (4 * j + k) := by
  have hr := gok_rng' h
  have e4 : (4 * (j : Int)).toNat = 4 * j := by omega
  have hne : part f (4 * j) 4 ≠ 0 := by
    rw [gok_in hr, e4] at h
    simpa [num4] using h
  have h4 := part_bd4 hu (show 4 * j + 4 ≤ n by omega)
  have eg : gsN n f j = part f (4 * j) 4 - 2147483648 := by unfold gsN gnum; rw [if_pos h, e4]; rfl
  have eb : bnd (part f (4 * j) 4 - 2147483648) = part f (4 * j) 4 - 2147483648 := by unfold bnd; (repeat' split) <;> omega
  have u0 := hu (4 * j + 0) (by omega)
  have u1 := hu (4 * j + 1) (by omega)
  have u2 := hu (4 * j + 2) (by omega)
  have u3 := hu (4 * j + 3) (by omega)
  have p4 : part f (4 * j) 4 = (((0 * 256 + f (4 * j + 0)) * 256 + f (4 * j + 1)) * 256 + f (4 * j + 2)) * 256 + f (4 * j + 3) := rfl
  intro k hk
  rw [eg]
  unfold enc
  rw [eb, p4]
  have : k = 0 ∨ k = 1 ∨ k = 2 ∨ k = 3 := by omega
  rcases this with rfl | rfl | rfl | rfl
  · rw [if_pos rfl]; omega
  · rw [if_neg (by omega), if_pos rfl]; omega
  · rw [if_neg (by omega), if_neg (by omega), if_pos rfl]; omega
  · rw [if_neg (by omega), if_neg (by omega), if_neg (by omega)]; omega
theorem num4_encM {f : Nat → Int} {L : List Int} {j : Nat} (h : ∀ k, k < 4 → encM L (4 * j + k) = f (4 * j + k)) : num4 f (4 * j) = bnd (L.getD j 0) + 2147483648 := by
  have r := bnd_rng (L.getD j 0)
  have p4 : part f (4 * j) 4 = (((0 * 256 + f (4 * j + 0)) * 256 + f (4 * j + 1)) * 256 + f (4 * j + 2)) * 256 + f (4 * j + 3) := rfl
  have e : ∀ k, k < 4 → f (4 * j + k) = enc (L.getD j 0) k := fun k hk => by
    rw [← h k hk]
    unfold encM
    rw [show (4 * j + k) / 4 = j by omega, show (4 * j + k) % 4 = k by omega]
  unfold num4
  rw [p4, e 0 (by omega), e 1 (by omega), e 2 (by omega), e 3 (by omega)]
  have e0 : enc (L.getD j 0) 0 = (bnd (L.getD j 0) + 2147483648) / 16777216 := rfl
  have e1 : enc (L.getD j 0) 1 = (bnd (L.getD j 0) + 2147483648) / 65536 % 256 := rfl
  have e2 : enc (L.getD j 0) 2 = (bnd (L.getD j 0) + 2147483648) / 256 % 256 := rfl
  have e3 : enc (L.getD j 0) 3 = (bnd (L.getD j 0) + 2147483648) % 256 := rfl
  rw [e0, e1, e2, e3]
  omega
theorem stB_pre (s : Stt) (k : Nat) {j : Nat} (hj : j < (stB s k).length) : ∀ m, (stB s (k + m)).getD j 0 = (stB s k).getD j 0
  | 0 => rfl
  | m + 1 => by
    have ih := stB_pre s k hj m
    have hl := stB_len s k
    have hl2 := stB_len s (k + m)
    show (((stB s (k + m) ++ [(s.ss (k + m)).li]) ++ [(s.ss (k + m)).po]) ++ [bt (s.ss (k + m)).lo]).getD j 0 = _
    rw [getD_app1 _ _ (by simp; omega), getD_app1 _ _ (by simp; omega), getD_app1 _ _ (by omega), ih]
theorem stL_flag (s : Stt) {i : Nat} (hi : i < s.sn) : (stL s).getD (4 + 13 * s.pn + 3 * i) 0 = bt (s.ss i).lo := by
  have hl := stB_len s i
  have hl1 := stB_len s (i + 1)
  have hl2 := stB_len s s.sn
  unfold stL
  rw [getD_app1 _ _ (by simp; omega), getD_app1 _ _ (by omega)]
  have := stB_pre s (i + 1) (j := 4 + 13 * s.pn + 3 * i) (by omega) (s.sn - (i + 1))
  rw [show i + 1 + (s.sn - (i + 1)) = s.sn by omega] at this
  rw [this]
  show (((stB s i ++ [(s.ss i).li]) ++ [(s.ss i).po]) ++ [bt (s.ss i).lo]).getD _ 0 = _
  rw [getD_app2 _ _ (by simp; omega)]
  have : 4 + 13 * s.pn + 3 * i - ((stB s i ++ [(s.ss i).li]) ++ [(s.ss i).po]).length = 0 := by simp; omega
  rw [this]
  rfl
theorem gs_back {n : Nat} {f : Nat → Int} (hu : U8 n f) (h : GsP n f) : (ptN (gsR n f) = n ∧ ∀ i, i < n → ptF (gsR n f) i = f i) ↔ (gsF n f = true ∧ okS (gsR n f) = true ∧ n = lnL (stL (gsR n f))) := by
  have hpn : (gsR n f).pn = gcN n f 0 := rfl
  have hsn : (gsR n f).sn = gcN n f (gsK n f) := rfl
  constructor
  · rintro ⟨h1, h2⟩
    have h0 := gok_rng' (gs_gok h 0 (by rw [stL_len]; omega))
    have hok : okS (gsR n f) = true := by
      by_cases ho : okS (gsR n f) = true
      · exact ho
      · unfold ptN at h1
        rw [if_neg ho] at h1
        omega
    have hl : n = lnL (stL (gsR n f)) := by unfold ptN at h1; rw [if_pos hok] at h1; exact h1.symm
    refine ⟨?_, hok, hl⟩
    unfold gsF
    rw [List.all_eq_true]
    intro i hi
    have hi := List.mem_range.1 hi
    have hlen := stL_len (gsR n f)
    have hj : 4 + 13 * gcN n f 0 + 3 * i < (stL (gsR n f)).length := by omega
    have hg := gs_gok h _ hj
    have hfl := stL_flag (gsR n f) (i := i) (by omega)
    rw [hpn] at hfl
    have hnum := num4_encM (f := f) (L := stL (gsR n f)) (j := 4 + 13 * gcN n f 0 + 3 * i) (fun k hk => h2 _ (by unfold lnL at hl; omega))
    rw [hfl] at hnum
    have e1 : gnL n f (gtA (gsK n f) i) 2 = gsN n f (4 + 13 * gcN n f 0 + 3 * i) := by
      unfold gnL gsN gtA gsK gqA
      congr 1
      push_cast
      omega
    have e2 : gsN n f (4 + 13 * gcN n f 0 + 3 * i) = bnd (bt ((gsR n f).ss i).lo) := by
      unfold gsN gnum
      rw [if_pos hg, show (4 * ((4 + 13 * gcN n f 0 + 3 * i : Nat) : Int)).toNat = 4 * (4 + 13 * gcN n f 0 + 3 * i) by omega, hnum]
      omega
    rw [e1, e2]
    cases ((gsR n f).ss i).lo <;> decide
  · rintro ⟨h1, h2, h3⟩
    refine ⟨by unfold ptN; rw [if_pos h2]; exact h3.symm, fun i hi => ?_⟩
    have hj : i / 4 < (stL (gsR n f)).length := by unfold lnL at h3; omega
    unfold ptF encM
    rw [gs_stL h h1 _ hj, enc_back2 hu (gs_gok h _ hj) (i % 4) (by omega)]
    congr 1
    omega
/-- the numbers that the specification reads at once -/
theorem gs_la {n : Nat} {f : Nat → Int} : gnOkK (3 * gcN n f (gsK n f) + 2) n f (gsK n f + 4) = ((List.range (gcN n f (gsK n f))).all (fun i => gnOkK 3 n f (gtA (gsK n f) i)) && gnOkK 2 n f (gtA (gsK n f) (gcN n f (gsK n f)))) := by
  generalize gcN n f (gsK n f) = M
  generalize gsK n f = K
  rw [Bool.eq_iff_iff]
  unfold gnOkK gtA
  simp only [Bool.and_eq_true, List.all_eq_true, List.mem_range]
  constructor
  · intro h
    refine ⟨fun i hi j hj => ?_, fun j hj => ?_⟩
    · have := h (3 * i + j) (by omega)
      rw [show K + 4 + 12 * (i : Int) + 4 * (j : Int) = K + 4 + 4 * ((3 * i + j : Nat) : Int) by omega]
      exact this
    · have := h (3 * M + j) (by omega)
      rw [show K + 4 + 12 * (M : Int) + 4 * (j : Int) = K + 4 + 4 * ((3 * M + j : Nat) : Int) by omega]
      exact this
  · rintro ⟨h1, h2⟩ j hj
    by_cases hjm : j < 3 * M
    · have := h1 (j / 3) (by omega) (j % 3) (by omega)
      rw [show K + 4 + 4 * (j : Int) = K + 4 + 12 * ((j / 3 : Nat) : Int) + 4 * ((j % 3 : Nat) : Int) by omega]
      exact this
    · have := h2 (j - 3 * M) (by omega)
      rw [show K + 4 + 4 * (j : Int) = K + 4 + 12 * (M : Int) + 4 * ((j - 3 * M : Nat) : Int) by omega]
      exact this
theorem gs_num {n : Nat} {f : Nat → Int} {K : Int} (i j : Nat) : gnL n f (K + 4) (3 * i + j) = gnL n f (gtA K i) j := by
  unfold gnL gtA
  congr 1
  push_cast
  omega
theorem gs_end {n : Nat} {f : Nat → Int} : (gsK n f + 4 + 4 * ((3 * gcN n f (gsK n f) + 2 : Nat) : Int) = (n : Int)) ↔ n = lnL (stL (gsR n f)) := by
  have hpn : (gsR n f).pn = gcN n f 0 := rfl
  have hsn : (gsR n f).sn = gcN n f (gsK n f) := rfl
  unfold lnL
  rw [stL_len, hpn, hsn]
  have hk : gsK n f = 4 + 52 * (gcN n f 0 : Int) := by unfold gsK gqA; omega
  generalize gcN n f (gsK n f) = M
  rw [hk]
  omega
end Go.Proofs.Ytnlnledijpcjpab
