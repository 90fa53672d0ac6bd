/-
  The contract of the specification's SetOf: the numbers of a list, each once, ascending. Own work.
-/
import Derived.Test.YtdncgoippljlfaaSetOf
import Derived.Deep.QuietTactic
import Derived.BigQuiet
namespace Go.Proofs.Ytdncgoippljlfaa
open Go.ChangeShapes Go.WideShapes Go.ChangeAt Go.RowKit

theorem below_new' (w : World) (o : Obj) : Below w.heap.size w (w.alloc o) := (Below.refl _ _).alloc (Nat.le_refl _) _
theorem Rd.first' {k : IntKind} {w : World} {b : Nat} {a : Option Addr} {n m : Nat} {f : Nat → Int} (h : Rd k w b a n f) (hm : m ≤ n) : Rd k w b a m f := by
  rcases h with h | ⟨off, ha, hc⟩
  · exact .inl (by omega)
  · exact .inr ⟨off, ha, fun i hi => hc i (by omega)⟩
theorem Rd.off0 {k : IntKind} {w : World} {b : Nat} {n i m : Nat} {f : Nat → Int} (h : Rd k w b (some ⟨b, 0, none⟩) n f) (hm : i + m ≤ n) : Rd k w b (some ⟨b, i, none⟩) m (fun j => f (i + j)) := by
  by_cases h0 : m = 0
  · exact .inl h0
  rcases h with h | ⟨off', ha, hc⟩
  · omega
  · simp only [Option.some.injEq, Addr.mk.injEq, and_true, true_and] at ha
    subst ha
    exact .inr ⟨i, rfl, fun j hj => by have := hc (i + j) (by omega); rwa [Nat.zero_add] at this⟩
theorem Rd.news' {k : IntKind} {w : World} {b : Nat} {ad : Addr} {n : Nat} {f : Nat → Int} (h : Rd k w b (some ad) n f) : ∀ j u, (vals k n f)[j]? = some u → w.cell? (ad.add j) = some u := by
  intro j u hu
  by_cases hn : 0 < n
  · obtain ⟨x, e, hx⟩ := h.src hn
    simp only [Option.some.injEq] at e
    subst e
    exact hx j u hu
  · rw [vals_get, if_neg (by omega)] at hu; cases hu
set_option maxRecDepth 100000 in
set_option maxHeartbeats 4000000 in
theorem specSetOf_any (a : Option Addr) (b n c : Nat) (f : Nat → Int) (w : World) (hn : n ≤ 3000000) (h : Rd .i64 w b a n f) :
    Calls Try.prog 44 #[.slice a n c] w fun e w' => ∃ q cap, e = .returned (.slice (some ⟨q, 0, none⟩) (stN n f) cap) ∧ Below w.heap.size w w' ∧ Own .i64 w' w.heap.size q (some ⟨q, 0, none⟩) (stN n f) (stF n f) := by
  obtain ⟨i0, hi, hz0, hz1, hz2⟩ := info_parts Try.infoInt
  go_enter Try.func44, Try.ntmps44
  go_wp2
  go_loopw [3, 4] (fun v i wr => ∃ k q N cap : Nat, ∃ S : List Int, k ≤ n ∧ i = .int .i64 k ∧ v = .slice (some ⟨q, 0, none⟩) N cap ∧ N ≤ cap ∧ Hid (S = setL (lst k f) ∧ N = S.length) ∧ Below w.heap.size w wr ∧ Own .i64 wr w.heap.size q (some ⟨q, 0, none⟩) N (el S)) (fun _ i _ => n - (intOf i).toNat)
  case atStart => exact ⟨0, w.heap.size, 0, 0, [], Nat.zero_le _, rfl, rfl, Nat.le_refl _, ⟨rfl, rfl⟩, (Below.refl _ _).alloc (Nat.le_refl _) _, ⟨Nat.le_refl _, by simp, .inl rfl, free_row (heap_alloc_new w _)⟩⟩
  case round =>
    obtain ⟨k, q, N, cap, S, hk, rfl, rfl, hcp, HS, hb, ho⟩ := hrel
    have hS : Asc S := by rw [HS.out.1]; exact asc_setL _
    have hNk : N ≤ k := by
      have h1 := setL_len (lst k f)
      rw [lst_len, ← HS.out.1, ← HS.out.2] at h1
      exact h1
    by_cases hlt : k < n
    · have hrd := h.grew hb
      rcases hrd with h3 | ⟨o1, rfl, h3⟩
      · omega
      have e1 := h3 k hlt
      clear h3
      obtain ⟨x, hx⟩ : ∃ x, x = f k := ⟨_, rfl⟩
      rw [← hx] at e1
      have HX : Hid (x = f k) := hx
      clear hx
      have HI : Hid (setL (lst (k + 1) f) = ins x S) := show _ = _ by rw [lst_succ, setL_snoc, ← HS.out.1, HX.out]
      have hl : lst N (el S) = S := by rw [HS.out.2]; exact lst_el S
      have HL : Hid (lst N (el S) = S) := hl
      clear hl
      cases hh : hs N (el S) x with
      | true =>
        have HT : Hid (setL (lst (k + 1) f) = S) := show _ = _ by
          rw [HI.out]
          refine ins_there hS ?_
          unfold hs at hh
          rw [HL.out, List.contains_iff_mem] at hh
          exact hh
        go_wp2_with fail
        refine (specHas_any _ q N cap x (el S) wr (by omega) ho.rd).mono ?_
        rintro e w' ⟨rfl, rfl⟩
        go_wp2
        go_roundw
        case rel => exact ⟨k + 1, q, N, cap, S, by omega, by go_num, rfl, hcp, ⟨HT.out.symm, HS.out.2⟩, hb, ho⟩
        case measure => simp [intOf]; omega
      | false =>
        have hne : Hid (∀ j, j < N → el S j ≠ x) := fun j hj e => by
          have := hs_yes hj e
          rw [hh] at this; cases this
        go_wp2_with fail
        refine (specHas_any _ q N cap x (el S) wr (by omega) ho.rd).mono ?_
        rintro e w' ⟨rfl, rfl⟩
        go_wp2
        go_loopw [5] (fun kk wi => ∃ m : Nat, m ≤ N ∧ kk = .int .i64 m ∧ Below w'.heap.size w' wi ∧ Hid (∀ j, m ≤ j → j < N → x < el S j)) (fun kk _ => (intOf kk).toNat)
        case atStart => exact ⟨N, Nat.le_refl _, rfl, Below.refl _ _, fun j h1 h2 => by omega⟩
        case round =>
          obtain ⟨m, hm, rfl, hbi, hgt⟩ := hrel
          have e1' := (hbi.cell (p := ⟨b, o1 + k, none⟩) (World.block_lt_of_cell? _ _ e1)).trans e1
          have hoi := ho.grew hbi
          by_cases hm0 : 0 < m
          · have e2 := hoi.cell (m - 1) (by omega)
            rw [Nat.zero_add] at e2
            have x1 : (0 : Int) < (m : Int) := by omega
            have x2 : IntKind.i64.wrap ((m : Int) - 1) = ((m - 1 : Nat) : Int) := by rw [IntWalk.i64_in _ (by omega)]; omega
            by_cases hgt2 : x < el S (m - 1)
            · have hgt3 : Hid (∀ j, m - 1 ≤ j → j < N → x < el S j) := fun j h1 h2 => by
                by_cases e : j = m - 1
                · subst e; exact hgt2
                · exact hgt j (by omega) h2
              clear hgt e1
              go_wp2
              go_quiet (fail)
              go_wp2
              go_roundw
              case rel => exact ⟨m - 1, by omega, by go_num, below_drewN hbi _, hgt3⟩
              case measure => simp [intOf]; omega
            · have x3 : el S (m - 1) ≤ x := by omega
              have hlow : ∀ j, j < m → el S j < x := fun j hj => by
                have h1 := hne.out (m - 1) (by omega)
                by_cases e : j = m - 1
                · subst e; omega
                · have := asc_lt hS (i := j) (j := m - 1) (by omega) (by rw [← HS.out.2]; omega)
                  omega
              have hgt' := hgt.out
              go_wp2
              go_quiet (fail)
              go_wp2
              clear x2 x3 e2 hgt2
              obtain ⟨wz, hwz⟩ : ∃ z, z = wr.drewN nq := ⟨_, rfl⟩
              rw [← hwz]
              have hbz : Below w'.heap.size w' wz := by rw [hwz]; exact below_drewN hbi nq
              have hoz := ho.grew hbz
              have e1z := (hbz.cell (p := ⟨b, o1 + k, none⟩) (World.block_lt_of_cell? _ _ e1)).trans e1
              clear hwz hbi hoi e1' hgt
              have hNS : Hid (N = S.length) := HS.out.2
              have HIN : Hid (ins x S = S.take m ++ [x] ++ S.drop m) := ins_at hS (by rw [← hNS.out]; exact hm) hlow (fun j h1 h2 => hgt' j h1 (by rw [hNS.out]; exact h2))
              clear hgt' hlow
              have y1 : (0 : Int) ≤ (m : Int) := by omega
              have y2 : (m : Int) ≤ (cap : Int) := by omega
              have y3 : (m : Int) ≤ (N : Int) := by omega
              have y4 : (k : Int) < (n : Int) := by omega
              have hA1 : Below wz.heap.size wz (wz.alloc (.cells #[] 3)) := below_new' _ _
              have hA2 : Below wz.heap.size wz ((wz.alloc (.cells #[] 3)).alloc (.cells #[.int .i64 x] 3)) := hA1.alloc hA1.size _
              have hA3 : Below wz.heap.size wz ((wz.alloc (.cells #[.int .i64 x] 3)).alloc (.cells #[] 3)) := (below_new' _ _).alloc (below_new' _ _).size _
              have e1a := (hA1.cell (p := ⟨b, o1 + k, none⟩) (World.block_lt_of_cell? _ _ e1z)).trans e1z
              have hX1 : Hid ((wz.alloc (.cells #[] 3)).heap[wz.heap.size]? = some (.cells #[] 3 (0, 0))) := heap_alloc_new wz _
              have hX2 : Hid (((wz.alloc (.cells #[] 3)).alloc (.cells #[.int .i64 x] 3)).heap[wz.heap.size]? = some (.cells #[] 3 (0, 0))) := (Below.heap_alloc _ _ _ (by simp)).trans (heap_alloc_new wz _)
              have hX3 : Hid (((wz.alloc (.cells #[.int .i64 x] 3)).alloc (.cells #[] 3)).heap[wz.heap.size + 1]? = some (.cells #[] 3 (0, 0))) := show _ = _ by have := heap_alloc_new (wz.alloc (.cells #[.int .i64 x] 3)) (.cells #[] 3 (0, 0)); simpa using this
              have hY2 : Hid (((wz.alloc (.cells #[] 3)).alloc (.cells #[.int .i64 x] 3)).heap[wz.heap.size + 1]? = some (.cells [Value.int .i64 x].toArray 3 (0, 0))) := show _ = _ by have := heap_alloc_new (wz.alloc (.cells #[] 3)) (.cells #[.int .i64 x] 3 (0, 0)); simpa using this
              have hY3 : Hid (((wz.alloc (.cells #[.int .i64 x] 3)).alloc (.cells #[] 3)).heap[wz.heap.size]? = some (.cells [Value.int .i64 x].toArray 3 (0, 0))) := (Below.heap_alloc _ _ _ (by simp)).trans (heap_alloc_new wz _)
              have hN1 : Hid (∀ j u, (vals .i64 m (el S))[j]? = some u → (wz.alloc (.cells #[] 3)).cell? ((⟨q, 0, none⟩ : Addr).add j) = some u) := ((hoz.rd.grew hA1).first' hm).news'
              have hN2 : Hid (∀ j u, (vals .i64 m (el S))[j]? = some u → ((wz.alloc (.cells #[] 3)).alloc (.cells #[.int .i64 x] 3)).cell? ((⟨q, 0, none⟩ : Addr).add j) = some u) := ((hoz.rd.grew hA2).first' hm).news'
              have hN3 : Hid (∀ j u, (vals .i64 m (el S))[j]? = some u → ((wz.alloc (.cells #[.int .i64 x] 3)).alloc (.cells #[] 3)).cell? ((⟨q, 0, none⟩ : Addr).add j) = some u) := ((hoz.rd.grew hA3).first' hm).news'
              rcases Nat.lt_or_ge m cap with hmc | hmc
              · have y5 : ¬ cap = m := by omega
                go_wp2
                go_region_law (first | (refine step_append rfl (.tmp 37) (.tmp 40) 35 rfl wz.heap.size 3 i0 (.int .i64 0) 8 Try.underlying35 hi hz0 hz1 hz2 rfl (.slice (some ⟨wz.heap.size, 0, none⟩) 0 0) 0 [] rfl (own_empty hX1.out (by omega)) ⟨q, 0, none⟩ m cap (vals .i64 m (el S)) rfl (vals_len _ _ _) hN1.out (vals_one _ _ _) (by unfold maxLen; omega) (by omega) hA1.size ?_; intro v4 w4 hown4 hgr4 hnil4; have hv4 : v4 ≠ .slice none 0 0 := fun e => (by have h9 := (hnil4.1 e).1; simp at h9); have hb4 : Below wz.heap.size wz w4 := (hA1.drew).grown hgr4 hA1.size (fun k' hk' => (by simp [Value.ownBlock] at hk'; omega)); simp only [Nat.zero_add, List.nil_append] at hown4; have e4 := (hb4.cell (p := ⟨b, o1 + k, none⟩) (World.block_lt_of_cell? _ _ e1z)).trans e1z; clear hnil4 hgr4) | (refine step_append rfl (.tmp 37) (.tmp 40) 35 rfl wz.heap.size 3 i0 (.int .i64 0) 8 Try.underlying35 hi hz0 hz1 hz2 rfl (.slice (some ⟨wz.heap.size, 0, none⟩) 0 0) 0 [] rfl (own_empty hX2.out (by omega)) ⟨q, 0, none⟩ m cap (vals .i64 m (el S)) rfl (vals_len _ _ _) hN2.out (vals_one _ _ _) (by unfold maxLen; omega) (by omega) hA2.size ?_; intro v4 w4 hown4 hgr4 hnil4; have hv4 : v4 ≠ .slice none 0 0 := fun e => (by have h9 := (hnil4.1 e).1; simp at h9); have hb4 : Below wz.heap.size wz w4 := (hA2.drew).grown hgr4 hA2.size (fun k' hk' => (by simp [Value.ownBlock] at hk'; omega)); simp only [Nat.zero_add, List.nil_append] at hown4; have e4 := (hb4.cell (p := ⟨b, o1 + k, none⟩) (World.block_lt_of_cell? _ _ e1z)).trans e1z; have hn4 : ∀ j u, [Value.int .i64 x][j]? = some u → w4.cell? ((⟨wz.heap.size + 1, 0, none⟩ : Addr).add j) = some u := news_row ((hgr4.block (wz.heap.size + 1) (by simp) (by simp [Value.ownBlock])).trans hY2.out); clear hnil4 hgr4) | (refine step_append rfl (.tmp 37) (.tmp 40) 35 rfl wz.heap.size 3 i0 (.int .i64 0) 8 Try.underlying35 hi hz0 hz1 hz2 rfl (.slice (some ⟨wz.heap.size + 1, 0, none⟩) 0 0) 0 [] rfl (own_empty hX3.out (by omega)) ⟨q, 0, none⟩ m cap (vals .i64 m (el S)) rfl (vals_len _ _ _) hN3.out (vals_one _ _ _) (by unfold maxLen; omega) (by omega) hA3.size ?_; intro v4 w4 hown4 hgr4 hnil4; have hv4 : v4 ≠ .slice none 0 0 := fun e => (by have h9 := (hnil4.1 e).1; simp at h9); have hb4 : Below wz.heap.size wz w4 := (hA3.drew).grown hgr4 hA3.size (fun k' hk' => (by simp [Value.ownBlock] at hk'; omega)); simp only [Nat.zero_add, List.nil_append] at hown4; have e4 := (hb4.cell (p := ⟨b, o1 + k, none⟩) (World.block_lt_of_cell? _ _ e1z)).trans e1z; have hn4 : ∀ j u, [Value.int .i64 x][j]? = some u → w4.cell? ((⟨wz.heap.size, 0, none⟩ : Addr).add j) = some u := news_row ((hgr4.block wz.heap.size (by simp; omega) (by simp [Value.ownBlock])).trans hY3.out); clear hnil4 hgr4) | (refine step_append rfl (.tmp 41) (.tmp 46) 35 rfl wz.heap.size 3 i0 (.int .i64 0) 8 Try.underlying35 hi hz0 hz1 hz2 rfl v4 m (vals .i64 m (el S)) rfl (hown4.alloc _) ⟨w4.heap.size, 0, none⟩ 1 1 [.int .i64 x] rfl rfl (news_row (heap_alloc_new w4 _)) (by intro u hu; simp at hu; subst hu; rfl) (by unfold maxLen; omega) (by omega) (hb4.alloc hb4.size (.cells #[.int .i64 x] 3)).size ?_; intro v5 w5 hown5 hgr5 hnil5; have hv5 : v5 ≠ .slice none 0 0 := fun e => hv4 (hnil5.1 e).1; have hb5 : Below wz.heap.size wz w5 := (hb4.alloc hb4.size (.cells #[.int .i64 x] 3)).grown hgr5 (hb4.alloc hb4.size (.cells #[.int .i64 x] 3)).size (fun k' hk' => (hown4.lt k' hk').1); clear hnil5 hgr5) | (refine step_append rfl (.tmp 41) (.tmp 46) 35 rfl wz.heap.size 3 i0 (.int .i64 0) 8 Try.underlying35 hi hz0 hz1 hz2 rfl v4 m (vals .i64 m (el S)) rfl hown4 ⟨wz.heap.size + 1, 0, none⟩ 1 1 [.int .i64 x] rfl rfl hn4 (by intro u hu; simp at hu; subst hu; rfl) (by unfold maxLen; omega) (by omega) hb4.size ?_; intro v5 w5 hown5 hgr5 hnil5; have hv5 : v5 ≠ .slice none 0 0 := fun e => hv4 (hnil5.1 e).1; have hb5 : Below wz.heap.size wz w5 := hb4.grown hgr5 hb4.size (fun k' hk' => (hown4.lt k' hk').1); clear hnil5 hgr5) | (refine step_append rfl (.tmp 41) (.tmp 46) 35 rfl wz.heap.size 3 i0 (.int .i64 0) 8 Try.underlying35 hi hz0 hz1 hz2 rfl v4 m (vals .i64 m (el S)) rfl hown4 ⟨wz.heap.size, 0, none⟩ 1 1 [.int .i64 x] rfl rfl hn4 (by intro u hu; simp at hu; subst hu; rfl) (by unfold maxLen; omega) (by omega) hb4.size ?_; intro v5 w5 hown5 hgr5 hnil5; have hv5 : v5 ≠ .slice none 0 0 := fun e => hv4 (hnil5.1 e).1; have hb5 : Below wz.heap.size wz w5 := hb4.grown hgr5 hb4.size (fun k' hk' => (hown4.lt k' hk').1); clear hnil5 hgr5) | (refine step_append rfl (.tmp 47) (.tmp 50) 35 rfl wz.heap.size 3 i0 (.int .i64 0) 8 Try.underlying35 hi hz0 hz1 hz2 rfl v5 (m + 1) (vals .i64 m (el S) ++ [.int .i64 x]) rfl hown5 ⟨q, m, none⟩ (N - m) (cap - m) (vals .i64 (N - m) (fun j => el S (m + j))) rfl (vals_len _ _ _) ((hoz.rd.grew hb5).off0 (by omega)).news' (vals_one _ _ _) (by unfold maxLen; omega) (by omega) hb5.size ?_; intro v6 w6 hown6 hgr6 hnil6; have hv6 : v6 ≠ .slice none 0 0 := fun e => hv5 (hnil6.1 e).1; have hb6 : Below wz.heap.size wz w6 := hb5.grown hgr6 hb5.size (fun k' hk' => (hown5.lt k' hk').1); clear hnil6 hgr6))
                all_goals
                  have hown7 : w6.ownsRow wz.heap.size 3 1 v6 (N + 1) (vals .i64 (N + 1) (el (S.take m ++ [x] ++ S.drop m))) := by
                    have e9 := vals_three S x m (by rw [← hNS.out]; exact hm)
                    rw [← hNS.out] at e9
                    rw [← e9]
                    have e8 : m + 1 + (N - m) = N + 1 := by omega
                    rw [← e8]
                    exact hown6
                  obtain ⟨q6, cap6, rfl, hcp6, ho6⟩ := own_of_cap hown7 hv6
                  have hB6 : Below w.heap.size w w6 := below_app (below_app hb hbz hb.size) hb6 (Nat.le_trans hb.size hbz.size)
                  have hq6 : w.heap.size ≤ q6 := Nat.le_trans (Nat.le_trans hb.size hbz.size) ho6.1
                  have hfin : Hid (S.take m ++ [x] ++ S.drop m = setL (lst (k + 1) f) ∧ N + 1 = (S.take m ++ [x] ++ S.drop m).length) := ⟨by rw [HI.out, HIN.out], by simp; have := hNS.out; omega⟩
                  clear hown6 hown7 hv6 hb6 hown5 hv5 hb5 hown4 hv4 hb4 hX1 hX2 hX3 hY2 hY3 hN1 hN2 hN3 hA1 hA2 hA3
                  go_wp2
                  go_roundw
                  case rel => first | exact ⟨k + 1, q6, N + 1, cap6, _, by omega, by go_num, rfl, hcp6, hfin, hB6, ⟨hq6, ho6.2⟩⟩ | ((repeat apply Exists.intro); exact ⟨⟨k + 1, q6, N + 1, cap6, _, by omega, by go_num, rfl, hcp6, hfin, hB6, ⟨hq6, ho6.2⟩⟩, rfl⟩)
                  case measure => simp [intOf]; omega
              · obtain rfl : cap = m := by omega
                obtain rfl : N = cap := by omega
                go_wp2
                go_region_law (first | (refine step_append rfl (.tmp 37) (.tmp 40) 35 rfl wz.heap.size 3 i0 (.int .i64 0) 8 Try.underlying35 hi hz0 hz1 hz2 rfl (.slice (some ⟨wz.heap.size, 0, none⟩) 0 0) 0 [] rfl (own_empty hX1.out (by omega)) ⟨q, 0, none⟩ N N (vals .i64 N (el S)) rfl (vals_len _ _ _) hN1.out (vals_one _ _ _) (by unfold maxLen; omega) (by omega) hA1.size ?_; intro v4 w4 hown4 hgr4 hnil4; have hv4 : v4 ≠ .slice none 0 0 := fun e => (by have h9 := (hnil4.1 e).1; simp at h9); have hb4 : Below wz.heap.size wz w4 := (hA1.drew).grown hgr4 hA1.size (fun k' hk' => (by simp [Value.ownBlock] at hk'; omega)); simp only [Nat.zero_add, List.nil_append] at hown4; have e4 := (hb4.cell (p := ⟨b, o1 + k, none⟩) (World.block_lt_of_cell? _ _ e1z)).trans e1z; clear hnil4 hgr4) | (refine step_append rfl (.tmp 37) (.tmp 40) 35 rfl wz.heap.size 3 i0 (.int .i64 0) 8 Try.underlying35 hi hz0 hz1 hz2 rfl (.slice (some ⟨wz.heap.size, 0, none⟩) 0 0) 0 [] rfl (own_empty hX2.out (by omega)) ⟨q, 0, none⟩ N N (vals .i64 N (el S)) rfl (vals_len _ _ _) hN2.out (vals_one _ _ _) (by unfold maxLen; omega) (by omega) hA2.size ?_; intro v4 w4 hown4 hgr4 hnil4; have hv4 : v4 ≠ .slice none 0 0 := fun e => (by have h9 := (hnil4.1 e).1; simp at h9); have hb4 : Below wz.heap.size wz w4 := (hA2.drew).grown hgr4 hA2.size (fun k' hk' => (by simp [Value.ownBlock] at hk'; omega)); simp only [Nat.zero_add, List.nil_append] at hown4; have e4 := (hb4.cell (p := ⟨b, o1 + k, none⟩) (World.block_lt_of_cell? _ _ e1z)).trans e1z; have hn4 : ∀ j u, [Value.int .i64 x][j]? = some u → w4.cell? ((⟨wz.heap.size + 1, 0, none⟩ : Addr).add j) = some u := news_row ((hgr4.block (wz.heap.size + 1) (by simp) (by simp [Value.ownBlock])).trans hY2.out); clear hnil4 hgr4) | (refine step_append rfl (.tmp 37) (.tmp 40) 35 rfl wz.heap.size 3 i0 (.int .i64 0) 8 Try.underlying35 hi hz0 hz1 hz2 rfl (.slice (some ⟨wz.heap.size + 1, 0, none⟩) 0 0) 0 [] rfl (own_empty hX3.out (by omega)) ⟨q, 0, none⟩ N N (vals .i64 N (el S)) rfl (vals_len _ _ _) hN3.out (vals_one _ _ _) (by unfold maxLen; omega) (by omega) hA3.size ?_; intro v4 w4 hown4 hgr4 hnil4; have hv4 : v4 ≠ .slice none 0 0 := fun e => (by have h9 := (hnil4.1 e).1; simp at h9); have hb4 : Below wz.heap.size wz w4 := (hA3.drew).grown hgr4 hA3.size (fun k' hk' => (by simp [Value.ownBlock] at hk'; omega)); simp only [Nat.zero_add, List.nil_append] at hown4; have e4 := (hb4.cell (p := ⟨b, o1 + k, none⟩) (World.block_lt_of_cell? _ _ e1z)).trans e1z; have hn4 : ∀ j u, [Value.int .i64 x][j]? = some u → w4.cell? ((⟨wz.heap.size, 0, none⟩ : Addr).add j) = some u := news_row ((hgr4.block wz.heap.size (by simp; omega) (by simp [Value.ownBlock])).trans hY3.out); clear hnil4 hgr4) | (refine step_append rfl (.tmp 41) (.tmp 46) 35 rfl wz.heap.size 3 i0 (.int .i64 0) 8 Try.underlying35 hi hz0 hz1 hz2 rfl v4 N (vals .i64 N (el S)) rfl (hown4.alloc _) ⟨w4.heap.size, 0, none⟩ 1 1 [.int .i64 x] rfl rfl (news_row (heap_alloc_new w4 _)) (by intro u hu; simp at hu; subst hu; rfl) (by unfold maxLen; omega) (by omega) (hb4.alloc hb4.size (.cells #[.int .i64 x] 3)).size ?_; intro v5 w5 hown5 hgr5 hnil5; have hv5 : v5 ≠ .slice none 0 0 := fun e => hv4 (hnil5.1 e).1; have hb5 : Below wz.heap.size wz w5 := (hb4.alloc hb4.size (.cells #[.int .i64 x] 3)).grown hgr5 (hb4.alloc hb4.size (.cells #[.int .i64 x] 3)).size (fun k' hk' => (hown4.lt k' hk').1); clear hnil5 hgr5) | (refine step_append rfl (.tmp 41) (.tmp 46) 35 rfl wz.heap.size 3 i0 (.int .i64 0) 8 Try.underlying35 hi hz0 hz1 hz2 rfl v4 N (vals .i64 N (el S)) rfl hown4 ⟨wz.heap.size + 1, 0, none⟩ 1 1 [.int .i64 x] rfl rfl hn4 (by intro u hu; simp at hu; subst hu; rfl) (by unfold maxLen; omega) (by omega) hb4.size ?_; intro v5 w5 hown5 hgr5 hnil5; have hv5 : v5 ≠ .slice none 0 0 := fun e => hv4 (hnil5.1 e).1; have hb5 : Below wz.heap.size wz w5 := hb4.grown hgr5 hb4.size (fun k' hk' => (hown4.lt k' hk').1); clear hnil5 hgr5) | (refine step_append rfl (.tmp 41) (.tmp 46) 35 rfl wz.heap.size 3 i0 (.int .i64 0) 8 Try.underlying35 hi hz0 hz1 hz2 rfl v4 N (vals .i64 N (el S)) rfl hown4 ⟨wz.heap.size, 0, none⟩ 1 1 [.int .i64 x] rfl rfl hn4 (by intro u hu; simp at hu; subst hu; rfl) (by unfold maxLen; omega) (by omega) hb4.size ?_; intro v5 w5 hown5 hgr5 hnil5; have hv5 : v5 ≠ .slice none 0 0 := fun e => hv4 (hnil5.1 e).1; have hb5 : Below wz.heap.size wz w5 := hb4.grown hgr5 hb4.size (fun k' hk' => (hown4.lt k' hk').1); clear hnil5 hgr5) | (refine step_append rfl (.tmp 47) (.tmp 50) 35 rfl wz.heap.size 3 i0 (.int .i64 0) 8 Try.underlying35 hi hz0 hz1 hz2 rfl v5 (N + 1) (vals .i64 N (el S) ++ [.int .i64 x]) rfl hown5 ⟨q, 0, none⟩ (0) (0) (vals .i64 (0) (fun j => el S (N + j))) rfl (vals_len _ _ _) (fun j u hu => (by rw [vals_get] at hu; simp at hu)) (vals_one _ _ _) (by unfold maxLen; omega) (by omega) hb5.size ?_; intro v6 w6 hown6 hgr6 hnil6; have hv6 : v6 ≠ .slice none 0 0 := fun e => hv5 (hnil6.1 e).1; have hb6 : Below wz.heap.size wz w6 := hb5.grown hgr6 hb5.size (fun k' hk' => (hown5.lt k' hk').1); clear hnil6 hgr6))
                all_goals
                  have hown7 : w6.ownsRow wz.heap.size 3 1 v6 (N + 1) (vals .i64 (N + 1) (el (S.take N ++ [x] ++ S.drop N))) := by
                    have e9 := vals_three S x N (by rw [← hNS.out]; exact hm)
                    rw [← hNS.out, Nat.sub_self] at e9
                    rw [← e9]
                    exact hown6
                  obtain ⟨q6, cap6, rfl, hcp6, ho6⟩ := own_of_cap hown7 hv6
                  have hB6 : Below w.heap.size w w6 := below_app (below_app hb hbz hb.size) hb6 (Nat.le_trans hb.size hbz.size)
                  have hq6 : w.heap.size ≤ q6 := Nat.le_trans (Nat.le_trans hb.size hbz.size) ho6.1
                  have hfin : Hid (S.take N ++ [x] ++ S.drop N = setL (lst (k + 1) f) ∧ N + 1 = (S.take N ++ [x] ++ S.drop N).length) := ⟨by rw [HI.out, HIN.out], by simp; have := hNS.out; omega⟩
                  clear hown6 hown7 hv6 hb6 hown5 hv5 hb5 hown4 hv4 hb4 hX1 hX2 hX3 hY2 hY3 hN1 hN2 hN3 hA1 hA2 hA3
                  go_wp2
                  go_roundw
                  case rel => first | exact ⟨k + 1, q6, N + 1, cap6, _, by omega, by go_num, rfl, hcp6, hfin, hB6, ⟨hq6, ho6.2⟩⟩ | ((repeat apply Exists.intro); exact ⟨⟨k + 1, q6, N + 1, cap6, _, by omega, by go_num, rfl, hcp6, hfin, hB6, ⟨hq6, ho6.2⟩⟩, rfl⟩)
                  case measure => simp [intOf]; omega
          · have x1 : decide ((0 : Int) < (m : Int)) = false := by simp; omega
            have hlow : ∀ j, j < m → el S j < x := fun j hj => by omega
            have hgt' := hgt.out
            go_wp2
            go_quiet (fail)
            go_wp2
            obtain ⟨wz, hwz⟩ : ∃ z, z = wr.drewN nq := ⟨_, rfl⟩
            rw [← hwz]
            have hbz : Below w'.heap.size w' wz := by rw [hwz]; exact below_drewN hbi nq
            have hoz := ho.grew hbz
            have e1z := (hbz.cell (p := ⟨b, o1 + k, none⟩) (World.block_lt_of_cell? _ _ e1)).trans e1
            clear hwz hbi hoi e1' hgt
            have hNS : Hid (N = S.length) := HS.out.2
            have HIN : Hid (ins x S = S.take m ++ [x] ++ S.drop m) := ins_at hS (by rw [← hNS.out]; exact hm) hlow (fun j h1 h2 => hgt' j h1 (by rw [hNS.out]; exact h2))
            clear hgt' hlow
            have y1 : (0 : Int) ≤ (m : Int) := by omega
            have y2 : (m : Int) ≤ (cap : Int) := by omega
            have y3 : (m : Int) ≤ (N : Int) := by omega
            have y4 : (k : Int) < (n : Int) := by omega
            have hA1 : Below wz.heap.size wz (wz.alloc (.cells #[] 3)) := below_new' _ _
            have hA2 : Below wz.heap.size wz ((wz.alloc (.cells #[] 3)).alloc (.cells #[.int .i64 x] 3)) := hA1.alloc hA1.size _
            have hA3 : Below wz.heap.size wz ((wz.alloc (.cells #[.int .i64 x] 3)).alloc (.cells #[] 3)) := (below_new' _ _).alloc (below_new' _ _).size _
            have e1a := (hA1.cell (p := ⟨b, o1 + k, none⟩) (World.block_lt_of_cell? _ _ e1z)).trans e1z
            have hX1 : Hid ((wz.alloc (.cells #[] 3)).heap[wz.heap.size]? = some (.cells #[] 3 (0, 0))) := heap_alloc_new wz _
            have hX2 : Hid (((wz.alloc (.cells #[] 3)).alloc (.cells #[.int .i64 x] 3)).heap[wz.heap.size]? = some (.cells #[] 3 (0, 0))) := (Below.heap_alloc _ _ _ (by simp)).trans (heap_alloc_new wz _)
            have hX3 : Hid (((wz.alloc (.cells #[.int .i64 x] 3)).alloc (.cells #[] 3)).heap[wz.heap.size + 1]? = some (.cells #[] 3 (0, 0))) := show _ = _ by have := heap_alloc_new (wz.alloc (.cells #[.int .i64 x] 3)) (.cells #[] 3 (0, 0)); simpa using this
            have hY2 : Hid (((wz.alloc (.cells #[] 3)).alloc (.cells #[.int .i64 x] 3)).heap[wz.heap.size + 1]? = some (.cells [Value.int .i64 x].toArray 3 (0, 0))) := show _ = _ by have := heap_alloc_new (wz.alloc (.cells #[] 3)) (.cells #[.int .i64 x] 3 (0, 0)); simpa using this
            have hY3 : Hid (((wz.alloc (.cells #[.int .i64 x] 3)).alloc (.cells #[] 3)).heap[wz.heap.size]? = some (.cells [Value.int .i64 x].toArray 3 (0, 0))) := (Below.heap_alloc _ _ _ (by simp)).trans (heap_alloc_new wz _)
            have hN1 : Hid (∀ j u, (vals .i64 m (el S))[j]? = some u → (wz.alloc (.cells #[] 3)).cell? ((⟨q, 0, none⟩ : Addr).add j) = some u) := ((hoz.rd.grew hA1).first' hm).news'
            have hN2 : Hid (∀ j u, (vals .i64 m (el S))[j]? = some u → ((wz.alloc (.cells #[] 3)).alloc (.cells #[.int .i64 x] 3)).cell? ((⟨q, 0, none⟩ : Addr).add j) = some u) := ((hoz.rd.grew hA2).first' hm).news'
            have hN3 : Hid (∀ j u, (vals .i64 m (el S))[j]? = some u → ((wz.alloc (.cells #[.int .i64 x] 3)).alloc (.cells #[] 3)).cell? ((⟨q, 0, none⟩ : Addr).add j) = some u) := ((hoz.rd.grew hA3).first' hm).news'
            rcases Nat.lt_or_ge m cap with hmc | hmc
            · have y5 : ¬ cap = m := by omega
              go_wp2
              go_region_law (first | (refine step_append rfl (.tmp 37) (.tmp 40) 35 rfl wz.heap.size 3 i0 (.int .i64 0) 8 Try.underlying35 hi hz0 hz1 hz2 rfl (.slice (some ⟨wz.heap.size, 0, none⟩) 0 0) 0 [] rfl (own_empty hX1.out (by omega)) ⟨q, 0, none⟩ m cap (vals .i64 m (el S)) rfl (vals_len _ _ _) hN1.out (vals_one _ _ _) (by unfold maxLen; omega) (by omega) hA1.size ?_; intro v4 w4 hown4 hgr4 hnil4; have hv4 : v4 ≠ .slice none 0 0 := fun e => (by have h9 := (hnil4.1 e).1; simp at h9); have hb4 : Below wz.heap.size wz w4 := (hA1.drew).grown hgr4 hA1.size (fun k' hk' => (by simp [Value.ownBlock] at hk'; omega)); simp only [Nat.zero_add, List.nil_append] at hown4; have e4 := (hb4.cell (p := ⟨b, o1 + k, none⟩) (World.block_lt_of_cell? _ _ e1z)).trans e1z; clear hnil4 hgr4) | (refine step_append rfl (.tmp 37) (.tmp 40) 35 rfl wz.heap.size 3 i0 (.int .i64 0) 8 Try.underlying35 hi hz0 hz1 hz2 rfl (.slice (some ⟨wz.heap.size, 0, none⟩) 0 0) 0 [] rfl (own_empty hX2.out (by omega)) ⟨q, 0, none⟩ m cap (vals .i64 m (el S)) rfl (vals_len _ _ _) hN2.out (vals_one _ _ _) (by unfold maxLen; omega) (by omega) hA2.size ?_; intro v4 w4 hown4 hgr4 hnil4; have hv4 : v4 ≠ .slice none 0 0 := fun e => (by have h9 := (hnil4.1 e).1; simp at h9); have hb4 : Below wz.heap.size wz w4 := (hA2.drew).grown hgr4 hA2.size (fun k' hk' => (by simp [Value.ownBlock] at hk'; omega)); simp only [Nat.zero_add, List.nil_append] at hown4; have e4 := (hb4.cell (p := ⟨b, o1 + k, none⟩) (World.block_lt_of_cell? _ _ e1z)).trans e1z; have hn4 : ∀ j u, [Value.int .i64 x][j]? = some u → w4.cell? ((⟨wz.heap.size + 1, 0, none⟩ : Addr).add j) = some u := news_row ((hgr4.block (wz.heap.size + 1) (by simp) (by simp [Value.ownBlock])).trans hY2.out); clear hnil4 hgr4) | (refine step_append rfl (.tmp 37) (.tmp 40) 35 rfl wz.heap.size 3 i0 (.int .i64 0) 8 Try.underlying35 hi hz0 hz1 hz2 rfl (.slice (some ⟨wz.heap.size + 1, 0, none⟩) 0 0) 0 [] rfl (own_empty hX3.out (by omega)) ⟨q, 0, none⟩ m cap (vals .i64 m (el S)) rfl (vals_len _ _ _) hN3.out (vals_one _ _ _) (by unfold maxLen; omega) (by omega) hA3.size ?_; intro v4 w4 hown4 hgr4 hnil4; have hv4 : v4 ≠ .slice none 0 0 := fun e => (by have h9 := (hnil4.1 e).1; simp at h9); have hb4 : Below wz.heap.size wz w4 := (hA3.drew).grown hgr4 hA3.size (fun k' hk' => (by simp [Value.ownBlock] at hk'; omega)); simp only [Nat.zero_add, List.nil_append] at hown4; have e4 := (hb4.cell (p := ⟨b, o1 + k, none⟩) (World.block_lt_of_cell? _ _ e1z)).trans e1z; have hn4 : ∀ j u, [Value.int .i64 x][j]? = some u → w4.cell? ((⟨wz.heap.size, 0, none⟩ : Addr).add j) = some u := news_row ((hgr4.block wz.heap.size (by simp; omega) (by simp [Value.ownBlock])).trans hY3.out); clear hnil4 hgr4) | (refine step_append rfl (.tmp 41) (.tmp 46) 35 rfl wz.heap.size 3 i0 (.int .i64 0) 8 Try.underlying35 hi hz0 hz1 hz2 rfl v4 m (vals .i64 m (el S)) rfl (hown4.alloc _) ⟨w4.heap.size, 0, none⟩ 1 1 [.int .i64 x] rfl rfl (news_row (heap_alloc_new w4 _)) (by intro u hu; simp at hu; subst hu; rfl) (by unfold maxLen; omega) (by omega) (hb4.alloc hb4.size (.cells #[.int .i64 x] 3)).size ?_; intro v5 w5 hown5 hgr5 hnil5; have hv5 : v5 ≠ .slice none 0 0 := fun e => hv4 (hnil5.1 e).1; have hb5 : Below wz.heap.size wz w5 := (hb4.alloc hb4.size (.cells #[.int .i64 x] 3)).grown hgr5 (hb4.alloc hb4.size (.cells #[.int .i64 x] 3)).size (fun k' hk' => (hown4.lt k' hk').1); clear hnil5 hgr5) | (refine step_append rfl (.tmp 41) (.tmp 46) 35 rfl wz.heap.size 3 i0 (.int .i64 0) 8 Try.underlying35 hi hz0 hz1 hz2 rfl v4 m (vals .i64 m (el S)) rfl hown4 ⟨wz.heap.size + 1, 0, none⟩ 1 1 [.int .i64 x] rfl rfl hn4 (by intro u hu; simp at hu; subst hu; rfl) (by unfold maxLen; omega) (by omega) hb4.size ?_; intro v5 w5 hown5 hgr5 hnil5; have hv5 : v5 ≠ .slice none 0 0 := fun e => hv4 (hnil5.1 e).1; have hb5 : Below wz.heap.size wz w5 := hb4.grown hgr5 hb4.size (fun k' hk' => (hown4.lt k' hk').1); clear hnil5 hgr5) | (refine step_append rfl (.tmp 41) (.tmp 46) 35 rfl wz.heap.size 3 i0 (.int .i64 0) 8 Try.underlying35 hi hz0 hz1 hz2 rfl v4 m (vals .i64 m (el S)) rfl hown4 ⟨wz.heap.size, 0, none⟩ 1 1 [.int .i64 x] rfl rfl hn4 (by intro u hu; simp at hu; subst hu; rfl) (by unfold maxLen; omega) (by omega) hb4.size ?_; intro v5 w5 hown5 hgr5 hnil5; have hv5 : v5 ≠ .slice none 0 0 := fun e => hv4 (hnil5.1 e).1; have hb5 : Below wz.heap.size wz w5 := hb4.grown hgr5 hb4.size (fun k' hk' => (hown4.lt k' hk').1); clear hnil5 hgr5) | (refine step_append rfl (.tmp 47) (.tmp 50) 35 rfl wz.heap.size 3 i0 (.int .i64 0) 8 Try.underlying35 hi hz0 hz1 hz2 rfl v5 (m + 1) (vals .i64 m (el S) ++ [.int .i64 x]) rfl hown5 ⟨q, m, none⟩ (N - m) (cap - m) (vals .i64 (N - m) (fun j => el S (m + j))) rfl (vals_len _ _ _) ((hoz.rd.grew hb5).off0 (by omega)).news' (vals_one _ _ _) (by unfold maxLen; omega) (by omega) hb5.size ?_; intro v6 w6 hown6 hgr6 hnil6; have hv6 : v6 ≠ .slice none 0 0 := fun e => hv5 (hnil6.1 e).1; have hb6 : Below wz.heap.size wz w6 := hb5.grown hgr6 hb5.size (fun k' hk' => (hown5.lt k' hk').1); clear hnil6 hgr6))
              all_goals
                have hown7 : w6.ownsRow wz.heap.size 3 1 v6 (N + 1) (vals .i64 (N + 1) (el (S.take m ++ [x] ++ S.drop m))) := by
                  have e9 := vals_three S x m (by rw [← hNS.out]; exact hm)
                  rw [← hNS.out] at e9
                  rw [← e9]
                  have e8 : m + 1 + (N - m) = N + 1 := by omega
                  rw [← e8]
                  exact hown6
                obtain ⟨q6, cap6, rfl, hcp6, ho6⟩ := own_of_cap hown7 hv6
                have hB6 : Below w.heap.size w w6 := below_app (below_app hb hbz hb.size) hb6 (Nat.le_trans hb.size hbz.size)
                have hq6 : w.heap.size ≤ q6 := Nat.le_trans (Nat.le_trans hb.size hbz.size) ho6.1
                have hfin : Hid (S.take m ++ [x] ++ S.drop m = setL (lst (k + 1) f) ∧ N + 1 = (S.take m ++ [x] ++ S.drop m).length) := ⟨by rw [HI.out, HIN.out], by simp; have := hNS.out; omega⟩
                clear hown6 hown7 hv6 hb6 hown5 hv5 hb5 hown4 hv4 hb4 hX1 hX2 hX3 hY2 hY3 hN1 hN2 hN3 hA1 hA2 hA3
                go_wp2
                go_roundw
                case rel => first | exact ⟨k + 1, q6, N + 1, cap6, _, by omega, by go_num, rfl, hcp6, hfin, hB6, ⟨hq6, ho6.2⟩⟩ | ((repeat apply Exists.intro); exact ⟨⟨k + 1, q6, N + 1, cap6, _, by omega, by go_num, rfl, hcp6, hfin, hB6, ⟨hq6, ho6.2⟩⟩, rfl⟩)
                case measure => simp [intOf]; omega
            · obtain rfl : cap = m := by omega
              obtain rfl : N = cap := by omega
              go_wp2
              go_region_law (first | (refine step_append rfl (.tmp 37) (.tmp 40) 35 rfl wz.heap.size 3 i0 (.int .i64 0) 8 Try.underlying35 hi hz0 hz1 hz2 rfl (.slice (some ⟨wz.heap.size, 0, none⟩) 0 0) 0 [] rfl (own_empty hX1.out (by omega)) ⟨q, 0, none⟩ N N (vals .i64 N (el S)) rfl (vals_len _ _ _) hN1.out (vals_one _ _ _) (by unfold maxLen; omega) (by omega) hA1.size ?_; intro v4 w4 hown4 hgr4 hnil4; have hv4 : v4 ≠ .slice none 0 0 := fun e => (by have h9 := (hnil4.1 e).1; simp at h9); have hb4 : Below wz.heap.size wz w4 := (hA1.drew).grown hgr4 hA1.size (fun k' hk' => (by simp [Value.ownBlock] at hk'; omega)); simp only [Nat.zero_add, List.nil_append] at hown4; have e4 := (hb4.cell (p := ⟨b, o1 + k, none⟩) (World.block_lt_of_cell? _ _ e1z)).trans e1z; clear hnil4 hgr4) | (refine step_append rfl (.tmp 37) (.tmp 40) 35 rfl wz.heap.size 3 i0 (.int .i64 0) 8 Try.underlying35 hi hz0 hz1 hz2 rfl (.slice (some ⟨wz.heap.size, 0, none⟩) 0 0) 0 [] rfl (own_empty hX2.out (by omega)) ⟨q, 0, none⟩ N N (vals .i64 N (el S)) rfl (vals_len _ _ _) hN2.out (vals_one _ _ _) (by unfold maxLen; omega) (by omega) hA2.size ?_; intro v4 w4 hown4 hgr4 hnil4; have hv4 : v4 ≠ .slice none 0 0 := fun e => (by have h9 := (hnil4.1 e).1; simp at h9); have hb4 : Below wz.heap.size wz w4 := (hA2.drew).grown hgr4 hA2.size (fun k' hk' => (by simp [Value.ownBlock] at hk'; omega)); simp only [Nat.zero_add, List.nil_append] at hown4; have e4 := (hb4.cell (p := ⟨b, o1 + k, none⟩) (World.block_lt_of_cell? _ _ e1z)).trans e1z; have hn4 : ∀ j u, [Value.int .i64 x][j]? = some u → w4.cell? ((⟨wz.heap.size + 1, 0, none⟩ : Addr).add j) = some u := news_row ((hgr4.block (wz.heap.size + 1) (by simp) (by simp [Value.ownBlock])).trans hY2.out); clear hnil4 hgr4) | (refine step_append rfl (.tmp 37) (.tmp 40) 35 rfl wz.heap.size 3 i0 (.int .i64 0) 8 Try.underlying35 hi hz0 hz1 hz2 rfl (.slice (some ⟨wz.heap.size + 1, 0, none⟩) 0 0) 0 [] rfl (own_empty hX3.out (by omega)) ⟨q, 0, none⟩ N N (vals .i64 N (el S)) rfl (vals_len _ _ _) hN3.out (vals_one _ _ _) (by unfold maxLen; omega) (by omega) hA3.size ?_; intro v4 w4 hown4 hgr4 hnil4; have hv4 : v4 ≠ .slice none 0 0 := fun e => (by have h9 := (hnil4.1 e).1; simp at h9); have hb4 : Below wz.heap.size wz w4 := (hA3.drew).grown hgr4 hA3.size (fun k' hk' => (by simp [Value.ownBlock] at hk'; omega)); simp only [Nat.zero_add, List.nil_append] at hown4; have e4 := (hb4.cell (p := ⟨b, o1 + k, none⟩) (World.block_lt_of_cell? _ _ e1z)).trans e1z; have hn4 : ∀ j u, [Value.int .i64 x][j]? = some u → w4.cell? ((⟨wz.heap.size, 0, none⟩ : Addr).add j) = some u := news_row ((hgr4.block wz.heap.size (by simp; omega) (by simp [Value.ownBlock])).trans hY3.out); clear hnil4 hgr4) | (refine step_append rfl (.tmp 41) (.tmp 46) 35 rfl wz.heap.size 3 i0 (.int .i64 0) 8 Try.underlying35 hi hz0 hz1 hz2 rfl v4 N (vals .i64 N (el S)) rfl (hown4.alloc _) ⟨w4.heap.size, 0, none⟩ 1 1 [.int .i64 x] rfl rfl (news_row (heap_alloc_new w4 _)) (by intro u hu; simp at hu; subst hu; rfl) (by unfold maxLen; omega) (by omega) (hb4.alloc hb4.size (.cells #[.int .i64 x] 3)).size ?_; intro v5 w5 hown5 hgr5 hnil5; have hv5 : v5 ≠ .slice none 0 0 := fun e => hv4 (hnil5.1 e).1; have hb5 : Below wz.heap.size wz w5 := (hb4.alloc hb4.size (.cells #[.int .i64 x] 3)).grown hgr5 (hb4.alloc hb4.size (.cells #[.int .i64 x] 3)).size (fun k' hk' => (hown4.lt k' hk').1); clear hnil5 hgr5) | (refine step_append rfl (.tmp 41) (.tmp 46) 35 rfl wz.heap.size 3 i0 (.int .i64 0) 8 Try.underlying35 hi hz0 hz1 hz2 rfl v4 N (vals .i64 N (el S)) rfl hown4 ⟨wz.heap.size + 1, 0, none⟩ 1 1 [.int .i64 x] rfl rfl hn4 (by intro u hu; simp at hu; subst hu; rfl) (by unfold maxLen; omega) (by omega) hb4.size ?_; intro v5 w5 hown5 hgr5 hnil5; have hv5 : v5 ≠ .slice none 0 0 := fun e => hv4 (hnil5.1 e).1; have hb5 : Below wz.heap.size wz w5 := hb4.grown hgr5 hb4.size (fun k' hk' => (hown4.lt k' hk').1); clear hnil5 hgr5) | (refine step_append rfl (.tmp 41) (.tmp 46) 35 rfl wz.heap.size 3 i0 (.int .i64 0) 8 Try.underlying35 hi hz0 hz1 hz2 rfl v4 N (vals .i64 N (el S)) rfl hown4 ⟨wz.heap.size, 0, none⟩ 1 1 [.int .i64 x] rfl rfl hn4 (by intro u hu; simp at hu; subst hu; rfl) (by unfold maxLen; omega) (by omega) hb4.size ?_; intro v5 w5 hown5 hgr5 hnil5; have hv5 : v5 ≠ .slice none 0 0 := fun e => hv4 (hnil5.1 e).1; have hb5 : Below wz.heap.size wz w5 := hb4.grown hgr5 hb4.size (fun k' hk' => (hown4.lt k' hk').1); clear hnil5 hgr5) | (refine step_append rfl (.tmp 47) (.tmp 50) 35 rfl wz.heap.size 3 i0 (.int .i64 0) 8 Try.underlying35 hi hz0 hz1 hz2 rfl v5 (N + 1) (vals .i64 N (el S) ++ [.int .i64 x]) rfl hown5 ⟨q, 0, none⟩ (0) (0) (vals .i64 (0) (fun j => el S (N + j))) rfl (vals_len _ _ _) (fun j u hu => (by rw [vals_get] at hu; simp at hu)) (vals_one _ _ _) (by unfold maxLen; omega) (by omega) hb5.size ?_; intro v6 w6 hown6 hgr6 hnil6; have hv6 : v6 ≠ .slice none 0 0 := fun e => hv5 (hnil6.1 e).1; have hb6 : Below wz.heap.size wz w6 := hb5.grown hgr6 hb5.size (fun k' hk' => (hown5.lt k' hk').1); clear hnil6 hgr6))
              all_goals
                have hown7 : w6.ownsRow wz.heap.size 3 1 v6 (N + 1) (vals .i64 (N + 1) (el (S.take N ++ [x] ++ S.drop N))) := by
                  have e9 := vals_three S x N (by rw [← hNS.out]; exact hm)
                  rw [← hNS.out, Nat.sub_self] at e9
                  rw [← e9]
                  exact hown6
                obtain ⟨q6, cap6, rfl, hcp6, ho6⟩ := own_of_cap hown7 hv6
                have hB6 : Below w.heap.size w w6 := below_app (below_app hb hbz hb.size) hb6 (Nat.le_trans hb.size hbz.size)
                have hq6 : w.heap.size ≤ q6 := Nat.le_trans (Nat.le_trans hb.size hbz.size) ho6.1
                have hfin : Hid (S.take N ++ [x] ++ S.drop N = setL (lst (k + 1) f) ∧ N + 1 = (S.take N ++ [x] ++ S.drop N).length) := ⟨by rw [HI.out, HIN.out], by simp; have := hNS.out; omega⟩
                clear hown6 hown7 hv6 hb6 hown5 hv5 hb5 hown4 hv4 hb4 hX1 hX2 hX3 hY2 hY3 hN1 hN2 hN3 hA1 hA2 hA3
                go_wp2
                go_roundw
                case rel => first | exact ⟨k + 1, q6, N + 1, cap6, _, by omega, by go_num, rfl, hcp6, hfin, hB6, ⟨hq6, ho6.2⟩⟩ | ((repeat apply Exists.intro); exact ⟨⟨k + 1, q6, N + 1, cap6, _, by omega, by go_num, rfl, hcp6, hfin, hB6, ⟨hq6, ho6.2⟩⟩, rfl⟩)
                case measure => simp [intOf]; omega
    · obtain rfl : k = n := by omega
      have e8 : stN k f = N := by unfold stN; rw [← HS.out.1]; exact HS.out.2.symm
      have e9 : stF k f = el S := by unfold stF; rw [← HS.out.1]
      have hend : ∃ q' cap', Ending.returned (.slice (some ⟨q, 0, none⟩) N cap) = .returned (.slice (some ⟨q', 0, none⟩) (stN k f) cap') ∧ Below w.heap.size w wr ∧ Own .i64 wr w.heap.size q' (some ⟨q', 0, none⟩) (stN k f) (stF k f) := ⟨q, cap, by rw [e8], hb, by rw [e8, e9]; exact ho⟩
      clear e8 e9
      go_wp2
      go_ret
      exact hend
end Go.Proofs.Ytdncgoippljlfaa
