/-
  The specification's PieceAt, OnField. Own work.
-/
import Derived.Test.YtnlnledijpcjpabState5
import Derived.Test.YtnlnledijpcjpabBytesA
namespace Go.Proofs.Ytnlnledijpcjpab
open Go.ChangeShapes Go.WideShapes Go.ChangeAt Go.RowKit
set_option maxRecDepth 100000
set_option linter.unusedVariables false
/-- the place of the first piece of this number -/
def paI (n : Nat) (f : Nat → Pc) (id : Int) : Int := match (List.range n).find? (fun i => decide ((f i).id = id)) with | some i => (i : Int) | none => -1
theorem paI_at {n k : Nat} {f : Nat → Pc} {id : Int} (hk : k < n) (h : (f k).id = id) (h0 : ∀ j, j < k → (f j).id ≠ id) : paI n f id = (k : Int) := by
  have : (List.range n).find? (fun i => decide ((f i).id = id)) = some k := by
    rw [List.find?_range_eq_some]
    exact ⟨by simpa using h, List.mem_range.2 hk, fun j hj => by simpa using h0 j hj⟩
  unfold paI
  rw [this]
theorem paI_none {n : Nat} {f : Nat → Pc} {id : Int} (h0 : ∀ j, j < n → (f j).id ≠ id) : paI n f id = -1 := by
  have : (List.range n).find? (fun i => decide ((f i).id = id)) = none := by
    rw [List.find?_eq_none]
    exact fun j hj => by simpa using h0 j (List.mem_range.1 hj)
  unfold paI
  rw [this]
set_option maxHeartbeats 2000000 in
theorem specPieceAt_any (s : Stt) (id : Int) (w : World) (hok : s.ok w) (hn : s.pn ≤ 1048576) : Calls Try.prog 66 #[(.agg #[.slice s.pa s.pn s.pcap, .slice s.sa s.sn s.scap, .int .i64 s.ac, .int .i64 s.cl]), .int .i64 id] w fun e w' => e = .returned (.int .i64 (paI s.pn s.ps id)) ∧ Below w.heap.size w w' := by
  obtain ⟨_, _, r1, _⟩ := hok
  have hb0 := (Below.refl _ w).alloc (Nat.le_refl _) (.cells #[.slice s.pa s.pn s.pcap, .slice s.sa s.sn s.scap, .int .i64 s.ac, .int .i64 s.cl] 56)
  have x1 := boxR_new w 56 #[.slice s.pa s.pn s.pcap, .slice s.sa s.sn s.scap, .int .i64 s.ac, .int .i64 s.cl]
  generalize hW : w.alloc (.cells #[.slice s.pa s.pn s.pcap, .slice s.sa s.sn s.scap, .int .i64 s.ac, .int .i64 s.cl] 56) = W at hb0 x1
  have c0 := x1.cell 0
  simp at c0
  replace r1 := r1.grew pcC_ne hb0
  go_enter Try.func66, Try.ntmps66
  go_wp2
  go_loop [5] (fun i => ∃ k : Nat, k ≤ s.pn ∧ i = .int .i64 k ∧ Hid (∀ j, j < k → (s.ps j).id ≠ id)) (fun i => s.pn - (intOf i).toNat)
  case atStart => exact ⟨0, Nat.zero_le _, rfl, fun j hj => by omega⟩
  case round =>
    obtain ⟨k, hk, rfl, hall⟩ := hrel
    by_cases hlt : k < s.pn
    · rcases r1 with g1 | ⟨o1, hpa, g1⟩
      · omega
      rw [hpa] at c0
      have k0 := g1 k hlt 0 _ rfl
      rw [Nat.add_zero] at k0
      clear hpa g1
      have y1 : (0 : Int) ≤ (k : Int) := by omega
      have y2 : (k : Int) < (s.pn : Int) := by omega
      by_cases he : (s.ps k).id = id
      · have HN : Hid (paI s.pn s.ps id = (k : Int)) := paI_at hlt he hall.out
        clear hall
        go_wp2
        go_ret
        exact ⟨ret_int HN.out.symm, hb0⟩
      · have HA : Hid (∀ j, j < k + 1 → (s.ps j).id ≠ id) := fun j hj => by
          by_cases e : j = k
          · subst e; exact he
          · exact hall.out j (by omega)
        clear hall
        go_wp2
        go_round
        case rel => first | exact ⟨k + 1, by omega, by go_num, HA⟩ | ((repeat apply Exists.intro); exact ⟨⟨k + 1, by omega, by go_num, HA⟩, rfl⟩)
        case measure => simp [intOf]; omega
    · obtain rfl : k = s.pn := by omega
      have HN : Hid (paI s.pn s.ps id = -1) := paI_none hall.out
      clear hall
      go_wp2
      go_ret
      exact ⟨ret_int HN.out.symm, hb0⟩
/-- whether a piece is on the field, and this side's -/
def ofP (side : Int) (p : Pc) : Bool := decide (p.zo = 2) && (decide (side = -1) || decide (p.si = side))
/-- the numbers of the pieces on the field, of the first k -/
def ofL (k : Nat) (f : Nat → Pc) (side : Int) : List Int := ((List.range k).filter (fun i => ofP side (f i))).map (fun i => (f i).id)
theorem ofL_yes {k : Nat} {f : Nat → Pc} {side : Int} (h : ofP side (f k) = true) : ofL (k + 1) f side = ofL k f side ++ [(f k).id] := by
  unfold ofL; rw [List.range_succ, List.filter_append, List.map_append]; simp [h]
theorem ofL_no {k : Nat} {f : Nat → Pc} {side : Int} (h : ofP side (f k) = false) : ofL (k + 1) f side = ofL k f side := by
  unfold ofL; rw [List.range_succ, List.filter_append, List.map_append]; simp [h]
theorem ofL_len (k : Nat) (f : Nat → Pc) (side : Int) : (ofL k f side).length ≤ k := by
  unfold ofL; rw [List.length_map]; exact Nat.le_trans (List.length_filter_le _ _) (by simp)
theorem vals_list (L : List Int) : vals .i64 L.length (fun j => L.getD j 0) = L.map (Value.int .i64) := by
  symm
  refine vals_ext (by simp) (fun j hj => ?_)
  simp [hj]
set_option maxHeartbeats 4000000 in
theorem specOnField_any (s : Stt) (side : Int) (w : World) (hok : s.ok w) (hn : s.pn ≤ 1048576) : Calls Try.prog 54 #[(.agg #[.slice s.pa s.pn s.pcap, .slice s.sa s.sn s.scap, .int .i64 s.ac, .int .i64 s.cl]), .int .i64 side] w fun e w' => ∃ q cap, e = .returned (.slice (some ⟨q, 0, none⟩) (ofL s.pn s.ps side).length cap) ∧ Below w.heap.size w w' ∧ Own .i64 w' w.heap.size q (some ⟨q, 0, none⟩) (ofL s.pn s.ps side).length (fun j => (ofL s.pn s.ps side).getD j 0) := by
  obtain ⟨i0, hi, hz0, hz1, hz2⟩ := info_parts Try.infoInt
  obtain ⟨_, _, r1, _⟩ := hok
  have hb0 := (Below.refl _ w).alloc (Nat.le_refl _) (.cells #[.slice s.pa s.pn s.pcap, .slice s.sa s.sn s.scap, .int .i64 s.ac, .int .i64 s.cl] 56)
  have x1 := boxR_new w 56 #[.slice s.pa s.pn s.pcap, .slice s.sa s.sn s.scap, .int .i64 s.ac, .int .i64 s.cl]
  generalize hW : w.alloc (.cells #[.slice s.pa s.pn s.pcap, .slice s.sa s.sn s.scap, .int .i64 s.ac, .int .i64 s.cl] 56) = W at hb0 x1
  have hown0 : (W.alloc (.cells #[] 3)).ownsRow W.heap.size 3 1 (.slice (some ⟨W.heap.size, 0, none⟩) 0 0) 0 [] := World.ownsRow_lit W #[] 0 (Nat.le_refl _) (by decide) rfl
  have hb1 : Below W.heap.size W (W.alloc (.cells #[] 3)) := (Below.refl _ _).alloc (Nat.le_refl _) _
  go_enter Try.func54, Try.ntmps54
  go_wp2
  clear hW
  go_loopw [5, 6] (fun v i wr => ∃ k : Nat, k ≤ s.pn ∧ i = .int .i64 k ∧ wr.ownsRow W.heap.size 3 1 v (ofL k s.ps side).length ((ofL k s.ps side).map (Value.int .i64)) ∧ v ≠ .slice none 0 0 ∧ Below W.heap.size W wr) (fun _ i _ => s.pn - (intOf i).toNat)
  case atStart => exact ⟨0, Nat.zero_le _, rfl, hown0, by simp, hb1⟩
  case round =>
    clear hown0 hb1
    obtain ⟨k, hk, rfl, hown, hnil, hb⟩ := hrel
    have x2 := x1.grew hb
    have c0 := x2.cell 0
    simp at c0
    have hB := below_app hb0 hb hb0.size
    by_cases hlt : k < s.pn
    · rcases r1.grew pcC_ne hB with g1 | ⟨o1, hpa, g1⟩
      · omega
      rw [hpa] at c0
      have k0 := g1 k hlt 0 _ rfl
      have k2 := g1 k hlt 2 _ rfl
      have k3 := g1 k hlt 3 _ rfl
      rw [Nat.add_zero] at k0
      have hl := ofL_len k s.ps side
      clear hpa g1
      have y1 : (0 : Int) ≤ (k : Int) := by omega
      have y2 : (k : Int) < (s.pn : Int) := by omega
      cases hf : ofP side (s.ps k) with
      | false =>
        have HE : Hid (ofL (k + 1) s.ps side = ofL k s.ps side) := ofL_no hf
        by_cases hz : (s.ps k).zo = 2
        · have hs1 : ¬ side = -1 := by intro e; unfold ofP at hf; simp [hz, e] at hf
          have hs2 : ¬ (s.ps k).si = side := by intro e; unfold ofP at hf; simp [hz, e] at hf
          have q1 : (side == -1) = false := by simpa using hs1
          have q2 : ((s.ps k).si == side) = false := by simpa using hs2
          have q3 : ((s.ps k).zo == 2) = true := by simpa using hz
          clear hf hs1 hs2
          go_wp2
          go_roundw
          case rel => first | exact ⟨k + 1, by omega, by go_num, by rw [HE.out]; exact hown, hnil, hb⟩ | ((repeat apply Exists.intro); exact ⟨⟨k + 1, by omega, by go_num, by rw [HE.out]; exact hown, hnil, hb⟩, rfl⟩)
          case measure => simp [intOf]; omega
        · have q3 : ((s.ps k).zo == 2) = false := by simpa using hz
          clear hf
          go_wp2
          go_roundw
          case rel => first | exact ⟨k + 1, by omega, by go_num, by rw [HE.out]; exact hown, hnil, hb⟩ | ((repeat apply Exists.intro); exact ⟨⟨k + 1, by omega, by go_num, by rw [HE.out]; exact hown, hnil, hb⟩, rfl⟩)
          case measure => simp [intOf]; omega
      | true =>
        have HE : Hid (ofL (k + 1) s.ps side = ofL k s.ps side ++ [(s.ps k).id]) := ofL_yes hf
        have hz : (s.ps k).zo = 2 := by unfold ofP at hf; simp at hf; exact hf.1
        have hss : side = -1 ∨ (s.ps k).si = side := by unfold ofP at hf; simp at hf; exact hf.2
        clear hf
        by_cases hs1 : side = -1
        · have q1 : (side == -1) = true := by simpa using hs1
          have q3 : ((s.ps k).zo == 2) = true := by simpa using hz
          clear hss hs1 hz
          go_wp2_with (at_builtin; refine wpList_append_own _ rfl (.tmp 36) (.tmp 43) 24 rfl W.heap.size 3 i0 (.int .i64 0) 1 8 Try.underlying24 hi hz0 hz1 hz2 rfl (by decide) _ _ _ rfl (hown.alloc _) ⟨wr.heap.size, 0, none⟩ 1 1 [_] rfl rfl (cells_new _ [_] _) (by intro u hu; simp at hu; subst hu; rfl) (by unfold maxLen; omega) (by omega) (by have := hb.size; simp; omega) ?_)
          intro v4 w4 hown4 hgr4 hnil4
          have hb4 : Below W.heap.size W w4 := (hb.alloc hb.size _).grown hgr4 (by have := hb.size; simp; omega) (fun k hk => (hown.lt k hk).1)
          have hown5 : w4.ownsRow W.heap.size 3 1 v4 (ofL (k + 1) s.ps side).length ((ofL (k + 1) s.ps side).map (Value.int .i64)) := by rw [HE.out, List.length_append, List.map_append]; exact hown4
          have hnil5 : v4 ≠ .slice none 0 0 := hnil4
          clear hown4 hgr4 hnil4 hown hnil hb HE
          go_wp2
          go_roundw
          case rel => first | exact ⟨k + 1, by omega, by go_num, hown5, hnil5, hb4⟩ | ((repeat apply Exists.intro); exact ⟨⟨k + 1, by omega, by go_num, hown5, hnil5, hb4⟩, rfl⟩)
          case measure => simp [intOf]; omega
        · have hs2 : (s.ps k).si = side := hss.resolve_left hs1
          have q1 : (side == -1) = false := by simpa using hs1
          have q2 : ((s.ps k).si == side) = true := by simpa using hs2
          have q3 : ((s.ps k).zo == 2) = true := by simpa using hz
          clear hss hs1 hs2 hz
          go_wp2_with (at_builtin; refine wpList_append_own _ rfl (.tmp 36) (.tmp 43) 24 rfl W.heap.size 3 i0 (.int .i64 0) 1 8 Try.underlying24 hi hz0 hz1 hz2 rfl (by decide) _ _ _ rfl (hown.alloc _) ⟨wr.heap.size, 0, none⟩ 1 1 [_] rfl rfl (cells_new _ [_] _) (by intro u hu; simp at hu; subst hu; rfl) (by unfold maxLen; omega) (by omega) (by have := hb.size; simp; omega) ?_)
          intro v4 w4 hown4 hgr4 hnil4
          have hb4 : Below W.heap.size W w4 := (hb.alloc hb.size _).grown hgr4 (by have := hb.size; simp; omega) (fun k hk => (hown.lt k hk).1)
          have hown5 : w4.ownsRow W.heap.size 3 1 v4 (ofL (k + 1) s.ps side).length ((ofL (k + 1) s.ps side).map (Value.int .i64)) := by rw [HE.out, List.length_append, List.map_append]; exact hown4
          have hnil5 : v4 ≠ .slice none 0 0 := hnil4
          clear hown4 hgr4 hnil4 hown hnil hb HE
          go_wp2
          go_roundw
          case rel => first | exact ⟨k + 1, by omega, by go_num, hown5, hnil5, hb4⟩ | ((repeat apply Exists.intro); exact ⟨⟨k + 1, by omega, by go_num, hown5, hnil5, hb4⟩, rfl⟩)
          case measure => simp [intOf]; omega
    · obtain rfl : k = s.pn := by omega
      rw [← vals_list] at hown
      obtain ⟨q, cap, rfl, ho⟩ := own_of hown hnil
      clear hown hnil
      go_wp2
      go_ret
      exact ⟨q, cap, rfl, hB, ⟨by have := hb0.size; have := ho.1; omega, ho.2⟩⟩
end Go.Proofs.Ytnlnledijpcjpab
