/-
  Chapter 5: the program's OnField. Chapter 8, the program: GuardOk, Stronger, BentOf. Written by tools/guf.gen.py. Own work.
-/
import Derived.Test.YtodfdfncdoliiadGreatGStAt3
import Derived.Test.YtodfdfncdoliiadGreatGuE
namespace Go.Proofs.YtodfdfncdoliiadGreat
open Go.ChangeShapes Go.WideShapes Go.ChangeAt Go.RowKit
set_option maxRecDepth 100000
set_option linter.unusedVariables false
theorem owns_keptB {w w' : World} {B : Nat} {e : TypeId} {m : Nat} {v : Value} {n : Nat} {xs : List Value} (h : w.ownsRow B e m v n xs) (hb : Below w.heap.size w w') : w'.ownsRow B e m v n xs := h.kept (row := none) ⟨hb.os, hb.tape, hb.output, hb.size, fun k hk _ => hb.block k hk⟩ (by cases v.ownBlock <;> simp)
set_option maxHeartbeats 4000000 in
theorem implOnField_any (s : Stt) (side : Int) (w : World) (hok : s.ok w) (hn : s.pn ≤ 1048577) : Calls Tryz.prog 155 #[(.agg #[.slice s.pa s.pn s.pcap, .slice s.sa s.sn s.scap, .int .i64 s.ac, .int .i64 s.cl]), .int .i64 side] w fun e w' => ∃ q cap, e = .returned (.slice (some ⟨q, 0, none⟩) (ofL s.pn s.ps side).length cap) ∧ Below w.heap.size w w' ∧ Own .i64 w' w.heap.size q (some ⟨q, 0, none⟩) (ofL s.pn s.ps side).length (fun j => (ofL s.pn s.ps side).getD j 0) := by
  obtain ⟨i0, hi, hz0, hz1, hz2⟩ := info_parts Tryz.infoInt
  obtain ⟨_, _, r1, _⟩ := hok
  have hb0 := (Below.refl _ w).alloc (Nat.le_refl _) (.cells #[.slice s.pa s.pn s.pcap, .slice s.sa s.sn s.scap, .int .i64 s.ac, .int .i64 s.cl] 37)
  have x1 := boxR_new w 37 #[.slice s.pa s.pn s.pcap, .slice s.sa s.sn s.scap, .int .i64 s.ac, .int .i64 s.cl]
  generalize hW : w.alloc (.cells #[.slice s.pa s.pn s.pcap, .slice s.sa s.sn s.scap, .int .i64 s.ac, .int .i64 s.cl] 37) = W at hb0 x1
  have hown0 : (W.alloc (.cells #[] 3)).ownsRow W.heap.size 3 1 (.slice (some ⟨W.heap.size, 0, none⟩) 0 0) 0 [] := World.ownsRow_lit W #[] 0 (Nat.le_refl _) (by decide) rfl
  have hb1 : Below W.heap.size W (W.alloc (.cells #[] 3)) := (Below.refl _ _).alloc (Nat.le_refl _) _
  have c0 := (x1.alloc (.cells #[] 3)).cell 0
  simp at c0
  go_enter Tryz.func155, Tryz.ntmps155
  go_wp2
  clear hW c0
  go_loopw [5, 12] (fun v i wr => ∃ k : Nat, k ≤ s.pn ∧ i = .int .i64 k ∧ wr.ownsRow W.heap.size 3 1 v (ofL k s.ps side).length ((ofL k s.ps side).map (Value.int .i64)) ∧ v ≠ .slice none 0 0 ∧ Below W.heap.size W wr) (fun _ i _ => s.pn - (intOf i).toNat)
  case atStart => exact ⟨0, Nat.zero_le _, rfl, hown0, by simp, hb1⟩
  case round =>
    clear hown0 hb1
    obtain ⟨k, hk, rfl, hown, hnil, hb⟩ := hrel
    have hB := below_app hb0 hb hb0.size
    by_cases hlt : k < s.pn
    · rcases r1.grew pcC_ne hB with g1 | ⟨o1, hpa, g1⟩
      · omega
      rw [hpa]
      obtain ⟨k0, k1, k2, k3, k4, k5, k6, k7, k8, k9, k10, k11, k12⟩ : At13 wr s.pb (o1 + k * 13) (s.ps k) := At13_of (g1 k hlt)
      have y1 : (0 : Int) ≤ (k : Int) := by omega
      have y2 : (k : Int) < (s.pn : Int) := by omega
      have hl := ofL_len k s.ps side
      have bV := box_new wr 139 (s.ps k)
      have hbV := below_new2' wr (.cells #[.int .i64 (s.ps k).id, .int .i64 (s.ps k).ow, .int .i64 (s.ps k).si, .int .i64 (s.ps k).zo, .int .i64 (s.ps k).st, .int .i64 (s.ps k).po, .int .i64 (s.ps k).to, .int .i64 (s.ps k).tr, .int .i64 (s.ps k).pl, .int .i64 (s.ps k).mi, .int .i64 (s.ps k).ma, .bool (s.ps k).de, .bool (s.ps k).be] 139)
      generalize hV : wr.alloc (.cells #[.int .i64 (s.ps k).id, .int .i64 (s.ps k).ow, .int .i64 (s.ps k).si, .int .i64 (s.ps k).zo, .int .i64 (s.ps k).st, .int .i64 (s.ps k).po, .int .i64 (s.ps k).to, .int .i64 (s.ps k).tr, .int .i64 (s.ps k).pl, .int .i64 (s.ps k).mi, .int .i64 (s.ps k).ma, .bool (s.ps k).de, .bool (s.ps k).be] 139) = V at bV hbV
      clear g1
      obtain ⟨m0, m1, m2, m3, _⟩ : Cells13 _ _ _ := bV.cells
      have hown' := owns_keptB hown hbV
      have hbV' := below_app hb hbV hb.size
      clear hown hb hbV bV m1
      cases hf : ofP side (s.ps k) with
      | false =>
        have HE : Hid (ofL (k + 1) s.ps side = ofL k s.ps side) := ofL_no hf
        by_cases hz : (s.ps k).zo = 2
        · have hs1 : ¬ side = -1 := by intro e; unfold ofP at hf; simp [hz, e] at hf
          have hs2 : ¬ (s.ps k).si = side := by intro e; unfold ofP at hf; simp [hz, e] at hf
          have q1 : (side == -1) = false := by simpa using hs1
          have q2 : ((s.ps k).si == side) = false := by simpa using hs2
          have q3 : ((s.ps k).zo == 2) = true := by simpa using hz
          clear hf hs1 hs2 hz
          go_wp2
          go_roundw
          case rel => first | exact ⟨k + 1, by omega, by go_num, by rw [HE.out]; exact hown', hnil, hbV'⟩ | ((repeat apply Exists.intro); exact ⟨⟨k + 1, by omega, by go_num, by rw [HE.out]; exact hown', hnil, hbV'⟩, rfl⟩)
          case measure => simp [intOf]; omega
        · have q3 : ((s.ps k).zo == 2) = false := by simpa using hz
          clear hf
          go_wp2
          go_roundw
          case rel => first | exact ⟨k + 1, by omega, by go_num, by rw [HE.out]; exact hown', hnil, hbV'⟩ | ((repeat apply Exists.intro); exact ⟨⟨k + 1, by omega, by go_num, by rw [HE.out]; exact hown', hnil, hbV'⟩, rfl⟩)
          case measure => simp [intOf]; omega
      | true =>
        have HE : Hid (ofL (k + 1) s.ps side = ofL k s.ps side ++ [(s.ps k).id]) := ofL_yes hf
        have hz : (s.ps k).zo = 2 := by unfold ofP at hf; simp at hf; exact hf.1
        have hss : side = -1 ∨ (s.ps k).si = side := by unfold ofP at hf; simp at hf; exact hf.2
        clear hf
        have q3 : ((s.ps k).zo == 2) = true := by simpa using hz
        by_cases hs1 : side = -1
        · have q1 : (side == -1) = true := by simpa using hs1
          clear hss hs1 hz
          go_wp2_with (at_builtin; refine wpList_append_own _ rfl (.tmp 29) (.tmp 32) 131 rfl W.heap.size 3 i0 (.int .i64 0) 1 8 Tryz.underlying131 hi hz0 hz1 hz2 rfl (by decide) _ _ _ rfl (hown'.alloc _) ⟨V.heap.size, 0, none⟩ 1 1 [_] rfl rfl (cells_new _ [_] _) (by intro u hu; simp at hu; subst hu; rfl) (by unfold maxLen; omega) (by omega) (by have := hbV'.size; simp; omega) ?_)
          intro v4 w4 hown4 hgr4 hnil4
          have hb4 : Below W.heap.size W w4 := (hbV'.alloc hbV'.size _).grown hgr4 (by have := hbV'.size; simp; omega) (fun k hk => (hown'.lt k hk).1)
          have hown5 : w4.ownsRow W.heap.size 3 1 v4 (ofL (k + 1) s.ps side).length ((ofL (k + 1) s.ps side).map (Value.int .i64)) := by rw [HE.out, List.length_append, List.map_append]; exact hown4
          have hnil5 : v4 ≠ .slice none 0 0 := hnil4
          clear hown4 hgr4 hnil4 hown' hnil hbV' HE
          go_wp2
          go_roundw
          case rel => first | exact ⟨k + 1, by omega, by go_num, hown5, hnil5, hb4⟩ | ((repeat apply Exists.intro); exact ⟨⟨k + 1, by omega, by go_num, hown5, hnil5, hb4⟩, rfl⟩)
          case measure => simp [intOf]; omega
        · have hs2 : (s.ps k).si = side := hss.resolve_left hs1
          have q1 : (side == -1) = false := by simpa using hs1
          have q2 : ((s.ps k).si == side) = true := by simpa using hs2
          clear hss hs1 hs2 hz
          go_wp2_with (at_builtin; refine wpList_append_own _ rfl (.tmp 29) (.tmp 32) 131 rfl W.heap.size 3 i0 (.int .i64 0) 1 8 Tryz.underlying131 hi hz0 hz1 hz2 rfl (by decide) _ _ _ rfl (hown'.alloc _) ⟨V.heap.size, 0, none⟩ 1 1 [_] rfl rfl (cells_new _ [_] _) (by intro u hu; simp at hu; subst hu; rfl) (by unfold maxLen; omega) (by omega) (by have := hbV'.size; simp; omega) ?_)
          intro v4 w4 hown4 hgr4 hnil4
          have hb4 : Below W.heap.size W w4 := (hbV'.alloc hbV'.size _).grown hgr4 (by have := hbV'.size; simp; omega) (fun k hk => (hown'.lt k hk).1)
          have hown5 : w4.ownsRow W.heap.size 3 1 v4 (ofL (k + 1) s.ps side).length ((ofL (k + 1) s.ps side).map (Value.int .i64)) := by rw [HE.out, List.length_append, List.map_append]; exact hown4
          have hnil5 : v4 ≠ .slice none 0 0 := hnil4
          clear hown4 hgr4 hnil4 hown' hnil hbV' HE
          go_wp2
          go_roundw
          case rel => first | exact ⟨k + 1, by omega, by go_num, hown5, hnil5, hb4⟩ | ((repeat apply Exists.intro); exact ⟨⟨k + 1, by omega, by go_num, hown5, hnil5, hb4⟩, rfl⟩)
          case measure => simp [intOf]; omega
    · obtain rfl : k = s.pn := by omega
      rw [← vals_list] at hown
      obtain ⟨q, cap, rfl, ho⟩ := own_of hown hnil
      clear hown hnil
      go_wp2
      go_ret
      exact ⟨q, cap, rfl, hB, ⟨by have := hb0.size; have := ho.1; omega, ho.2⟩⟩
end Go.Proofs.YtodfdfncdoliiadGreat
namespace Go.Proofs.YtodfdfncdoliiadGreat
open Go.ChangeShapes Go.WideShapes Go.ChangeAt Go.RowKit
set_option maxRecDepth 100000
set_option linter.unusedVariables false
set_option linter.unusedSimpArgs false

theorem rule_one (a b : Int) (k : Nat) : (#[Value.int .i64 a, .int .i64 b, rfn k] : Array Value).all (·.oneCell') = true := by
  unfold rfn
  split <;> simp [Value.oneCell']
set_option maxHeartbeats 4000000 in
theorem implGuardOk_any (g : Gd) (w : World) : Calls Tryz.prog 106 #[(.agg #[.int .i64 g.kd, .int .i64 g.nn])] w fun e w' => e = .returned (.bool (okGd g)) ∧ Below w.heap.size w w' := by
  have HB := (Below.refl _ w).alloc (Nat.le_refl _) (.cells #[.int .i64 g.kd, .int .i64 g.nn] 27)
  have bx := boxGd_new w 27 g
  generalize hW : w.alloc (.cells #[.int .i64 g.kd, .int .i64 g.nn] 27) = W at HB bx
  obtain ⟨c0, c1⟩ : CellsGd _ _ _ := bx.cells
  go_enter Tryz.func106, Tryz.ntmps106
  go_wp2_with fail
  refine (rightRule_any g _).mono ?_
  rintro e v1 ⟨rfl, hb⟩
  replace HB := below_app HB hb HB.size
  clear hW c0 c1
  have hb4 := below_setRow (HB.alloc HB.size (.cells #[.int .i64 0, .int .i64 0, .nilFunc] 104)) HB.size #[.int .i64 (rlo (rlK g)), .int .i64 (rhi (rlK g)), rfn (rlK g)]
  go_wp2_with (refine wpList_store_row rfl 104 (.tmp 3) _ rfl v1.heap.size #[.int .i64 (rlo (rlK g)), .int .i64 (rhi (rlK g)), rfn (rlK g)] (by rfl) (by rfl) _ _ (heap_alloc_new v1 _) (by kernel_rfl) (by rfl) (rule_one _ _ _) ?_; (try simp only [Act.put, List.setIfInBounds_toArray, List.set_cons_zero, List.set_cons_succ]))
  go_ret
  exact ⟨rfl, hb4⟩
/-- whether a guard asks at least as much as another of its kind -/
def amG (g h : Gd) : Bool := bif decide (g.kd = 1) then decide (g.nn ≤ h.nn) else decide (h.nn ≤ g.nn)
set_option maxHeartbeats 4000000 in
theorem implBentOf_any (s : Stt) (side : Int) (w : World) (hok : s.ok w) (hn : s.pn ≤ 1048576) : Calls Tryz.prog 156 #[(.agg #[.slice s.pa s.pn s.pcap, .slice s.sa s.sn s.scap, .int .i64 s.ac, .int .i64 s.cl]), .int .i64 side] w fun e w' => e = .returned (.int .i64 (bnG s side)) ∧ Below w.heap.size w w' := by
  obtain ⟨_, _, r1, _⟩ := hok
  have hb0 := (Below.refl _ w).alloc (Nat.le_refl _) (.cells #[.slice s.pa s.pn s.pcap, .slice s.sa s.sn s.scap, .int .i64 s.ac, .int .i64 s.cl] 37)
  have x1 := boxR_new w 37 #[.slice s.pa s.pn s.pcap, .slice s.sa s.sn s.scap, .int .i64 s.ac, .int .i64 s.cl]
  generalize hW : w.alloc (.cells #[.slice s.pa s.pn s.pcap, .slice s.sa s.sn s.scap, .int .i64 s.ac, .int .i64 s.cl] 37) = W at hb0 x1
  have c0 := x1.cell 0
  simp at c0
  go_enter Tryz.func156, Tryz.ntmps156
  go_wp2
  clear hW c0
  go_loopw [5, 11] (fun c i wr => ∃ k : Nat, k ≤ s.pn ∧ i = .int .i64 k ∧ c = .int .i64 (cnG (bnP side) k s.ps) ∧ Below W.heap.size W wr) (fun _ i _ => s.pn - (intOf i).toNat)
  case atStart => exact ⟨0, Nat.zero_le _, rfl, rfl, Below.refl _ _⟩
  case round =>
    obtain ⟨k, hk, rfl, rfl, hb⟩ := hrel
    have hB := below_app hb0 hb hb0.size
    by_cases hlt : k < s.pn
    · rcases r1.grew pcC_ne hB with g1 | ⟨o1, hpa, g1⟩
      · omega
      rw [hpa]
      obtain ⟨k0, k1, k2, k3, k4, k5, k6, k7, k8, k9, k10, k11, k12⟩ : At13 wr s.pb (o1 + k * 13) (s.ps k) := At13_of (g1 k hlt)
      have y1 : (0 : Int) ≤ (k : Int) := by omega
      have y2 : (k : Int) < (s.pn : Int) := by omega
      have hl := cnG_le (bnP side) k s.ps
      have bV := box_new wr 139 (s.ps k)
      have hbV := below_new2' wr (.cells #[.int .i64 (s.ps k).id, .int .i64 (s.ps k).ow, .int .i64 (s.ps k).si, .int .i64 (s.ps k).zo, .int .i64 (s.ps k).st, .int .i64 (s.ps k).po, .int .i64 (s.ps k).to, .int .i64 (s.ps k).tr, .int .i64 (s.ps k).pl, .int .i64 (s.ps k).mi, .int .i64 (s.ps k).ma, .bool (s.ps k).de, .bool (s.ps k).be] 139)
      generalize hV : wr.alloc (.cells #[.int .i64 (s.ps k).id, .int .i64 (s.ps k).ow, .int .i64 (s.ps k).si, .int .i64 (s.ps k).zo, .int .i64 (s.ps k).st, .int .i64 (s.ps k).po, .int .i64 (s.ps k).to, .int .i64 (s.ps k).tr, .int .i64 (s.ps k).pl, .int .i64 (s.ps k).mi, .int .i64 (s.ps k).ma, .bool (s.ps k).de, .bool (s.ps k).be] 139) = V at bV hbV
      clear g1
      obtain ⟨m0, m1, m2, m3, m4, m5, m6, m7, m8, m9, m10, m11, m12⟩ : Cells13 _ _ _ := bV.cells
      have hbV' := below_app hb hbV hb.size
      clear hb hbV bV m0 m1 m4 m5 m6 m7 m8 m9 m10 m11
      cases q3 : ((s.ps k).zo == 2)
      case false =>
        have hf : bnP side (s.ps k) = false := by unfold bnP; simp_all
        have HE : Hid (cnG (bnP side) (k + 1) s.ps = cnG (bnP side) k s.ps) := cnG_no hf
        clear hf
        go_wp2
        go_roundw
        case rel => first | exact ⟨k + 1, by omega, by go_num, by (rw [HE.out]; try (first | go_num | simp)), hbV'⟩ | ((repeat apply Exists.intro); exact ⟨⟨k + 1, by omega, by go_num, by (rw [HE.out]; try (first | go_num | simp)), hbV'⟩, rfl⟩)
        case measure => simp [intOf]; omega
      case true =>
        cases q2 : ((s.ps k).si == side)
        case false =>
          have hf : bnP side (s.ps k) = false := by unfold bnP; simp_all
          have HE : Hid (cnG (bnP side) (k + 1) s.ps = cnG (bnP side) k s.ps) := cnG_no hf
          clear hf
          go_wp2
          go_roundw
          case rel => first | exact ⟨k + 1, by omega, by go_num, by (rw [HE.out]; try (first | go_num | simp)), hbV'⟩ | ((repeat apply Exists.intro); exact ⟨⟨k + 1, by omega, by go_num, by (rw [HE.out]; try (first | go_num | simp)), hbV'⟩, rfl⟩)
          case measure => simp [intOf]; omega
        case true =>
          have HE : Hid (cnG (bnP side) (k + 1) s.ps = bif (s.ps k).be then cnG (bnP side) k s.ps + 1 else cnG (bnP side) k s.ps) := by
            show cnG (bnP side) (k + 1) s.ps = _
            cases q1 : (s.ps k).be
            · exact cnG_no (by unfold bnP; simp_all)
            · exact cnG_yes (by unfold bnP; simp_all)
          go_wp2
          all_goals (go_roundw; (case rel => first | exact ⟨k + 1, by omega, by go_num, by (rw [HE.out]; first | (simp_all; done) | (simp_all; go_num)), hbV'⟩ | ((repeat apply Exists.intro); exact ⟨⟨k + 1, by omega, by go_num, by (rw [HE.out]; first | (simp_all; done) | (simp_all; go_num)), hbV'⟩, rfl⟩)); (case measure => simp [intOf]; omega))
    · obtain rfl : k = s.pn := by omega
      go_wp2
      go_ret
      exact ⟨rfl, below_app hb0 hb hb0.size⟩
end Go.Proofs.YtodfdfncdoliiadGreat
