/-
  Chapter 9: the specification's Parts (paN, paF: how many, which). Written by tools/ac.gen.py. Own work.
-/
import Derived.Test.YthemmhocnkpcjasAcB
import Derived.Test.YthemmhocnkpcjasState8
import Derived.Test.YthemmhocnkpcjasStAt
namespace Go.Proofs.Ythemmhocnkpcjas
open Go.ChangeShapes Go.WideShapes Go.ChangeAt Go.RowKit
set_option maxRecDepth 100000
set_option linter.unusedVariables false
set_option linter.unusedSimpArgs false

theorem owns_kept9 {w w' : World} {B : Nat} {e : TypeId} {m : Nat} {v : Value} {n : Nat} {xs : List Value} (h : w.ownsRow B e m v n xs) (hb : Below w.heap.size w w') : w'.ownsRow B e m v n xs := h.kept (row := none) ⟨hb.os, hb.tape, hb.output, hb.size, fun k hk _ => hb.block k hk⟩ (by cases v.ownBlock <;> simp)
/-- the parts of an act for a thing: how many, which -/
def paN (a : Ac) : Nat := if a.kd = 9 then a.ln else 0
def paF (a : Ac) (e : Ev) : Nat → Ev := fun i => if (a.es i).nn = -1 then { a.es i with nn := up e.nn 2147483647 } else a.es i
theorem paF_yes {a : Ac} {e : Ev} {k : Nat} (h : ((a.es k).nn == -1) = true) : paF a e k = { a.es k with nn := up e.nn 2147483647 } := by unfold paF; simp_all
theorem paF_no {a : Ac} {e : Ev} {k : Nat} (h : ((a.es k).nn == -1) = false) : paF a e k = a.es k := by unfold paF; simp_all
set_option maxHeartbeats 4000000 in
theorem specParts_any (a : Ac) (e : Ev) (w : World) (hok : a.ok w) (hn : a.ln ≤ 1048576) : Calls Try.prog 13 #[(.agg #[.int .i64 a.kd, .int .i64 a.nn, .int .i64 a.pi, .int .i64 a.si, .int .i64 a.zo, .bool a.be, .slice a.la a.ln a.lcap]), (.agg #[.int .i64 e.kd, .int .i64 e.sr, .int .i64 e.pi, .int .i64 e.si, .int .i64 e.nn, .int .i64 e.zo, .bool e.be])] w fun r w' => ∃ q cap, r = .returned (.slice (some ⟨q, 0, none⟩) (paN a) cap) ∧ Below w.heap.size w w' ∧ OwnE evC 7 w' w.heap.size q (some ⟨q, 0, none⟩) (paN a) (paF a e) := by
  obtain ⟨i0, hi, hz0, hz1, hz2⟩ := info_parts Try.infoEv
  obtain ⟨_, _, r1, _⟩ := hok
  have hb0 := ((Below.refl _ w).alloc (Nat.le_refl _) (.cells #[.int .i64 a.kd, .int .i64 a.nn, .int .i64 a.pi, .int .i64 a.si, .int .i64 a.zo, .bool a.be, .slice a.la a.ln a.lcap] 29)).alloc (by simp) (.cells #[.int .i64 e.kd, .int .i64 e.sr, .int .i64 e.pi, .int .i64 e.si, .int .i64 e.nn, .int .i64 e.zo, .bool e.be] 36)
  have x1 := (boxR_new w 29 #[.int .i64 a.kd, .int .i64 a.nn, .int .i64 a.pi, .int .i64 a.si, .int .i64 a.zo, .bool a.be, .slice a.la a.ln a.lcap]).alloc (.cells #[.int .i64 e.kd, .int .i64 e.sr, .int .i64 e.pi, .int .i64 e.si, .int .i64 e.nn, .int .i64 e.zo, .bool e.be] 36)
  have x2 : BoxR ((w.alloc (.cells #[.int .i64 a.kd, .int .i64 a.nn, .int .i64 a.pi, .int .i64 a.si, .int .i64 a.zo, .bool a.be, .slice a.la a.ln a.lcap] 29)).alloc (.cells #[.int .i64 e.kd, .int .i64 e.sr, .int .i64 e.pi, .int .i64 e.si, .int .i64 e.nn, .int .i64 e.zo, .bool e.be] 36)) (w.heap.size + 1) 36 #[.int .i64 e.kd, .int .i64 e.sr, .int .i64 e.pi, .int .i64 e.si, .int .i64 e.nn, .int .i64 e.zo, .bool e.be] := heap_alloc2_new _ _ _
  generalize hW : (w.alloc (.cells #[.int .i64 a.kd, .int .i64 a.nn, .int .i64 a.pi, .int .i64 a.si, .int .i64 a.zo, .bool a.be, .slice a.la a.ln a.lcap] 29)).alloc (.cells #[.int .i64 e.kd, .int .i64 e.sr, .int .i64 e.pi, .int .i64 e.si, .int .i64 e.nn, .int .i64 e.zo, .bool e.be] 36) = W at hb0 x1 x2
  have hown0 : (W.alloc (.cells #[] 36)).ownsRow W.heap.size 36 7 (.slice (some ⟨W.heap.size, 0, none⟩) 0 0) 0 [] := World.ownsRow_lit W #[] 0 (Nat.le_refl _) (by decide) rfl
  have hb1 : Below W.heap.size W (W.alloc (.cells #[] 36)) := (Below.refl _ _).alloc (Nat.le_refl _) _
  have hsz := hb0.size
  cases q9 : (a.kd == 9)
  case false =>
    have HN : Hid (paN a = 0) := by show paN a = 0; unfold paN; simp_all
    go_enter Try.func13, Try.ntmps13
    go_wp2
    generalize hW1 : W.alloc (.cells #[] 36) = W1 at hown0 hb1 ⊢
    clear hW hW1
    go_loopw [5, 6] (fun v i wr => v = .slice (some ⟨W.heap.size, 0, none⟩) 0 0 ∧ i = .int .i64 0 ∧ wr = W1) (fun _ i _ => 0)
    case atStart => exact ⟨rfl, rfl, rfl⟩
    case round =>
      obtain ⟨rfl, rfl, rfl⟩ := hrel
      have y1 := x1.grew hb1
      have c0 := y1.cell 0
      have c6 := y1.cell 6
      simp at c0 c6
      have ho := (own_ofE evC_len (f := paF a e) hown0 (by simp)).elim (fun g hg => by obtain ⟨cap, h1, _, h3⟩ := hg; simp at h1; obtain ⟨rfl, rfl⟩ := h1; exact h3)
      have HO : Hid (OwnE evC 7 wr w.heap.size W.heap.size (some ⟨W.heap.size, 0, none⟩) 0 (paF a e)) := ⟨hsz, ho.2⟩
      have hB := below_app hb0 hb1 hb0.size
      clear ho hown0
      by_cases hz : 0 < a.ln
      · have z1 : (0 : Int) < (a.ln : Int) := by omega
        clear hz
        go_wp2
        go_ret
        rw [HN.out]
        first | exact ⟨_, _, rfl, hB, HO.out⟩ | exact ⟨W.heap.size, ⟨_, rfl⟩, hB, HO.out⟩
      · have z1 : ¬ (0 : Int) < (a.ln : Int) := by omega
        clear hz
        go_wp2
        go_ret
        rw [HN.out]
        first | exact ⟨_, _, rfl, hB, HO.out⟩ | exact ⟨W.heap.size, ⟨_, rfl⟩, hB, HO.out⟩
  case true =>
  have HN : Hid (paN a = a.ln) := by show paN a = a.ln; unfold paN; simp_all
  go_enter Try.func13, Try.ntmps13
  go_wp2
  clear hW
  go_loopw [5, 6] (fun v i wr => ∃ k : Nat, k ≤ a.ln ∧ i = .int .i64 k ∧ wr.ownsRow W.heap.size 36 7 v k (valsE evC k (paF a e)) ∧ v ≠ .slice none 0 0 ∧ Below W.heap.size W wr) (fun _ i _ => a.ln - (intOf i).toNat)
  case atStart => exact ⟨0, Nat.zero_le _, rfl, hown0, by simp, hb1⟩
  case round =>
    clear hown0 hb1
    obtain ⟨k, hk, rfl, hown, hnil, hb⟩ := hrel
    have z1 := x1.grew hb
    have z2 := x2.grew hb
    have c0 := z1.cell 0
    have c6 := z1.cell 6
    have d4 := z2.cell 4
    simp at c0 c6 d4
    have hB := below_app hb0 hb hsz
    by_cases hlt : k < a.ln
    · rcases r1.grew evC_ne hB with g1 | ⟨o1, hpa, g1⟩
      · omega
      rw [hpa] at c6
      obtain ⟨k0, k1, k2, k3, k4, k5, k6⟩ : AtEv wr a.lb (o1 + k * 7) (a.es k) := AtEv_of (g1 k hlt)
      clear hpa g1 z1 z2
      have y1 : (0 : Int) ≤ (k : Int) := by omega
      have y2 : (k : Int) < (a.ln : Int) := by omega
      have bV := boxR_new wr 36 #[.int .i64 (a.es k).kd, .int .i64 (a.es k).sr, .int .i64 (a.es k).pi, .int .i64 (a.es k).si, .int .i64 (a.es k).nn, .int .i64 (a.es k).zo, .bool (a.es k).be]
      have hbV := below_new2' wr (.cells #[.int .i64 (a.es k).kd, .int .i64 (a.es k).sr, .int .i64 (a.es k).pi, .int .i64 (a.es k).si, .int .i64 (a.es k).nn, .int .i64 (a.es k).zo, .bool (a.es k).be] 36)
      have hlV : wr.heap.size < (wr.alloc (.cells #[.int .i64 (a.es k).kd, .int .i64 (a.es k).sr, .int .i64 (a.es k).pi, .int .i64 (a.es k).si, .int .i64 (a.es k).nn, .int .i64 (a.es k).zo, .bool (a.es k).be] 36)).heap.size := by simp
      have dV : (wr.alloc (.cells #[.int .i64 (a.es k).kd, .int .i64 (a.es k).sr, .int .i64 (a.es k).pi, .int .i64 (a.es k).si, .int .i64 (a.es k).nn, .int .i64 (a.es k).zo, .bool (a.es k).be] 36)).cell? ⟨w.heap.size + 1, 4, none⟩ = some (.int .i64 e.nn) := (hbV.cell (World.block_lt_of_cell? _ _ d4)).trans d4
      generalize hV : wr.alloc (.cells #[.int .i64 (a.es k).kd, .int .i64 (a.es k).sr, .int .i64 (a.es k).pi, .int .i64 (a.es k).si, .int .i64 (a.es k).nn, .int .i64 (a.es k).zo, .bool (a.es k).be] 36) = V at bV hbV hlV dV
      have m4 := bV.cell 4
      simp at m4
      cases q1 : ((a.es k).nn == -1)
      case false =>
        have HP : Hid (paF a e k = a.es k) := paF_no q1
        have m0 := bV.cell 0
        have m1 := bV.cell 1
        have m2 := bV.cell 2
        have m3 := bV.cell 3
        have m5 := bV.cell 5
        have m6 := bV.cell 6
        simp at m0 m1 m2 m3 m5 m6
        clear bV dV d4
        have hownV := owns_kept9 hown hbV
        have hbV' := below_app hb hbV hb.size
        have HE : Hid (valsE evC (k + 1) (paF a e) = valsE evC k (paF a e) ++ evC (a.es k)) := by
          show _ = _
          rw [valsE_snoc, HP.out]
        go_wp2_with (at_builtin; refine wpList_append_own _ rfl (.tmp 33) (.tmp 35) 27 rfl W.heap.size 36 i0 (.agg #[.int .i64 0, .int .i64 0, .int .i64 0, .int .i64 0, .int .i64 0, .int .i64 0, .bool false]) 7 56 Try.underlying27 hi hz0 hz1 hz2 rfl (by decide) _ _ _ rfl (hownV.alloc _) ⟨V.heap.size, 0, none⟩ 1 1 (evC (a.es k)) rfl rfl (cells_new _ _ _) (by intro u hu; simp [evC] at hu; rcases hu with rfl | rfl | rfl | rfl | rfl | rfl | rfl <;> rfl) (by unfold maxLen; omega) (by omega) (by have := hbV'.size; simp; omega) ?_)
        intro v4 w4 hown4 hgr4 hnil4
        have hb4 : Below W.heap.size W w4 := (hbV'.alloc hbV'.size _).grown hgr4 (by have := hbV'.size; simp; omega) (fun k hk => (hownV.lt k hk).1)
        have hown5 : w4.ownsRow W.heap.size 36 7 v4 (k + 1) (valsE evC (k + 1) (paF a e)) := by rw [HE.out]; exact hown4
        have hnil5 : v4 ≠ .slice none 0 0 := hnil4
        clear hown4 hgr4 hnil4 hown hownV hnil hb HE HP hbV'
        go_wp2
        go_roundw
        case rel => first | exact ⟨k + 1, by omega, by go_num, hown5, hnil5, hb4⟩ | ((repeat apply Exists.intro); exact ⟨⟨k + 1, by omega, by go_num, hown5, hnil5, hb4⟩, rfl⟩)
        case measure => simp [intOf]; omega
      case true =>
      have HP : Hid (paF a e k = { a.es k with nn := up e.nn 2147483647 }) := paF_yes q1
      have f4 := bV.froz 4
      have bU := bV.put 4 (.int .i64 (up e.nn 2147483647))
      have hbU := hbV.setCell (p := ⟨wr.heap.size, 4, none⟩) (Nat.le_refl _) (.int .i64 (up e.nn 2147483647))
      generalize hU : V.setCell ⟨wr.heap.size, 4, none⟩ (.int .i64 (up e.nn 2147483647)) = U at bU hbU
      have u0 := bU.cell 0
      have u1 := bU.cell 1
      have u2 := bU.cell 2
      have u3 := bU.cell 3
      have u4 := bU.cell 4
      have u5 := bU.cell 5
      have u6 := bU.cell 6
      simp at u0 u1 u2 u3 u4 u5 u6
      clear bV bU d4
      go_wp2_with fail
      refine (specUpto_b _ _ _).mono ?_
      rintro r w9 ⟨rfl, rfl⟩
      have hownV := owns_kept9 hown hbU
      have hbV' := below_app hb hbU hb.size
      have HE : Hid (valsE evC (k + 1) (paF a e) = valsE evC k (paF a e) ++ evC ({ a.es k with nn := up e.nn 2147483647 } : Ev)) := by
        show _ = _
        rw [valsE_snoc, HP.out]
      go_wp2_with (at_builtin; refine wpList_append_own _ rfl (.tmp 33) (.tmp 35) 27 rfl W.heap.size 36 i0 (.agg #[.int .i64 0, .int .i64 0, .int .i64 0, .int .i64 0, .int .i64 0, .int .i64 0, .bool false]) 7 56 Try.underlying27 hi hz0 hz1 hz2 rfl (by decide) _ _ _ rfl (hownV.alloc _) ⟨U.heap.size, 0, none⟩ 1 1 (evC ({ a.es k with nn := up e.nn 2147483647 } : Ev)) rfl rfl (cells_new _ _ _) (by intro u hu; simp [evC] at hu; rcases hu with rfl | rfl | rfl | rfl | rfl | rfl | rfl <;> rfl) (by unfold maxLen; omega) (by omega) (by have := hbV'.size; simp; omega) ?_)
      intro v4 w4 hown4 hgr4 hnil4
      have hb4 : Below W.heap.size W w4 := (hbV'.alloc hbV'.size _).grown hgr4 (by have := hbV'.size; simp; omega) (fun k hk => (hownV.lt k hk).1)
      have hown5 : w4.ownsRow W.heap.size 36 7 v4 (k + 1) (valsE evC (k + 1) (paF a e)) := by rw [HE.out]; exact hown4
      have hnil5 : v4 ≠ .slice none 0 0 := hnil4
      clear hown4 hgr4 hnil4 hown hownV hnil hb HE HP hbV'
      go_wp2
      go_roundw
      case rel => first | exact ⟨k + 1, by omega, by go_num, hown5, hnil5, hb4⟩ | ((repeat apply Exists.intro); exact ⟨⟨k + 1, by omega, by go_num, hown5, hnil5, hb4⟩, rfl⟩)
      case measure => simp [intOf]; omega
    · obtain rfl : k = a.ln := by omega
      obtain ⟨q, cap, rfl, _, ho⟩ := own_ofE evC_len hown hnil
      clear hown hnil
      go_wp2
      go_ret
      rw [HN.out]
      first | exact ⟨q, cap, rfl, hB, ⟨by have := ho.1; omega, ho.2⟩⟩ | exact ⟨q, ⟨cap, rfl⟩, hB, ⟨by have := ho.1; omega, ho.2⟩⟩
end Go.Proofs.Ythemmhocnkpcjas
