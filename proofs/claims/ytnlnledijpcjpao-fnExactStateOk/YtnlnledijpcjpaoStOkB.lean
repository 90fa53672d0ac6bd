/-
  Chapter 5: the program's sidesOk, belongs, piecesOk, StateOk. Own work.
-/
import Derived.Test.YtnlnledijpcjpaoStOkA
import Derived.Test.YtnlnledijpcjpaoState7
import Derived.Test.YtnlnledijpcjpaoPieceOkI
namespace Go.Proofs.Ytnlnledijpcjpao
open Go.ChangeShapes Go.WideShapes Go.ChangeAt Go.RowKit
set_option maxRecDepth 100000
set_option linter.unusedVariables false
/-- the number of the piece ahead -/
def ahd (s : Stt) (k : Nat) : Int := if k = 0 then 0 else (s.ps (k - 1)).id
theorem okP_id {p : Pc} (h : okP p = true) : 1 ≤ p.id := by
  unfold okP okA ib at h
  simp only [Bool.and_eq_true, decide_eq_true_eq] at h
  omega
theorem pAt_eq (s : Stt) (k : Nat) : pAt s k = (okP (s.ps k) && decide (ahd s k < (s.ps k).id) && blg s (s.ps k)) := by
  cases hp : okP (s.ps k) with
  | false => unfold pAt; rw [hp]; rfl
  | true =>
    have h1 := okP_id hp
    unfold pAt ahd blg
    rw [hp]
    by_cases hk : k = 0
    · subst hk
      simp [show (0 : Int) < (s.ps 0).id by omega, Bool.and_assoc]
    · simp [hk, Bool.and_assoc]
set_option maxHeartbeats 1000000 in
theorem piecesOk_any (s : Stt) (w : World) (hok : s.ok w) (hn : s.pn ≤ 1048577) : Calls Try.prog 40 #[(.agg #[.slice s.pa s.pn s.pcap, .slice s.sa s.sn s.scap, .int .i64 s.ac, .int .i64 s.cl])] w fun e w' => e = .returned (.bool (psS s)) ∧ Below w.heap.size w w' := by
  obtain ⟨_, _, r1, _⟩ := hok
  have hb0 := (Below.refl _ w).alloc (Nat.le_refl _) (.cells #[.slice s.pa s.pn s.pcap, .slice s.sa s.sn s.scap, .int .i64 s.ac, .int .i64 s.cl] 31)
  have x1 := boxR_new w 31 #[.slice s.pa s.pn s.pcap, .slice s.sa s.sn s.scap, .int .i64 s.ac, .int .i64 s.cl]
  generalize hW : w.alloc (.cells #[.slice s.pa s.pn s.pcap, .slice s.sa s.sn s.scap, .int .i64 s.ac, .int .i64 s.cl] 31) = W at hb0 x1
  have c0 := x1.cell 0
  simp at c0
  go_enter Try.func40, Try.ntmps40
  go_wp2
  clear hW c0
  go_loopw [3, 9] (fun z i wr => ∃ k : Nat, k ≤ s.pn ∧ i = .int .i64 k ∧ z = .int .i64 (ahd s k) ∧ Below W.heap.size W wr ∧ Hid (∀ j, j < k → pAt s j = true)) (fun _ i _ => s.pn - (intOf i).toNat)
  case atStart => exact ⟨0, Nat.zero_le _, rfl, rfl, Below.refl _ _, fun j hj => by omega⟩
  case round =>
    obtain ⟨k, hk, rfl, rfl, hb, hall⟩ := hrel
    have hB0 := below_app hb0 hb hb0.size
    by_cases hlt : k < s.pn
    · rcases r1.grew pcC_ne hB0 with g1 | ⟨o1, hpa, g1⟩
      · omega
      rw [hpa]
      obtain ⟨k0, k1, k2, k3, k4, k5, k6, k7, k8, k9, k10, k11, k12⟩ : At13 wr s.pb (o1 + k * 13) (s.ps k) := At13_of (g1 k hlt)
      have y1 : (0 : Int) ≤ (k : Int) := by omega
      have y2 : (k : Int) < (s.pn : Int) := by omega
      have bV := box_new wr 43 (s.ps k)
      have hbV := below_new2' wr (.cells #[.int .i64 (s.ps k).id, .int .i64 (s.ps k).ow, .int .i64 (s.ps k).si, .int .i64 (s.ps k).zo, .int .i64 (s.ps k).st, .int .i64 (s.ps k).po, .int .i64 (s.ps k).to, .int .i64 (s.ps k).tr, .int .i64 (s.ps k).pl, .int .i64 (s.ps k).mi, .int .i64 (s.ps k).ma, .bool (s.ps k).de, .bool (s.ps k).be] 43)
      generalize hV : wr.alloc (.cells #[.int .i64 (s.ps k).id, .int .i64 (s.ps k).ow, .int .i64 (s.ps k).si, .int .i64 (s.ps k).zo, .int .i64 (s.ps k).st, .int .i64 (s.ps k).po, .int .i64 (s.ps k).to, .int .i64 (s.ps k).tr, .int .i64 (s.ps k).pl, .int .i64 (s.ps k).mi, .int .i64 (s.ps k).ma, .bool (s.ps k).de, .bool (s.ps k).be] 43) = V at bV hbV
      have HP : Hid (pAt s k = (okP (s.ps k) && decide (ahd s k < (s.ps k).id) && blg s (s.ps k))) := pAt_eq s k
      have HX : Hid (ahd s (k + 1) = (s.ps k).id) := by show _ = _; unfold ahd; simp
      obtain ⟨z, hz⟩ : ∃ z, ahd s k = z := ⟨_, rfl⟩
      rw [hz] at HP ⊢
      clear g1 hz
      obtain ⟨m0, m1, m2, m3, m4, m5, m6, m7, m8, m9, m10, m11, m12⟩ : Cells13 _ _ _ := bV.cells
      have hBV := below_app hb hbV hb.size
      have x3 := (x1.grew hb).grew hbV
      clear hb hbV
      go_wp2_with fail
      refine (implPieceOk_any (s.ps k) V).mono ?_
      rintro e w1 ⟨rfl, hb1⟩
      have b1 := bV.grew hb1
      have x4 := x3.grew hb1
      have hB1 := below_app hBV hb1 hBV.size
      clear k0 k1 k2 k3 k4 k5 k6 k7 k8 k9 k10 k11 k12 m0 m1 m2 m3 m4 m5 m6 m7 m8 m9 m10 m11 m12 bV x3 hBV hb1 hV
      obtain ⟨k0, k1, k2, k3, k4, k5, k6, k7, k8, k9, k10, k11, k12⟩ : Cells13 _ _ _ := b1.cells
      have c0 := x4.cell 0
      have c1 := x4.cell 1
      have c2 := x4.cell 2
      have c3 := x4.cell 3
      simp at c0 c1 c2 c3
      cases hp : okP (s.ps k) with
      | false =>
        have HN : Hid (psS s = false) := all_no hlt (by rw [HP.out, hp]; rfl)
        clear HP
        go_wp2
        go_ret
        exact ⟨ret_bool' HN.out.symm, below_app hb0 hB1 hb0.size⟩
      | true =>
      by_cases hi : (s.ps k).id ≤ z
      · have HN : Hid (psS s = false) := all_no hlt (by rw [HP.out, decide_eq_false (show ¬ (z < (s.ps k).id) by omega)]; simp)
        clear HP
        go_wp2
        go_ret
        exact ⟨ret_bool' HN.out.symm, below_app hb0 hB1 hb0.size⟩
      have hi' : decide ((s.ps k).id ≤ z) = false := decide_eq_false hi
      have HI0 : z < (s.ps k).id := by omega
      have HI : Hid (z < (s.ps k).id) := HI0
      clear HI0
      clear hi
      cases hg : blg s (s.ps k) with
      | false =>
        have HN : Hid (psS s = false) := all_no hlt (by rw [HP.out, hg]; simp)
        clear HP
        go_wp2_with fail
        refine (belongs_any { s with pa := some ⟨s.pb, o1, none⟩ } (s.ps k) _).mono ?_
        rintro e w2 ⟨rfl, hb2⟩
        rw [show blg { s with pa := some ⟨s.pb, o1, none⟩ } (s.ps k) = blg s (s.ps k) from rfl, hg]
        have hB2 := below_app hB1 hb2 hB1.size
        go_wp2
        go_ret
        exact ⟨ret_bool' HN.out.symm, below_app hb0 hB2 hb0.size⟩
      | true =>
        have HA : Hid (∀ j, j < k + 1 → pAt s j = true) := fun j hj => by
          by_cases e : j = k
          · subst e; rw [HP.out, hp, hg, decide_eq_true HI.out]; rfl
          · exact hall.out j (by omega)
        clear hall HP HI
        go_wp2_with fail
        refine (belongs_any { s with pa := some ⟨s.pb, o1, none⟩ } (s.ps k) _).mono ?_
        rintro e w2 ⟨rfl, hb2⟩
        rw [show blg { s with pa := some ⟨s.pb, o1, none⟩ } (s.ps k) = blg s (s.ps k) from rfl, hg]
        have b2 := b1.grew hb2
        have hB2 := below_app hB1 hb2 hB1.size
        clear k0 k1 k2 k3 k4 k5 k6 k7 k8 k9 k10 k11 k12 c0 c1 c2 c3 x4
        obtain ⟨k0, k1, k2, k3, k4, k5, k6, k7, k8, k9, k10, k11, k12⟩ : Cells13 _ _ _ := b2.cells
        go_wp2
        go_roundw
        case rel => first | exact ⟨k + 1, by omega, by go_num, by rw [HX.out], hB2, HA⟩ | ((repeat apply Exists.intro); exact ⟨⟨k + 1, by omega, by go_num, by rw [HX.out], hB2, HA⟩, rfl⟩)
        case measure => simp [intOf]; omega
    · obtain rfl : k = s.pn := by omega
      have HN : Hid (psS s = true) := all_yes hall.out
      clear hall
      go_wp2
      go_ret
      exact ⟨ret_bool' HN.out.symm, hB0⟩
end Go.Proofs.Ytnlnledijpcjpao
