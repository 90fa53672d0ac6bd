/-
  What is proved: at every code (every slice of bytes, of whatever length), the law FnActs answers true: of drawn acts the program says which may be, what they fit, what their parts are and how they read as the specification has it; the parts of a right act for a right thing are right things; and the argument reads afterwards as before; the library's tables that the road reads hold what the program's text lays (the card ties them).
-/
import Derived.Test.YtgaodfjmehofgacDoorCards
import Derived.Test.YtgaodfjmehofgacDoorTie
import Derived.Test.YtgaodfjmehofgacDoorCurs
import Derived.Test.YtgaodfjmehofgacDoorAcTT
import Derived.Test.YtgaodfjmehofgacDoorAcLMS
import Derived.Test.YtgaodfjmehofgacDoorDrawAe
import Derived.Deep.RegionHeldLaw
import Derived.BigGuardPart
import Derived.WalkKit
import Derived.ProofKit
import Derived.OpenShut
import Derived.Deep.DeepHandedRow
import Derived.Lib.LaidTab
import Derived.Stop.LaidErr
import Derived.ChangeOld
import Derived.Below
namespace Go.Proofs.YtgaodfjmehofgacDoor.fnActs
open Go.ChangeShapes Go.WideShapes Go.ChangeAt Go.RowKit
set_option maxRecDepth 100000

theorem own : ownKnob Tryd.prog.godebug = none := by kernel_rfl
theorem laidOut : laidOutB Tryd.prog = true := by kernel_rfl
theorem table {W : World} (h : laidMetH Tryd.prog Rows.fnActsRow.laid W) : Pow W :=
  Lib.tabIs_of_head (rest := []) gTab gTabType Tryd.underlying103 Tryd.underlying96 cells1 cellsTab (show laidMet Tryd.prog [("internal/strconv.uint64pow10", Lib.tabData .u64 Lib.pow10Tab)] W from laidMet.tail (laidMet.tail h))

theorem ba_emp (X : ByteArray) (h : 1 ≤ X.size) : X.toList.isEmpty = false := by
  rw [Lib.toList_data]
  cases hx : X.data.toList with
  | nil =>
    exfalso
    have h1 : X.data.size = 0 := by rw [← Array.length_toList, hx]; rfl
    have h2 : X.size = X.data.size := rfl
    omega
  | cons a l => rfl
theorem txA_ne {a : Ac} (h : okAc a = true) : (txA a).toList.isEmpty = false := by
  have hs : ∀ (wd : ByteArray) (x : Int), 1 ≤ wd.size → 1 ≤ (say wd (fn1 x) 1).size := fun wd x hw => by
    show 1 ≤ (wd ++ ((⟨#[32]⟩ : ByteArray) ++ tx (fn1 x 0))).size
    rw [ByteArray.size_append]; omega
  have hz : 1 ≤ (txA a).size := by
    unfold txA
    rw [if_pos h]
    unfold wdA
    rcases kd_ok h with k | k | k | k | k | k | k | k | k <;> simp only [k] <;> simp
    · decide
    · decide
    · exact hs _ _ (by decide)
    · decide
    · decide
    · unfold aiT; split <;> exact hs _ _ (by decide)
    · exact hs _ _ (by decide)
    · have := hs (⟨#[101, 110, 116, 101, 114]⟩ : ByteArray) a.nn (by decide); omega
    · exact hs _ _ (by decide)
  exact ba_emp _ hz
set_option maxRecDepth 100000 in
set_option maxHeartbeats 4000000 in
theorem walk (a0 : Option Addr) (len0 cap0 : Nat) (w : World) (hc : Code w a0 len0 w.heap.size) (ht : Pow w) :
    Calls Tryd.prog 3 #[.slice a0 len0 cap0] w fun e w' => e = .returned (.bool true) ∧ Below w.heap.size w w' := by
  have HT : Hid (∀ u : World, Below w.heap.size w u → Pow u) := fun u hu => ht.below hu
  clear ht
  by_cases hbig : (1048576 : Int) < (len0 : Int)
  · go_enter Tryd.func3, Tryd.ntmps3
    go_wp2_with (go_at_call 4; refine (big_any _ _ _ _).mono ?_; rintro e w' ⟨rfl, rfl⟩)
    go_ret
    exact ⟨rfl, Below.refl _ _⟩
  · go_enter Tryd.func3, Tryd.ntmps3
    try simp only [List.append_eq, List.cons_append, List.nil_append]
    go_wp2_with fail
    refine (big_any _ _ _ _).mono ?_
    rintro e w' ⟨rfl, rfl⟩
    have hB := Below.refl w'.heap.size w'
    go_wp2_with fail
    refine (drawActOk_any _ _ _ _ ((hc.below hB).mono hB.size (Nat.le_refl _))).mono ?_
    rintro e u1 ⟨t_a, h_a, l_a, rfl, hb⟩
    replace hB := below_app hB hb hB.size
    clear hb
    have hb := below_new2'' u1 (.cells #[.int .i64 t_a.kd, .int .i64 t_a.nn, .int .i64 t_a.pi, .int .i64 t_a.si, .int .i64 t_a.zo, .bool t_a.be, .slice t_a.la t_a.ln t_a.lcap] 26)
    have b_a := boxR_new u1 26 #[.int .i64 t_a.kd, .int .i64 t_a.nn, .int .i64 t_a.pi, .int .i64 t_a.si, .int .i64 t_a.zo, .bool t_a.be, .slice t_a.la t_a.ln t_a.lcap]
    generalize hV : u1.alloc (.cells #[.int .i64 t_a.kd, .int .i64 t_a.nn, .int .i64 t_a.pi, .int .i64 t_a.si, .int .i64 t_a.zo, .bool t_a.be, .slice t_a.la t_a.ln t_a.lcap] 26) = U1 at hb b_a
    replace h_a := act_grew h_a hb
    replace hB := below_app hB hb hB.size
    clear hb
    go_wp2_with fail
    clear hV
    refine (drawActFits_any _ _ _ _ ((hc.below hB).mono hB.size (Nat.le_refl _))).mono ?_
    rintro e u2 ⟨t_b, kk, h_b, l_b, hkk, rfl, hb⟩
    replace h_a := act_grew h_a hb
    replace b_a := b_a.grew hb
    replace hB := below_app hB hb hB.size
    clear hb
    have hb := below_new2'' u2 (.cells #[.int .i64 t_b.kd, .int .i64 t_b.nn, .int .i64 t_b.pi, .int .i64 t_b.si, .int .i64 t_b.zo, .bool t_b.be, .slice t_b.la t_b.ln t_b.lcap] 26)
    have b_b := boxR_new u2 26 #[.int .i64 t_b.kd, .int .i64 t_b.nn, .int .i64 t_b.pi, .int .i64 t_b.si, .int .i64 t_b.zo, .bool t_b.be, .slice t_b.la t_b.ln t_b.lcap]
    generalize hV : u2.alloc (.cells #[.int .i64 t_b.kd, .int .i64 t_b.nn, .int .i64 t_b.pi, .int .i64 t_b.si, .int .i64 t_b.zo, .bool t_b.be, .slice t_b.la t_b.ln t_b.lcap] 26) = U2 at hb b_b
    replace h_a := act_grew h_a hb
    replace h_b := act_grew h_b hb
    replace b_a := b_a.grew hb
    replace hB := below_app hB hb hB.size
    clear hb
    go_wp2_with fail
    clear hV
    refine (drawParts_any _ _ _ _ ((hc.below hB).mono hB.size (Nat.le_refl _))).mono ?_
    rintro e u3 ⟨t_c, q, h_c, l_c, w_q, rfl, hb⟩
    replace h_a := act_grew h_a hb
    replace h_b := act_grew h_b hb
    replace b_a := b_a.grew hb
    replace b_b := b_b.grew hb
    replace hB := below_app hB hb hB.size
    clear hb
    have x4 := (boxR_new u3 26 #[.int .i64 0, .int .i64 0, .int .i64 0, .int .i64 0, .int .i64 0, .bool false, .slice none 0 0]).alloc (.cells #[.int .i64 0, .int .i64 0, .int .i64 0, .int .i64 0, .int .i64 0, .int .i64 0, .bool false] 31)
    have x5 : BoxR ((u3.alloc (.cells #[.int .i64 0, .int .i64 0, .int .i64 0, .int .i64 0, .int .i64 0, .bool false, .slice none 0 0] 26)).alloc (.cells #[.int .i64 0, .int .i64 0, .int .i64 0, .int .i64 0, .int .i64 0, .int .i64 0, .bool false] 31)) (u3.heap.size + 1) 31 #[.int .i64 0, .int .i64 0, .int .i64 0, .int .i64 0, .int .i64 0, .int .i64 0, .bool false] := heap_alloc2_new _ _ _
    have hbA := ((Below.refl _ u3).alloc (Nat.le_refl _) (.cells #[.int .i64 0, .int .i64 0, .int .i64 0, .int .i64 0, .int .i64 0, .bool false, .slice none 0 0] 26)).alloc (by simp) (.cells #[.int .i64 0, .int .i64 0, .int .i64 0, .int .i64 0, .int .i64 0, .int .i64 0, .bool false] 31)
    generalize hWA : (u3.alloc (.cells #[.int .i64 0, .int .i64 0, .int .i64 0, .int .i64 0, .int .i64 0, .bool false, .slice none 0 0] 26)).alloc (.cells #[.int .i64 0, .int .i64 0, .int .i64 0, .int .i64 0, .int .i64 0, .int .i64 0, .bool false] 31) = WA at x4 x5 hbA
    have y4 : BoxR (WA.setRow u3.heap.size #[.int .i64 t_c.kd, .int .i64 t_c.nn, .int .i64 t_c.pi, .int .i64 t_c.si, .int .i64 t_c.zo, .bool t_c.be, .slice t_c.la t_c.ln t_c.lcap]) u3.heap.size 26 #[.int .i64 t_c.kd, .int .i64 t_c.nn, .int .i64 t_c.pi, .int .i64 t_c.si, .int .i64 t_c.zo, .bool t_c.be, .slice t_c.la t_c.ln t_c.lcap] := setRow_heap _ _ _ _ _ _ x4
    have y5 : BoxR (WA.setRow u3.heap.size #[.int .i64 t_c.kd, .int .i64 t_c.nn, .int .i64 t_c.pi, .int .i64 t_c.si, .int .i64 t_c.zo, .bool t_c.be, .slice t_c.la t_c.ln t_c.lcap]) (u3.heap.size + 1) 31 #[.int .i64 0, .int .i64 0, .int .i64 0, .int .i64 0, .int .i64 0, .int .i64 0, .bool false] := oldRow9 x5 (by omega)
    have b_c : BoxR ((WA.setRow u3.heap.size #[.int .i64 t_c.kd, .int .i64 t_c.nn, .int .i64 t_c.pi, .int .i64 t_c.si, .int .i64 t_c.zo, .bool t_c.be, .slice t_c.la t_c.ln t_c.lcap]).setRow (u3.heap.size + 1) #[.int .i64 q.kd, .int .i64 q.sr, .int .i64 q.pi, .int .i64 q.si, .int .i64 q.nn, .int .i64 q.zo, .bool q.be]) u3.heap.size 26 #[.int .i64 t_c.kd, .int .i64 t_c.nn, .int .i64 t_c.pi, .int .i64 t_c.si, .int .i64 t_c.zo, .bool t_c.be, .slice t_c.la t_c.ln t_c.lcap] := oldRow9 y4 (by omega)
    have b_e : BoxR ((WA.setRow u3.heap.size #[.int .i64 t_c.kd, .int .i64 t_c.nn, .int .i64 t_c.pi, .int .i64 t_c.si, .int .i64 t_c.zo, .bool t_c.be, .slice t_c.la t_c.ln t_c.lcap]).setRow (u3.heap.size + 1) #[.int .i64 q.kd, .int .i64 q.sr, .int .i64 q.pi, .int .i64 q.si, .int .i64 q.nn, .int .i64 q.zo, .bool q.be]) (u3.heap.size + 1) 31 #[.int .i64 q.kd, .int .i64 q.sr, .int .i64 q.pi, .int .i64 q.si, .int .i64 q.nn, .int .i64 q.zo, .bool q.be] := setRow_heap _ _ _ _ _ _ y5
    have hb := below_setRow (below_setRow hbA (Nat.le_refl u3.heap.size) #[.int .i64 t_c.kd, .int .i64 t_c.nn, .int .i64 t_c.pi, .int .i64 t_c.si, .int .i64 t_c.zo, .bool t_c.be, .slice t_c.la t_c.ln t_c.lcap]) (by omega : u3.heap.size ≤ u3.heap.size + 1) #[.int .i64 q.kd, .int .i64 q.sr, .int .i64 q.pi, .int .i64 q.si, .int .i64 q.nn, .int .i64 q.zo, .bool q.be]
    generalize hU0 : (WA.setRow u3.heap.size #[.int .i64 t_c.kd, .int .i64 t_c.nn, .int .i64 t_c.pi, .int .i64 t_c.si, .int .i64 t_c.zo, .bool t_c.be, .slice t_c.la t_c.ln t_c.lcap]).setRow (u3.heap.size + 1) #[.int .i64 q.kd, .int .i64 q.sr, .int .i64 q.pi, .int .i64 q.si, .int .i64 q.nn, .int .i64 q.zo, .bool q.be] = U3 at b_c b_e hb
    replace h_a := act_grew h_a hb
    replace h_b := act_grew h_b hb
    replace h_c := act_grew h_c hb
    replace b_a := b_a.grew hb
    replace b_b := b_b.grew hb
    replace hB := below_app hB hb hB.size
    clear hb
    have c_c_0 : U3.cell? ⟨u3.heap.size, 0, none⟩ = some (.int .i64 t_c.kd) := b_c.cell 0
    have c_c_1 : U3.cell? ⟨u3.heap.size, 1, none⟩ = some (.int .i64 t_c.nn) := b_c.cell 1
    have c_c_2 : U3.cell? ⟨u3.heap.size, 2, none⟩ = some (.int .i64 t_c.pi) := b_c.cell 2
    have c_c_3 : U3.cell? ⟨u3.heap.size, 3, none⟩ = some (.int .i64 t_c.si) := b_c.cell 3
    have c_c_4 : U3.cell? ⟨u3.heap.size, 4, none⟩ = some (.int .i64 t_c.zo) := b_c.cell 4
    have c_c_5 : U3.cell? ⟨u3.heap.size, 5, none⟩ = some (.bool t_c.be) := b_c.cell 5
    have c_c_6 : U3.cell? ⟨u3.heap.size, 6, none⟩ = some (.slice t_c.la t_c.ln t_c.lcap) := b_c.cell 6
    have c_e_0 : U3.cell? ⟨u3.heap.size + 1, 0, none⟩ = some (.int .i64 q.kd) := b_e.cell 0
    have c_e_1 : U3.cell? ⟨u3.heap.size + 1, 1, none⟩ = some (.int .i64 q.sr) := b_e.cell 1
    have c_e_2 : U3.cell? ⟨u3.heap.size + 1, 2, none⟩ = some (.int .i64 q.pi) := b_e.cell 2
    have c_e_3 : U3.cell? ⟨u3.heap.size + 1, 3, none⟩ = some (.int .i64 q.si) := b_e.cell 3
    have c_e_4 : U3.cell? ⟨u3.heap.size + 1, 4, none⟩ = some (.int .i64 q.nn) := b_e.cell 4
    have c_e_5 : U3.cell? ⟨u3.heap.size + 1, 5, none⟩ = some (.int .i64 q.zo) := b_e.cell 5
    have c_e_6 : U3.cell? ⟨u3.heap.size + 1, 6, none⟩ = some (.bool q.be) := b_e.cell 6
    go_wp2_with first | (refine wpList_store_row rfl 26 (.tmp 6) _ rfl u3.heap.size #[.int .i64 t_c.kd, .int .i64 t_c.nn, .int .i64 t_c.pi, .int .i64 t_c.si, .int .i64 t_c.zo, .bool t_c.be, .slice t_c.la t_c.ln t_c.lcap] (by rfl) (by rfl) _ _ x4 (by kernel_rfl) (by rfl) (by simp [Value.oneCell']) ?_) | (refine wpList_store_row rfl 31 (.tmp 7) _ rfl (u3.heap.size + 1) #[.int .i64 q.kd, .int .i64 q.sr, .int .i64 q.pi, .int .i64 q.si, .int .i64 q.nn, .int .i64 q.zo, .bool q.be] (by rfl) (by rfl) _ _ y5 (by kernel_rfl) (by rfl) (by simp [Value.oneCell']) ?_; rw [hU0])
    clear x4 x5 y4 y5 hU0 hWA hbA
    refine (implParts_any t_c q _ h_c (by omega)).mono ?_
    rintro e u4 ⟨q_l, c_l, rfl, hb, o_l⟩
    clear c_c_0 c_c_1 c_c_2 c_c_3 c_c_4 c_c_5 c_c_6 c_e_0 c_e_1 c_e_2 c_e_3 c_e_4 c_e_5 c_e_6
    replace h_a := act_grew h_a hb
    replace h_b := act_grew h_b hb
    replace h_c := act_grew h_c hb
    replace b_a := b_a.grew hb
    replace b_b := b_b.grew hb
    replace b_c := b_c.grew hb
    replace b_e := b_e.grew hb
    replace hB := below_app hB hb hB.size
    clear hb
    replace o_l := o_l.rd
    have hn5 : paN t_c ≤ 5 := by unfold paN; split <;> omega
    have HN9 : Hid (t_c.kd = 9 → paN t_c = t_c.ln) := fun h => by unfold paN; rw [if_pos h]
    have HN0 : Hid (¬ t_c.kd = 9 → paN t_c = 0) := fun h => by unfold paN; rw [if_neg h]
    have HP : Hid (okAc t_c = true → ∀ i, i < paN t_c → okE (paF t_c q i) = true) := fun h => parts_ok h
    have SP : Hid (∀ u : World, t_c.ok u → Calls Tryd.prog 14 #[(.agg #[.int .i64 t_c.kd, .int .i64 t_c.nn, .int .i64 t_c.pi, .int .i64 t_c.si, .int .i64 t_c.zo, .bool t_c.be, .slice t_c.la t_c.ln t_c.lcap]), (.agg #[.int .i64 q.kd, .int .i64 q.sr, .int .i64 q.pi, .int .i64 q.si, .int .i64 q.nn, .int .i64 q.zo, .bool q.be])] u fun r w' => ∃ q5 cap, r = .returned (.slice (some ⟨q5, 0, none⟩) (paN t_c) cap) ∧ Below u.heap.size u w' ∧ OwnE evC 7 w' u.heap.size q5 (some ⟨q5, 0, none⟩) (paN t_c) (paF t_c q)) := fun u h => specParts_any t_c q u h (by omega)
    generalize paN t_c = n at hn5 HN9 HN0 HP SP o_l ⊢
    generalize paF t_c q = F at HP SP o_l
    generalize hkf : fiA t_b kk = kf
    have FI : Hid (∀ u : World, Calls Tryd.prog 11 #[(.agg #[.int .i64 t_b.kd, .int .i64 t_b.nn, .int .i64 t_b.pi, .int .i64 t_b.si, .int .i64 t_b.zo, .bool t_b.be, .slice t_b.la t_b.ln t_b.lcap]), .int .i64 kk] u fun e w' => e = .returned (.bool kf) ∧ Below u.heap.size u w') := fun u => by rw [← hkf]; exact implActFits_any t_b kk u
    have FS : Hid (∀ u : World, Calls Tryd.prog 12 #[(.agg #[.int .i64 t_b.kd, .int .i64 t_b.nn, .int .i64 t_b.pi, .int .i64 t_b.si, .int .i64 t_b.zo, .bool t_b.be, .slice t_b.la t_b.ln t_b.lcap]), .int .i64 kk] u fun e w' => e = .returned (.bool kf) ∧ Below u.heap.size u w') := fun u => by rw [← hkf]; exact specActFits_any t_b kk u
    clear hkf
    have SK : Hid (∀ u : World, Below u4.heap.size u4 u → u.cell? ⟨u1.heap.size, 0, none⟩ = some (.int .i64 t_a.kd) ∧ u.cell? ⟨u1.heap.size, 1, none⟩ = some (.int .i64 t_a.nn) ∧ u.cell? ⟨u1.heap.size, 2, none⟩ = some (.int .i64 t_a.pi) ∧ u.cell? ⟨u1.heap.size, 3, none⟩ = some (.int .i64 t_a.si) ∧ u.cell? ⟨u1.heap.size, 4, none⟩ = some (.int .i64 t_a.zo) ∧ u.cell? ⟨u1.heap.size, 5, none⟩ = some (.bool t_a.be) ∧ u.cell? ⟨u1.heap.size, 6, none⟩ = some (.slice t_a.la t_a.ln t_a.lcap) ∧ u.cell? ⟨u2.heap.size, 0, none⟩ = some (.int .i64 t_b.kd) ∧ u.cell? ⟨u2.heap.size, 1, none⟩ = some (.int .i64 t_b.nn) ∧ u.cell? ⟨u2.heap.size, 2, none⟩ = some (.int .i64 t_b.pi) ∧ u.cell? ⟨u2.heap.size, 3, none⟩ = some (.int .i64 t_b.si) ∧ u.cell? ⟨u2.heap.size, 4, none⟩ = some (.int .i64 t_b.zo) ∧ u.cell? ⟨u2.heap.size, 5, none⟩ = some (.bool t_b.be) ∧ u.cell? ⟨u2.heap.size, 6, none⟩ = some (.slice t_b.la t_b.ln t_b.lcap) ∧ u.cell? ⟨u3.heap.size, 0, none⟩ = some (.int .i64 t_c.kd) ∧ u.cell? ⟨u3.heap.size, 1, none⟩ = some (.int .i64 t_c.nn) ∧ u.cell? ⟨u3.heap.size, 2, none⟩ = some (.int .i64 t_c.pi) ∧ u.cell? ⟨u3.heap.size, 3, none⟩ = some (.int .i64 t_c.si) ∧ u.cell? ⟨u3.heap.size, 4, none⟩ = some (.int .i64 t_c.zo) ∧ u.cell? ⟨u3.heap.size, 5, none⟩ = some (.bool t_c.be) ∧ u.cell? ⟨u3.heap.size, 6, none⟩ = some (.slice t_c.la t_c.ln t_c.lcap) ∧ u.cell? ⟨u3.heap.size + 1, 0, none⟩ = some (.int .i64 q.kd) ∧ u.cell? ⟨u3.heap.size + 1, 1, none⟩ = some (.int .i64 q.sr) ∧ u.cell? ⟨u3.heap.size + 1, 2, none⟩ = some (.int .i64 q.pi) ∧ u.cell? ⟨u3.heap.size + 1, 3, none⟩ = some (.int .i64 q.si) ∧ u.cell? ⟨u3.heap.size + 1, 4, none⟩ = some (.int .i64 q.nn) ∧ u.cell? ⟨u3.heap.size + 1, 5, none⟩ = some (.int .i64 q.zo) ∧ u.cell? ⟨u3.heap.size + 1, 6, none⟩ = some (.bool q.be)) := fun u hu => ⟨(b_a.grew hu).cell 0, (b_a.grew hu).cell 1, (b_a.grew hu).cell 2, (b_a.grew hu).cell 3, (b_a.grew hu).cell 4, (b_a.grew hu).cell 5, (b_a.grew hu).cell 6, (b_b.grew hu).cell 0, (b_b.grew hu).cell 1, (b_b.grew hu).cell 2, (b_b.grew hu).cell 3, (b_b.grew hu).cell 4, (b_b.grew hu).cell 5, (b_b.grew hu).cell 6, (b_c.grew hu).cell 0, (b_c.grew hu).cell 1, (b_c.grew hu).cell 2, (b_c.grew hu).cell 3, (b_c.grew hu).cell 4, (b_c.grew hu).cell 5, (b_c.grew hu).cell 6, (b_e.grew hu).cell 0, (b_e.grew hu).cell 1, (b_e.grew hu).cell 2, (b_e.grew hu).cell 3, (b_e.grew hu).cell 4, (b_e.grew hu).cell 5, (b_e.grew hu).cell 6⟩
    have hq0 : Below u4.heap.size u4 u4.drew := (Below.refl _ u4).drew
    have oS : Hid (∀ u : World, Below u4.heap.size u4 u → t_a.ok u ∧ t_c.ok u ∧ RdE evC 7 u q_l (some ⟨q_l, 0, none⟩) n F ∧ Pow u) := fun u hu => ⟨act_grew h_a hu, act_grew h_c hu, o_l.grew evC_ne hu, HT.out u (below_app hB hu hB.size)⟩
    cases hka : okAc t_a with
    | false =>
      have OI : Hid (∀ u : World, t_a.ok u → Calls Tryd.prog 9 #[(.agg #[.int .i64 t_a.kd, .int .i64 t_a.nn, .int .i64 t_a.pi, .int .i64 t_a.si, .int .i64 t_a.zo, .bool t_a.be, .slice t_a.la t_a.ln t_a.lcap])] u fun e w' => e = .returned (.bool false) ∧ Below u.heap.size u w') := fun u h => by rw [← hka]; exact implActOk_any t_a u h (by omega)
      have OS_ : Hid (∀ u : World, t_a.ok u → Calls Tryd.prog 10 #[(.agg #[.int .i64 t_a.kd, .int .i64 t_a.nn, .int .i64 t_a.pi, .int .i64 t_a.si, .int .i64 t_a.zo, .bool t_a.be, .slice t_a.la t_a.ln t_a.lcap])] u fun e w' => e = .returned (.bool false) ∧ Below u.heap.size u w') := fun u h => by rw [← hka]; exact specActOk_any t_a u h (by omega)
      have hx0 : txA t_a = ⟨#[]⟩ := by unfold txA; rw [hka]; rfl
      have TI_ : Hid (∀ u : World, t_a.ok u → Pow u → Calls Tryd.prog 15 #[(.agg #[.int .i64 t_a.kd, .int .i64 t_a.nn, .int .i64 t_a.pi, .int .i64 t_a.si, .int .i64 t_a.zo, .bool t_a.be, .slice t_a.la t_a.ln t_a.lcap])] u fun e w' => e = .returned (.string (⟨#[]⟩)) ∧ Below u.heap.size u w') := fun u h h' => by have := implActText_any t_a u h (by omega) h'; rw [hx0] at this; exact this
      have TS_ : Hid (∀ u : World, t_a.ok u → Calls Tryd.prog 16 #[(.agg #[.int .i64 t_a.kd, .int .i64 t_a.nn, .int .i64 t_a.pi, .int .i64 t_a.si, .int .i64 t_a.zo, .bool t_a.be, .slice t_a.la t_a.ln t_a.lcap])] u fun e w' => e = .returned (.string (⟨#[]⟩)) ∧ Below u.heap.size u w') := fun u h => by have := specActText_any t_a u h (by omega); rw [hx0] at this; exact this
      clear hka hx0
      go_wp2_with fail
      go_region_held_law (fun u : World => u.cell? ⟨u1.heap.size, 0, none⟩ = some (.int .i64 t_a.kd) ∧ u.cell? ⟨u1.heap.size, 1, none⟩ = some (.int .i64 t_a.nn) ∧ u.cell? ⟨u1.heap.size, 2, none⟩ = some (.int .i64 t_a.pi) ∧ u.cell? ⟨u1.heap.size, 3, none⟩ = some (.int .i64 t_a.si) ∧ u.cell? ⟨u1.heap.size, 4, none⟩ = some (.int .i64 t_a.zo) ∧ u.cell? ⟨u1.heap.size, 5, none⟩ = some (.bool t_a.be) ∧ u.cell? ⟨u1.heap.size, 6, none⟩ = some (.slice t_a.la t_a.ln t_a.lcap) ∧ u.cell? ⟨u2.heap.size, 0, none⟩ = some (.int .i64 t_b.kd) ∧ u.cell? ⟨u2.heap.size, 1, none⟩ = some (.int .i64 t_b.nn) ∧ u.cell? ⟨u2.heap.size, 2, none⟩ = some (.int .i64 t_b.pi) ∧ u.cell? ⟨u2.heap.size, 3, none⟩ = some (.int .i64 t_b.si) ∧ u.cell? ⟨u2.heap.size, 4, none⟩ = some (.int .i64 t_b.zo) ∧ u.cell? ⟨u2.heap.size, 5, none⟩ = some (.bool t_b.be) ∧ u.cell? ⟨u2.heap.size, 6, none⟩ = some (.slice t_b.la t_b.ln t_b.lcap) ∧ u.cell? ⟨u3.heap.size, 0, none⟩ = some (.int .i64 t_c.kd) ∧ u.cell? ⟨u3.heap.size, 1, none⟩ = some (.int .i64 t_c.nn) ∧ u.cell? ⟨u3.heap.size, 2, none⟩ = some (.int .i64 t_c.pi) ∧ u.cell? ⟨u3.heap.size, 3, none⟩ = some (.int .i64 t_c.si) ∧ u.cell? ⟨u3.heap.size, 4, none⟩ = some (.int .i64 t_c.zo) ∧ u.cell? ⟨u3.heap.size, 5, none⟩ = some (.bool t_c.be) ∧ u.cell? ⟨u3.heap.size, 6, none⟩ = some (.slice t_c.la t_c.ln t_c.lcap) ∧ u.cell? ⟨u3.heap.size + 1, 0, none⟩ = some (.int .i64 q.kd) ∧ u.cell? ⟨u3.heap.size + 1, 1, none⟩ = some (.int .i64 q.sr) ∧ u.cell? ⟨u3.heap.size + 1, 2, none⟩ = some (.int .i64 q.pi) ∧ u.cell? ⟨u3.heap.size + 1, 3, none⟩ = some (.int .i64 q.si) ∧ u.cell? ⟨u3.heap.size + 1, 4, none⟩ = some (.int .i64 q.nn) ∧ u.cell? ⟨u3.heap.size + 1, 5, none⟩ = some (.int .i64 q.zo) ∧ u.cell? ⟨u3.heap.size + 1, 6, none⟩ = some (.bool q.be)) (first | assumption | exact SK.out _ hq10 | exact SK.out _ hq9 | exact SK.out _ hq8 | exact SK.out _ hq7 | exact SK.out _ hq6 | exact SK.out _ hq5 | exact SK.out _ hq4 | exact SK.out _ hq3 | exact SK.out _ hq2 | exact SK.out _ hq1 | exact SK.out _ hq0) (first | (go_at_call 9; refine (OI.out _ (oS.out _ hq9).1).mono ?_; rintro e v10 ⟨rfl, hb10⟩; have hq10 := below_app hq9 hb10 hq9.size) | (go_at_call 15; refine (TI_.out _ (oS.out _ hq8).1 (oS.out _ hq8).2.2.2).mono ?_; rintro e v9 ⟨rfl, hb9⟩; have hq9 := below_app hq8 hb9 hq8.size) | (go_at_call 9; refine (OI.out _ (oS.out _ hq0).1).mono ?_; rintro e v1 ⟨rfl, hb1⟩; have hq1 := below_app hq0 hb1 hq0.size) | (go_at_call 10; refine (OS_.out _ (oS.out _ hq1).1).mono ?_; rintro e v2 ⟨rfl, hb2⟩; have hq2 := below_app hq1 hb2 hq1.size) | (go_at_call 11; refine (FI.out _).mono ?_; rintro e v3 ⟨rfl, hb3⟩; have hq3 := below_app hq2 hb3 hq2.size) | (go_at_call 12; refine (FS.out _).mono ?_; rintro e v4 ⟨rfl, hb4⟩; have hq4 := below_app hq3 hb4 hq3.size) | (go_at_call 14; refine (SP.out _ (oS.out _ hq4).2.1).mono ?_; rintro e v5 ⟨q5, c5, rfl, hb5, o5⟩; have hq5 := below_app hq4 hb5 hq4.size) | (go_at_call 13; refine (sameEvents_same _ _ q_l q5 n _ _ F _ (by omega) (oS.out _ hq5).2.2.1 o5.rd).mono ?_; rintro e v6 ⟨rfl, hb6⟩; have hq6 := below_app hq5 hb6 hq5.size) | (go_at_call 15; refine (TI_.out _ (oS.out _ hq6).1 (oS.out _ hq6).2.2.2).mono ?_; rintro e v7 ⟨rfl, hb7⟩; have hq7 := below_app hq6 hb7 hq6.size) | (go_at_call 16; refine (TS_.out _ (oS.out _ hq7).1).mono ?_; rintro e v8 ⟨rfl, hb8⟩; have hq8 := below_app hq7 hb8 hq7.size))
      all_goals
        have hb := hq10
        clear b_a b_b h_a h_b
        replace h_c := act_grew h_c hb
        replace b_c := b_c.grew hb
        replace b_e := b_e.grew hb
        replace o_l := o_l.grew evC_ne hb
        replace hB := below_app hB hb hB.size
        clear hb
        clear SK oS hq0 hb1 hq1 hb2 hq2 hb3 hq3 hb4 hq4 hb5 hq5 hb6 hq6 hb7 hq7 hb8 hq8 hb9 hq9 hb10 o5 OI OS_ FI FS SP TI_ TS_
        clear l_a l_b
        have HTv : True := trivial
        clear HTv
        cases hkc : okAc t_c with
        | false =>
          have CI : Hid (∀ u : World, t_c.ok u → Calls Tryd.prog 9 #[(.agg #[.int .i64 t_c.kd, .int .i64 t_c.nn, .int .i64 t_c.pi, .int .i64 t_c.si, .int .i64 t_c.zo, .bool t_c.be, .slice t_c.la t_c.ln t_c.lcap])] u fun e w' => e = .returned (.bool false) ∧ Below u.heap.size u w') := fun u h => by rw [← hkc]; exact implActOk_any t_c u h (by omega)
          clear hkc HP
          have hsz := hB.size
          go_wp2
          go_loopw [9] (fun i wr => ∃ k : Nat, k ≤ n ∧ i = .int .i64 k ∧ Below v10.heap.size v10 wr) (fun i _ => n - (intOf i).toNat)
          case atStart => exact ⟨0, Nat.zero_le _, rfl, Below.refl _ _⟩
          case round =>
            obtain ⟨k, hk, rfl, hb⟩ := hrel
            replace b_c := b_c.grew hb
            replace b_e := b_e.grew hb
            replace h_c := act_grew h_c hb
            replace o_l := o_l.grew evC_ne hb
            have c_c_0 : wr.cell? ⟨u3.heap.size, 0, none⟩ = some (.int .i64 t_c.kd) := b_c.cell 0
            have c_c_1 : wr.cell? ⟨u3.heap.size, 1, none⟩ = some (.int .i64 t_c.nn) := b_c.cell 1
            have c_c_2 : wr.cell? ⟨u3.heap.size, 2, none⟩ = some (.int .i64 t_c.pi) := b_c.cell 2
            have c_c_3 : wr.cell? ⟨u3.heap.size, 3, none⟩ = some (.int .i64 t_c.si) := b_c.cell 3
            have c_c_4 : wr.cell? ⟨u3.heap.size, 4, none⟩ = some (.int .i64 t_c.zo) := b_c.cell 4
            have c_c_5 : wr.cell? ⟨u3.heap.size, 5, none⟩ = some (.bool t_c.be) := b_c.cell 5
            have c_c_6 : wr.cell? ⟨u3.heap.size, 6, none⟩ = some (.slice t_c.la t_c.ln t_c.lcap) := b_c.cell 6
            by_cases hlt : k < n
            · have y1 : (0 : Int) ≤ (k : Int) := by omega
              have y2 : (k : Int) < (n : Int) := by omega
              go_wp2_with fail
              refine (CI.out _ h_c).mono ?_
              rintro e w1 ⟨rfl, hb1⟩
              have hb2 := below_app hb hb1 hb.size
              clear c_c_0 c_c_1 c_c_2 c_c_3 c_c_4 c_c_5 c_c_6
              go_wp2
              go_roundw
              case rel => first | exact ⟨k + 1, by omega, by go_num, hb2⟩ | ((repeat apply Exists.intro); exact ⟨⟨k + 1, by omega, by go_num, hb2⟩, rfl⟩)
              case measure => simp [intOf]; omega
            · obtain rfl : k = n := by omega
              have hB2 := below_app hB hb hsz
              have hl2 : t_c.ln ≤ 5 := l_c
              cases q9 : (t_c.kd == 9)
              case true =>
                have z1 : ((k : Int) == (t_c.ln : Int)) = true := by have := HN9.out (by simpa using q9); rw [this]; simp
                go_wp2
                all_goals go_ret
                all_goals exact ⟨rfl, hB2⟩
              case false =>
                have q8 : (t_c.kd != 9) = true := by rw [bne, q9]; rfl
                have z0 : ((k : Int) == 0) = true := by have := HN0.out (by simpa using q9); rw [this]; rfl
                go_wp2
                all_goals go_ret
                all_goals exact ⟨rfl, hB2⟩
        | true =>
          have CI : Hid (∀ u : World, t_c.ok u → Calls Tryd.prog 9 #[(.agg #[.int .i64 t_c.kd, .int .i64 t_c.nn, .int .i64 t_c.pi, .int .i64 t_c.si, .int .i64 t_c.zo, .bool t_c.be, .slice t_c.la t_c.ln t_c.lcap])] u fun e w' => e = .returned (.bool true) ∧ Below u.heap.size u w') := fun u h => by rw [← hkc]; exact implActOk_any t_c u h (by omega)
          replace HP : Hid (∀ i, i < n → okE (F i) = true) := HP.out hkc
          clear hkc
          cases hke : okE q with
          | false =>
            have EI : Hid (∀ u : World, Calls Tryd.prog 17 #[(.agg #[.int .i64 q.kd, .int .i64 q.sr, .int .i64 q.pi, .int .i64 q.si, .int .i64 q.nn, .int .i64 q.zo, .bool q.be])] u fun e w' => e = .returned (.bool false) ∧ Below u.heap.size u w') := fun u => by rw [← hke]; exact implEventOk_any q u
            clear hke
            have hsz := hB.size
            go_wp2
            go_loopw [9] (fun i wr => ∃ k : Nat, k ≤ n ∧ i = .int .i64 k ∧ Below v10.heap.size v10 wr) (fun i _ => n - (intOf i).toNat)
            case atStart => exact ⟨0, Nat.zero_le _, rfl, Below.refl _ _⟩
            case round =>
              obtain ⟨k, hk, rfl, hb⟩ := hrel
              replace b_c := b_c.grew hb
              replace b_e := b_e.grew hb
              replace h_c := act_grew h_c hb
              replace o_l := o_l.grew evC_ne hb
              have c_c_0 : wr.cell? ⟨u3.heap.size, 0, none⟩ = some (.int .i64 t_c.kd) := b_c.cell 0
              have c_c_1 : wr.cell? ⟨u3.heap.size, 1, none⟩ = some (.int .i64 t_c.nn) := b_c.cell 1
              have c_c_2 : wr.cell? ⟨u3.heap.size, 2, none⟩ = some (.int .i64 t_c.pi) := b_c.cell 2
              have c_c_3 : wr.cell? ⟨u3.heap.size, 3, none⟩ = some (.int .i64 t_c.si) := b_c.cell 3
              have c_c_4 : wr.cell? ⟨u3.heap.size, 4, none⟩ = some (.int .i64 t_c.zo) := b_c.cell 4
              have c_c_5 : wr.cell? ⟨u3.heap.size, 5, none⟩ = some (.bool t_c.be) := b_c.cell 5
              have c_c_6 : wr.cell? ⟨u3.heap.size, 6, none⟩ = some (.slice t_c.la t_c.ln t_c.lcap) := b_c.cell 6
              by_cases hlt : k < n
              · have y1 : (0 : Int) ≤ (k : Int) := by omega
                have y2 : (k : Int) < (n : Int) := by omega
                go_wp2_with fail
                refine (CI.out _ h_c).mono ?_
                rintro e w1 ⟨rfl, hb1⟩
                have hb2 := below_app hb hb1 hb.size
                clear c_c_0 c_c_1 c_c_2 c_c_3 c_c_4 c_c_5 c_c_6
                replace b_e := b_e.grew hb1
                have c_e_0 : w1.cell? ⟨u3.heap.size + 1, 0, none⟩ = some (.int .i64 q.kd) := b_e.cell 0
                have c_e_1 : w1.cell? ⟨u3.heap.size + 1, 1, none⟩ = some (.int .i64 q.sr) := b_e.cell 1
                have c_e_2 : w1.cell? ⟨u3.heap.size + 1, 2, none⟩ = some (.int .i64 q.pi) := b_e.cell 2
                have c_e_3 : w1.cell? ⟨u3.heap.size + 1, 3, none⟩ = some (.int .i64 q.si) := b_e.cell 3
                have c_e_4 : w1.cell? ⟨u3.heap.size + 1, 4, none⟩ = some (.int .i64 q.nn) := b_e.cell 4
                have c_e_5 : w1.cell? ⟨u3.heap.size + 1, 5, none⟩ = some (.int .i64 q.zo) := b_e.cell 5
                have c_e_6 : w1.cell? ⟨u3.heap.size + 1, 6, none⟩ = some (.bool q.be) := b_e.cell 6
                go_wp2_with fail
                refine (EI.out _).mono ?_
                rintro e w2 ⟨rfl, hb3⟩
                have hb4 := below_app hb2 hb3 hb2.size
                clear c_e_0 c_e_1 c_e_2 c_e_3 c_e_4 c_e_5 c_e_6
                go_wp2
                go_roundw
                case rel => first | exact ⟨k + 1, by omega, by go_num, hb4⟩ | ((repeat apply Exists.intro); exact ⟨⟨k + 1, by omega, by go_num, hb4⟩, rfl⟩)
                case measure => simp [intOf]; omega
              · obtain rfl : k = n := by omega
                have hB2 := below_app hB hb hsz
                have hl2 : t_c.ln ≤ 5 := l_c
                cases q9 : (t_c.kd == 9)
                case true =>
                  have z1 : ((k : Int) == (t_c.ln : Int)) = true := by have := HN9.out (by simpa using q9); rw [this]; simp
                  go_wp2
                  all_goals go_ret
                  all_goals exact ⟨rfl, hB2⟩
                case false =>
                  have q8 : (t_c.kd != 9) = true := by rw [bne, q9]; rfl
                  have z0 : ((k : Int) == 0) = true := by have := HN0.out (by simpa using q9); rw [this]; rfl
                  go_wp2
                  all_goals go_ret
                  all_goals exact ⟨rfl, hB2⟩
          | true =>
            have EI : Hid (∀ u : World, Calls Tryd.prog 17 #[(.agg #[.int .i64 q.kd, .int .i64 q.sr, .int .i64 q.pi, .int .i64 q.si, .int .i64 q.nn, .int .i64 q.zo, .bool q.be])] u fun e w' => e = .returned (.bool true) ∧ Below u.heap.size u w') := fun u => by rw [← hke]; exact implEventOk_any q u
            clear hke
            have hsz := hB.size
            go_wp2
            go_loopw [9] (fun i wr => ∃ k : Nat, k ≤ n ∧ i = .int .i64 k ∧ Below v10.heap.size v10 wr) (fun i _ => n - (intOf i).toNat)
            case atStart => exact ⟨0, Nat.zero_le _, rfl, Below.refl _ _⟩
            case round =>
              obtain ⟨k, hk, rfl, hb⟩ := hrel
              replace b_c := b_c.grew hb
              replace b_e := b_e.grew hb
              replace h_c := act_grew h_c hb
              replace o_l := o_l.grew evC_ne hb
              have c_c_0 : wr.cell? ⟨u3.heap.size, 0, none⟩ = some (.int .i64 t_c.kd) := b_c.cell 0
              have c_c_1 : wr.cell? ⟨u3.heap.size, 1, none⟩ = some (.int .i64 t_c.nn) := b_c.cell 1
              have c_c_2 : wr.cell? ⟨u3.heap.size, 2, none⟩ = some (.int .i64 t_c.pi) := b_c.cell 2
              have c_c_3 : wr.cell? ⟨u3.heap.size, 3, none⟩ = some (.int .i64 t_c.si) := b_c.cell 3
              have c_c_4 : wr.cell? ⟨u3.heap.size, 4, none⟩ = some (.int .i64 t_c.zo) := b_c.cell 4
              have c_c_5 : wr.cell? ⟨u3.heap.size, 5, none⟩ = some (.bool t_c.be) := b_c.cell 5
              have c_c_6 : wr.cell? ⟨u3.heap.size, 6, none⟩ = some (.slice t_c.la t_c.ln t_c.lcap) := b_c.cell 6
              by_cases hlt : k < n
              · have y1 : (0 : Int) ≤ (k : Int) := by omega
                have y2 : (k : Int) < (n : Int) := by omega
                go_wp2_with fail
                refine (CI.out _ h_c).mono ?_
                rintro e w1 ⟨rfl, hb1⟩
                have hb2 := below_app hb hb1 hb.size
                clear c_c_0 c_c_1 c_c_2 c_c_3 c_c_4 c_c_5 c_c_6
                replace b_e := b_e.grew hb1
                have c_e_0 : w1.cell? ⟨u3.heap.size + 1, 0, none⟩ = some (.int .i64 q.kd) := b_e.cell 0
                have c_e_1 : w1.cell? ⟨u3.heap.size + 1, 1, none⟩ = some (.int .i64 q.sr) := b_e.cell 1
                have c_e_2 : w1.cell? ⟨u3.heap.size + 1, 2, none⟩ = some (.int .i64 q.pi) := b_e.cell 2
                have c_e_3 : w1.cell? ⟨u3.heap.size + 1, 3, none⟩ = some (.int .i64 q.si) := b_e.cell 3
                have c_e_4 : w1.cell? ⟨u3.heap.size + 1, 4, none⟩ = some (.int .i64 q.nn) := b_e.cell 4
                have c_e_5 : w1.cell? ⟨u3.heap.size + 1, 5, none⟩ = some (.int .i64 q.zo) := b_e.cell 5
                have c_e_6 : w1.cell? ⟨u3.heap.size + 1, 6, none⟩ = some (.bool q.be) := b_e.cell 6
                go_wp2_with fail
                refine (EI.out _).mono ?_
                rintro e w2 ⟨rfl, hb3⟩
                have hb4 := below_app hb2 hb3 hb2.size
                clear c_e_0 c_e_1 c_e_2 c_e_3 c_e_4 c_e_5 c_e_6
                replace o_l := (o_l.grew evC_ne hb1).grew evC_ne hb3
                rcases o_l with g1 | ⟨o1, hpa, g1⟩
                · omega
                obtain rfl : (0 : Nat) = o1 := by simpa using hpa
                obtain ⟨k0, k1, k2, k3, k4, k5, k6⟩ : AtEv w2 q_l (k * 7) (F k) := Nat.zero_add (k * 7) ▸ AtEv_of (g1 k hlt)
                have HE : Hid (okE (F k) = true) := HP.out k hlt
                generalize F k = x at k0 k1 k2 k3 k4 k5 k6 HE
                clear g1 hpa
                have LI : Hid (∀ u : World, Calls Tryd.prog 17 #[(.agg #[.int .i64 x.kd, .int .i64 x.sr, .int .i64 x.pi, .int .i64 x.si, .int .i64 x.nn, .int .i64 x.zo, .bool x.be])] u fun e w' => e = .returned (.bool true) ∧ Below u.heap.size u w') := fun u => by have := implEventOk_any x u; rw [HE.out] at this; exact this
                go_wp2_with fail
                refine (LI.out _).mono ?_
                rintro e w3 ⟨rfl, hb5⟩
                have hb6 := below_app hb4 hb5 hb4.size
                clear k0 k1 k2 k3 k4 k5 k6
                go_wp2
                go_roundw
                case rel => first | exact ⟨k + 1, by omega, by go_num, hb6⟩ | ((repeat apply Exists.intro); exact ⟨⟨k + 1, by omega, by go_num, hb6⟩, rfl⟩)
                case measure => simp [intOf]; omega
              · obtain rfl : k = n := by omega
                have hB2 := below_app hB hb hsz
                have hl2 : t_c.ln ≤ 5 := l_c
                cases q9 : (t_c.kd == 9)
                case true =>
                  have z1 : ((k : Int) == (t_c.ln : Int)) = true := by have := HN9.out (by simpa using q9); rw [this]; simp
                  go_wp2
                  all_goals go_ret
                  all_goals exact ⟨rfl, hB2⟩
                case false =>
                  have q8 : (t_c.kd != 9) = true := by rw [bne, q9]; rfl
                  have z0 : ((k : Int) == 0) = true := by have := HN0.out (by simpa using q9); rw [this]; rfl
                  go_wp2
                  all_goals go_ret
                  all_goals exact ⟨rfl, hB2⟩
    | true =>
      have OI : Hid (∀ u : World, t_a.ok u → Calls Tryd.prog 9 #[(.agg #[.int .i64 t_a.kd, .int .i64 t_a.nn, .int .i64 t_a.pi, .int .i64 t_a.si, .int .i64 t_a.zo, .bool t_a.be, .slice t_a.la t_a.ln t_a.lcap])] u fun e w' => e = .returned (.bool true) ∧ Below u.heap.size u w') := fun u h => by rw [← hka]; exact implActOk_any t_a u h (by omega)
      have OS_ : Hid (∀ u : World, t_a.ok u → Calls Tryd.prog 10 #[(.agg #[.int .i64 t_a.kd, .int .i64 t_a.nn, .int .i64 t_a.pi, .int .i64 t_a.si, .int .i64 t_a.zo, .bool t_a.be, .slice t_a.la t_a.ln t_a.lcap])] u fun e w' => e = .returned (.bool true) ∧ Below u.heap.size u w') := fun u h => by rw [← hka]; exact specActOk_any t_a u h (by omega)
      have hX := txA_ne hka
      have TI_ : Hid (∀ u : World, t_a.ok u → Pow u → Calls Tryd.prog 15 #[(.agg #[.int .i64 t_a.kd, .int .i64 t_a.nn, .int .i64 t_a.pi, .int .i64 t_a.si, .int .i64 t_a.zo, .bool t_a.be, .slice t_a.la t_a.ln t_a.lcap])] u fun e w' => e = .returned (.string (txA t_a)) ∧ Below u.heap.size u w') := fun u h h' => implActText_any t_a u h (by omega) h'
      have TS_ : Hid (∀ u : World, t_a.ok u → Calls Tryd.prog 16 #[(.agg #[.int .i64 t_a.kd, .int .i64 t_a.nn, .int .i64 t_a.pi, .int .i64 t_a.si, .int .i64 t_a.zo, .bool t_a.be, .slice t_a.la t_a.ln t_a.lcap])] u fun e w' => e = .returned (.string (txA t_a)) ∧ Below u.heap.size u w') := fun u h => specActText_any t_a u h (by omega)
      clear hka
      generalize txA t_a = X at hX TI_ TS_
      go_wp2_with fail
      go_region_held_law (fun u : World => u.cell? ⟨u1.heap.size, 0, none⟩ = some (.int .i64 t_a.kd) ∧ u.cell? ⟨u1.heap.size, 1, none⟩ = some (.int .i64 t_a.nn) ∧ u.cell? ⟨u1.heap.size, 2, none⟩ = some (.int .i64 t_a.pi) ∧ u.cell? ⟨u1.heap.size, 3, none⟩ = some (.int .i64 t_a.si) ∧ u.cell? ⟨u1.heap.size, 4, none⟩ = some (.int .i64 t_a.zo) ∧ u.cell? ⟨u1.heap.size, 5, none⟩ = some (.bool t_a.be) ∧ u.cell? ⟨u1.heap.size, 6, none⟩ = some (.slice t_a.la t_a.ln t_a.lcap) ∧ u.cell? ⟨u2.heap.size, 0, none⟩ = some (.int .i64 t_b.kd) ∧ u.cell? ⟨u2.heap.size, 1, none⟩ = some (.int .i64 t_b.nn) ∧ u.cell? ⟨u2.heap.size, 2, none⟩ = some (.int .i64 t_b.pi) ∧ u.cell? ⟨u2.heap.size, 3, none⟩ = some (.int .i64 t_b.si) ∧ u.cell? ⟨u2.heap.size, 4, none⟩ = some (.int .i64 t_b.zo) ∧ u.cell? ⟨u2.heap.size, 5, none⟩ = some (.bool t_b.be) ∧ u.cell? ⟨u2.heap.size, 6, none⟩ = some (.slice t_b.la t_b.ln t_b.lcap) ∧ u.cell? ⟨u3.heap.size, 0, none⟩ = some (.int .i64 t_c.kd) ∧ u.cell? ⟨u3.heap.size, 1, none⟩ = some (.int .i64 t_c.nn) ∧ u.cell? ⟨u3.heap.size, 2, none⟩ = some (.int .i64 t_c.pi) ∧ u.cell? ⟨u3.heap.size, 3, none⟩ = some (.int .i64 t_c.si) ∧ u.cell? ⟨u3.heap.size, 4, none⟩ = some (.int .i64 t_c.zo) ∧ u.cell? ⟨u3.heap.size, 5, none⟩ = some (.bool t_c.be) ∧ u.cell? ⟨u3.heap.size, 6, none⟩ = some (.slice t_c.la t_c.ln t_c.lcap) ∧ u.cell? ⟨u3.heap.size + 1, 0, none⟩ = some (.int .i64 q.kd) ∧ u.cell? ⟨u3.heap.size + 1, 1, none⟩ = some (.int .i64 q.sr) ∧ u.cell? ⟨u3.heap.size + 1, 2, none⟩ = some (.int .i64 q.pi) ∧ u.cell? ⟨u3.heap.size + 1, 3, none⟩ = some (.int .i64 q.si) ∧ u.cell? ⟨u3.heap.size + 1, 4, none⟩ = some (.int .i64 q.nn) ∧ u.cell? ⟨u3.heap.size + 1, 5, none⟩ = some (.int .i64 q.zo) ∧ u.cell? ⟨u3.heap.size + 1, 6, none⟩ = some (.bool q.be)) (first | assumption | exact SK.out _ hq10 | exact SK.out _ hq9 | exact SK.out _ hq8 | exact SK.out _ hq7 | exact SK.out _ hq6 | exact SK.out _ hq5 | exact SK.out _ hq4 | exact SK.out _ hq3 | exact SK.out _ hq2 | exact SK.out _ hq1 | exact SK.out _ hq0) (first | (go_at_call 9; refine (OI.out _ (oS.out _ hq9).1).mono ?_; rintro e v10 ⟨rfl, hb10⟩; have hq10 := below_app hq9 hb10 hq9.size) | (go_at_call 15; refine (TI_.out _ (oS.out _ hq8).1 (oS.out _ hq8).2.2.2).mono ?_; rintro e v9 ⟨rfl, hb9⟩; have hq9 := below_app hq8 hb9 hq8.size) | (go_at_call 9; refine (OI.out _ (oS.out _ hq0).1).mono ?_; rintro e v1 ⟨rfl, hb1⟩; have hq1 := below_app hq0 hb1 hq0.size) | (go_at_call 10; refine (OS_.out _ (oS.out _ hq1).1).mono ?_; rintro e v2 ⟨rfl, hb2⟩; have hq2 := below_app hq1 hb2 hq1.size) | (go_at_call 11; refine (FI.out _).mono ?_; rintro e v3 ⟨rfl, hb3⟩; have hq3 := below_app hq2 hb3 hq2.size) | (go_at_call 12; refine (FS.out _).mono ?_; rintro e v4 ⟨rfl, hb4⟩; have hq4 := below_app hq3 hb4 hq3.size) | (go_at_call 14; refine (SP.out _ (oS.out _ hq4).2.1).mono ?_; rintro e v5 ⟨q5, c5, rfl, hb5, o5⟩; have hq5 := below_app hq4 hb5 hq4.size) | (go_at_call 13; refine (sameEvents_same _ _ q_l q5 n _ _ F _ (by omega) (oS.out _ hq5).2.2.1 o5.rd).mono ?_; rintro e v6 ⟨rfl, hb6⟩; have hq6 := below_app hq5 hb6 hq5.size) | (go_at_call 15; refine (TI_.out _ (oS.out _ hq6).1 (oS.out _ hq6).2.2.2).mono ?_; rintro e v7 ⟨rfl, hb7⟩; have hq7 := below_app hq6 hb7 hq6.size) | (go_at_call 16; refine (TS_.out _ (oS.out _ hq7).1).mono ?_; rintro e v8 ⟨rfl, hb8⟩; have hq8 := below_app hq7 hb8 hq7.size))
      all_goals
        have hb := hq10
        clear b_a b_b h_a h_b
        replace h_c := act_grew h_c hb
        replace b_c := b_c.grew hb
        replace b_e := b_e.grew hb
        replace o_l := o_l.grew evC_ne hb
        replace hB := below_app hB hb hB.size
        clear hb
        clear SK oS hq0 hb1 hq1 hb2 hq2 hb3 hq3 hb4 hq4 hb5 hq5 hb6 hq6 hb7 hq7 hb8 hq8 hb9 hq9 hb10 o5 OI OS_ FI FS SP TI_ TS_ hX
        clear l_a l_b
        have HTv : True := trivial
        clear HTv
        cases hkc : okAc t_c with
        | false =>
          have CI : Hid (∀ u : World, t_c.ok u → Calls Tryd.prog 9 #[(.agg #[.int .i64 t_c.kd, .int .i64 t_c.nn, .int .i64 t_c.pi, .int .i64 t_c.si, .int .i64 t_c.zo, .bool t_c.be, .slice t_c.la t_c.ln t_c.lcap])] u fun e w' => e = .returned (.bool false) ∧ Below u.heap.size u w') := fun u h => by rw [← hkc]; exact implActOk_any t_c u h (by omega)
          clear hkc HP
          have hsz := hB.size
          go_wp2
          go_loopw [9] (fun i wr => ∃ k : Nat, k ≤ n ∧ i = .int .i64 k ∧ Below v10.heap.size v10 wr) (fun i _ => n - (intOf i).toNat)
          case atStart => exact ⟨0, Nat.zero_le _, rfl, Below.refl _ _⟩
          case round =>
            obtain ⟨k, hk, rfl, hb⟩ := hrel
            replace b_c := b_c.grew hb
            replace b_e := b_e.grew hb
            replace h_c := act_grew h_c hb
            replace o_l := o_l.grew evC_ne hb
            have c_c_0 : wr.cell? ⟨u3.heap.size, 0, none⟩ = some (.int .i64 t_c.kd) := b_c.cell 0
            have c_c_1 : wr.cell? ⟨u3.heap.size, 1, none⟩ = some (.int .i64 t_c.nn) := b_c.cell 1
            have c_c_2 : wr.cell? ⟨u3.heap.size, 2, none⟩ = some (.int .i64 t_c.pi) := b_c.cell 2
            have c_c_3 : wr.cell? ⟨u3.heap.size, 3, none⟩ = some (.int .i64 t_c.si) := b_c.cell 3
            have c_c_4 : wr.cell? ⟨u3.heap.size, 4, none⟩ = some (.int .i64 t_c.zo) := b_c.cell 4
            have c_c_5 : wr.cell? ⟨u3.heap.size, 5, none⟩ = some (.bool t_c.be) := b_c.cell 5
            have c_c_6 : wr.cell? ⟨u3.heap.size, 6, none⟩ = some (.slice t_c.la t_c.ln t_c.lcap) := b_c.cell 6
            by_cases hlt : k < n
            · have y1 : (0 : Int) ≤ (k : Int) := by omega
              have y2 : (k : Int) < (n : Int) := by omega
              go_wp2_with fail
              refine (CI.out _ h_c).mono ?_
              rintro e w1 ⟨rfl, hb1⟩
              have hb2 := below_app hb hb1 hb.size
              clear c_c_0 c_c_1 c_c_2 c_c_3 c_c_4 c_c_5 c_c_6
              go_wp2
              go_roundw
              case rel => first | exact ⟨k + 1, by omega, by go_num, hb2⟩ | ((repeat apply Exists.intro); exact ⟨⟨k + 1, by omega, by go_num, hb2⟩, rfl⟩)
              case measure => simp [intOf]; omega
            · obtain rfl : k = n := by omega
              have hB2 := below_app hB hb hsz
              have hl2 : t_c.ln ≤ 5 := l_c
              cases q9 : (t_c.kd == 9)
              case true =>
                have z1 : ((k : Int) == (t_c.ln : Int)) = true := by have := HN9.out (by simpa using q9); rw [this]; simp
                go_wp2
                all_goals go_ret
                all_goals exact ⟨rfl, hB2⟩
              case false =>
                have q8 : (t_c.kd != 9) = true := by rw [bne, q9]; rfl
                have z0 : ((k : Int) == 0) = true := by have := HN0.out (by simpa using q9); rw [this]; rfl
                go_wp2
                all_goals go_ret
                all_goals exact ⟨rfl, hB2⟩
        | true =>
          have CI : Hid (∀ u : World, t_c.ok u → Calls Tryd.prog 9 #[(.agg #[.int .i64 t_c.kd, .int .i64 t_c.nn, .int .i64 t_c.pi, .int .i64 t_c.si, .int .i64 t_c.zo, .bool t_c.be, .slice t_c.la t_c.ln t_c.lcap])] u fun e w' => e = .returned (.bool true) ∧ Below u.heap.size u w') := fun u h => by rw [← hkc]; exact implActOk_any t_c u h (by omega)
          replace HP : Hid (∀ i, i < n → okE (F i) = true) := HP.out hkc
          clear hkc
          cases hke : okE q with
          | false =>
            have EI : Hid (∀ u : World, Calls Tryd.prog 17 #[(.agg #[.int .i64 q.kd, .int .i64 q.sr, .int .i64 q.pi, .int .i64 q.si, .int .i64 q.nn, .int .i64 q.zo, .bool q.be])] u fun e w' => e = .returned (.bool false) ∧ Below u.heap.size u w') := fun u => by rw [← hke]; exact implEventOk_any q u
            clear hke
            have hsz := hB.size
            go_wp2
            go_loopw [9] (fun i wr => ∃ k : Nat, k ≤ n ∧ i = .int .i64 k ∧ Below v10.heap.size v10 wr) (fun i _ => n - (intOf i).toNat)
            case atStart => exact ⟨0, Nat.zero_le _, rfl, Below.refl _ _⟩
            case round =>
              obtain ⟨k, hk, rfl, hb⟩ := hrel
              replace b_c := b_c.grew hb
              replace b_e := b_e.grew hb
              replace h_c := act_grew h_c hb
              replace o_l := o_l.grew evC_ne hb
              have c_c_0 : wr.cell? ⟨u3.heap.size, 0, none⟩ = some (.int .i64 t_c.kd) := b_c.cell 0
              have c_c_1 : wr.cell? ⟨u3.heap.size, 1, none⟩ = some (.int .i64 t_c.nn) := b_c.cell 1
              have c_c_2 : wr.cell? ⟨u3.heap.size, 2, none⟩ = some (.int .i64 t_c.pi) := b_c.cell 2
              have c_c_3 : wr.cell? ⟨u3.heap.size, 3, none⟩ = some (.int .i64 t_c.si) := b_c.cell 3
              have c_c_4 : wr.cell? ⟨u3.heap.size, 4, none⟩ = some (.int .i64 t_c.zo) := b_c.cell 4
              have c_c_5 : wr.cell? ⟨u3.heap.size, 5, none⟩ = some (.bool t_c.be) := b_c.cell 5
              have c_c_6 : wr.cell? ⟨u3.heap.size, 6, none⟩ = some (.slice t_c.la t_c.ln t_c.lcap) := b_c.cell 6
              by_cases hlt : k < n
              · have y1 : (0 : Int) ≤ (k : Int) := by omega
                have y2 : (k : Int) < (n : Int) := by omega
                go_wp2_with fail
                refine (CI.out _ h_c).mono ?_
                rintro e w1 ⟨rfl, hb1⟩
                have hb2 := below_app hb hb1 hb.size
                clear c_c_0 c_c_1 c_c_2 c_c_3 c_c_4 c_c_5 c_c_6
                replace b_e := b_e.grew hb1
                have c_e_0 : w1.cell? ⟨u3.heap.size + 1, 0, none⟩ = some (.int .i64 q.kd) := b_e.cell 0
                have c_e_1 : w1.cell? ⟨u3.heap.size + 1, 1, none⟩ = some (.int .i64 q.sr) := b_e.cell 1
                have c_e_2 : w1.cell? ⟨u3.heap.size + 1, 2, none⟩ = some (.int .i64 q.pi) := b_e.cell 2
                have c_e_3 : w1.cell? ⟨u3.heap.size + 1, 3, none⟩ = some (.int .i64 q.si) := b_e.cell 3
                have c_e_4 : w1.cell? ⟨u3.heap.size + 1, 4, none⟩ = some (.int .i64 q.nn) := b_e.cell 4
                have c_e_5 : w1.cell? ⟨u3.heap.size + 1, 5, none⟩ = some (.int .i64 q.zo) := b_e.cell 5
                have c_e_6 : w1.cell? ⟨u3.heap.size + 1, 6, none⟩ = some (.bool q.be) := b_e.cell 6
                go_wp2_with fail
                refine (EI.out _).mono ?_
                rintro e w2 ⟨rfl, hb3⟩
                have hb4 := below_app hb2 hb3 hb2.size
                clear c_e_0 c_e_1 c_e_2 c_e_3 c_e_4 c_e_5 c_e_6
                go_wp2
                go_roundw
                case rel => first | exact ⟨k + 1, by omega, by go_num, hb4⟩ | ((repeat apply Exists.intro); exact ⟨⟨k + 1, by omega, by go_num, hb4⟩, rfl⟩)
                case measure => simp [intOf]; omega
              · obtain rfl : k = n := by omega
                have hB2 := below_app hB hb hsz
                have hl2 : t_c.ln ≤ 5 := l_c
                cases q9 : (t_c.kd == 9)
                case true =>
                  have z1 : ((k : Int) == (t_c.ln : Int)) = true := by have := HN9.out (by simpa using q9); rw [this]; simp
                  go_wp2
                  all_goals go_ret
                  all_goals exact ⟨rfl, hB2⟩
                case false =>
                  have q8 : (t_c.kd != 9) = true := by rw [bne, q9]; rfl
                  have z0 : ((k : Int) == 0) = true := by have := HN0.out (by simpa using q9); rw [this]; rfl
                  go_wp2
                  all_goals go_ret
                  all_goals exact ⟨rfl, hB2⟩
          | true =>
            have EI : Hid (∀ u : World, Calls Tryd.prog 17 #[(.agg #[.int .i64 q.kd, .int .i64 q.sr, .int .i64 q.pi, .int .i64 q.si, .int .i64 q.nn, .int .i64 q.zo, .bool q.be])] u fun e w' => e = .returned (.bool true) ∧ Below u.heap.size u w') := fun u => by rw [← hke]; exact implEventOk_any q u
            clear hke
            have hsz := hB.size
            go_wp2
            go_loopw [9] (fun i wr => ∃ k : Nat, k ≤ n ∧ i = .int .i64 k ∧ Below v10.heap.size v10 wr) (fun i _ => n - (intOf i).toNat)
            case atStart => exact ⟨0, Nat.zero_le _, rfl, Below.refl _ _⟩
            case round =>
              obtain ⟨k, hk, rfl, hb⟩ := hrel
              replace b_c := b_c.grew hb
              replace b_e := b_e.grew hb
              replace h_c := act_grew h_c hb
              replace o_l := o_l.grew evC_ne hb
              have c_c_0 : wr.cell? ⟨u3.heap.size, 0, none⟩ = some (.int .i64 t_c.kd) := b_c.cell 0
              have c_c_1 : wr.cell? ⟨u3.heap.size, 1, none⟩ = some (.int .i64 t_c.nn) := b_c.cell 1
              have c_c_2 : wr.cell? ⟨u3.heap.size, 2, none⟩ = some (.int .i64 t_c.pi) := b_c.cell 2
              have c_c_3 : wr.cell? ⟨u3.heap.size, 3, none⟩ = some (.int .i64 t_c.si) := b_c.cell 3
              have c_c_4 : wr.cell? ⟨u3.heap.size, 4, none⟩ = some (.int .i64 t_c.zo) := b_c.cell 4
              have c_c_5 : wr.cell? ⟨u3.heap.size, 5, none⟩ = some (.bool t_c.be) := b_c.cell 5
              have c_c_6 : wr.cell? ⟨u3.heap.size, 6, none⟩ = some (.slice t_c.la t_c.ln t_c.lcap) := b_c.cell 6
              by_cases hlt : k < n
              · have y1 : (0 : Int) ≤ (k : Int) := by omega
                have y2 : (k : Int) < (n : Int) := by omega
                go_wp2_with fail
                refine (CI.out _ h_c).mono ?_
                rintro e w1 ⟨rfl, hb1⟩
                have hb2 := below_app hb hb1 hb.size
                clear c_c_0 c_c_1 c_c_2 c_c_3 c_c_4 c_c_5 c_c_6
                replace b_e := b_e.grew hb1
                have c_e_0 : w1.cell? ⟨u3.heap.size + 1, 0, none⟩ = some (.int .i64 q.kd) := b_e.cell 0
                have c_e_1 : w1.cell? ⟨u3.heap.size + 1, 1, none⟩ = some (.int .i64 q.sr) := b_e.cell 1
                have c_e_2 : w1.cell? ⟨u3.heap.size + 1, 2, none⟩ = some (.int .i64 q.pi) := b_e.cell 2
                have c_e_3 : w1.cell? ⟨u3.heap.size + 1, 3, none⟩ = some (.int .i64 q.si) := b_e.cell 3
                have c_e_4 : w1.cell? ⟨u3.heap.size + 1, 4, none⟩ = some (.int .i64 q.nn) := b_e.cell 4
                have c_e_5 : w1.cell? ⟨u3.heap.size + 1, 5, none⟩ = some (.int .i64 q.zo) := b_e.cell 5
                have c_e_6 : w1.cell? ⟨u3.heap.size + 1, 6, none⟩ = some (.bool q.be) := b_e.cell 6
                go_wp2_with fail
                refine (EI.out _).mono ?_
                rintro e w2 ⟨rfl, hb3⟩
                have hb4 := below_app hb2 hb3 hb2.size
                clear c_e_0 c_e_1 c_e_2 c_e_3 c_e_4 c_e_5 c_e_6
                replace o_l := (o_l.grew evC_ne hb1).grew evC_ne hb3
                rcases o_l with g1 | ⟨o1, hpa, g1⟩
                · omega
                obtain rfl : (0 : Nat) = o1 := by simpa using hpa
                obtain ⟨k0, k1, k2, k3, k4, k5, k6⟩ : AtEv w2 q_l (k * 7) (F k) := Nat.zero_add (k * 7) ▸ AtEv_of (g1 k hlt)
                have HE : Hid (okE (F k) = true) := HP.out k hlt
                generalize F k = x at k0 k1 k2 k3 k4 k5 k6 HE
                clear g1 hpa
                have LI : Hid (∀ u : World, Calls Tryd.prog 17 #[(.agg #[.int .i64 x.kd, .int .i64 x.sr, .int .i64 x.pi, .int .i64 x.si, .int .i64 x.nn, .int .i64 x.zo, .bool x.be])] u fun e w' => e = .returned (.bool true) ∧ Below u.heap.size u w') := fun u => by have := implEventOk_any x u; rw [HE.out] at this; exact this
                go_wp2_with fail
                refine (LI.out _).mono ?_
                rintro e w3 ⟨rfl, hb5⟩
                have hb6 := below_app hb4 hb5 hb4.size
                clear k0 k1 k2 k3 k4 k5 k6
                go_wp2
                go_roundw
                case rel => first | exact ⟨k + 1, by omega, by go_num, hb6⟩ | ((repeat apply Exists.intro); exact ⟨⟨k + 1, by omega, by go_num, hb6⟩, rfl⟩)
                case measure => simp [intOf]; omega
              · obtain rfl : k = n := by omega
                have hB2 := below_app hB hb hsz
                have hl2 : t_c.ln ≤ 5 := l_c
                cases q9 : (t_c.kd == 9)
                case true =>
                  have z1 : ((k : Int) == (t_c.ln : Int)) = true := by have := HN9.out (by simpa using q9); rw [this]; simp
                  go_wp2
                  all_goals go_ret
                  all_goals exact ⟨rfl, hB2⟩
                case false =>
                  have q8 : (t_c.kd != 9) = true := by rw [bne, q9]; rfl
                  have z0 : ((k : Int) == 0) = true := by have := HN0.out (by simpa using q9); rw [this]; rfl
                  go_wp2
                  all_goals go_ret
                  all_goals exact ⟨rfl, hB2⟩

def IsRow (k : IntKind) (w : World) (a : Option Addr) (len cap : Nat) (zs : List Int) : Prop :=
  (a = none ∧ len = 0 ∧ cap = 0 ∧ zs = []) ∨
  ∃ x, a = some x ∧ len ≤ cap ∧ cap ≤ maxLen ∧ zs.length = cap ∧ (∀ i, i < zs.length → w.cell? (x.add i) = some (.int k (zs.getD i 0))) ∧ ∀ n ∈ zs, (Lit.int k n).wf = true

theorem contract (H : Type) (enc : TypeId × Value → H) (W : World) (base : Nat) (args : Array Value) (ds gs : List (DataW H)) (before : List MemPlace)
    (hval : ∀ (j : Nat) t v, Tryd.f3.params[j]? = some t → args[j]? = some v → Value.okWide Tryd.prog W .any base t v)
    (hW : DataW.Whole enc Tryd.prog Tryd.f3.params.toList Rows.fnActsSpec.vars false W args.toList ds gs before) (hL : laidMetH Tryd.prog Rows.fnActsRow.laid W) :
    Calls Tryd.prog 3 args W fun e W' => ∃ v, e = .returned v ∧ Rows.fnActsSpec.post enc Tryd.prog Tryd.f3 false true false false W args v W' := by
  have hW' := hW
  obtain ⟨p, q, hA0, hV, rfl, hfz, hnd⟩ := hW
  have hA : DataW.TrodAll enc Tryd.prog W 0 (fun _ => true) true Tryd.f3.params.toList args.toList ds p := hA0
  rw [Tryd.params3] at hA hval
  obtain ⟨v0, vs0, d0, ds0, p0, q0, hargs, rfl, rfl, h0, r0⟩ := trodAll_cons hA
  obtain ⟨rfl, rfl, rfl⟩ := trodAll_nil r0
  obtain rfl : args = #[v0] := by cases args; simp_all
  obtain ⟨rfl, rfl⟩ := trodVars_none hV
  obtain ⟨a0, len0, cap0, rfl⟩ := okWide_slice Tryd.underlying22 (hval 0 22 v0 rfl rfl)
  have k0 := h0
  have lt0 : ∀ x ∈ p0, x.block < W.heap.size := by obtain ⟨m, hm⟩ := k0; exact DataW.trod_lt m _ _ _ hm
  obtain ⟨z0, w0⟩ : ∃ zs, IsRow .u8 W a0 len0 cap0 zs := by
    obtain ⟨fuel, hf⟩ := h0
    rcases open_ints Tryd.underlying22 Tryd.underlying5 (by kernel_rfl) hf with ⟨hcs, _⟩ | ⟨x, l, c, zs, hcs, _, hl, hm, hz, _, hcell, hwz⟩
    · simp [Value.cells] at hcs
      obtain ⟨rfl, rfl, rfl⟩ := hcs
      exact ⟨[], .inl ⟨rfl, rfl, rfl, rfl⟩⟩
    · simp [Value.cells] at hcs
      obtain ⟨rfl, rfl, rfl⟩ := hcs
      exact ⟨zs, .inr ⟨_, rfl, hl, hm, by simpa using hz, hcell, hwz⟩⟩
  clear hA0
  refine (walk a0 len0 cap0 W (code_of_row w0) (table hL)).mono fun e W' ⟨he, bel⟩ => ?_
  subst he
  exact ⟨_, rfl, _, _, _, [], _, [], hW', trodAll_mk1 (shut_bool Tryd.underlying4 _), (trodAll_cons_mk (Below.trod laidOut (by kernel_rfl) (of_decide_eq_true (by kernel_rfl)) k0 bel lt0) trodAll_mk0), rfl, bel.frame _, fun h => by cases h⟩

theorem laid_met (os : Os) : laidMet Tryd.prog Rows.fnActsRow.laid (({ World.holding Tryd.prog os ⟨#[], #[], []⟩ with heap := laidHeap (World.holding Tryd.prog os ⟨#[], #[], []⟩).heap } : World).forCall (fun _ _ => 0) ⟨#[], #[.slice none 0 0], []⟩).memory :=
  laidMet_of_run' 8 (by kernel_rfl) (by kernel_rfl)
theorem reads (os : Os) {H : Type} (enc : TypeId × Value → H) : ∃ d places, DataW.whole enc Tryd.prog (({ World.holding Tryd.prog os ⟨#[], #[], []⟩ with heap := laidHeap (World.holding Tryd.prog os ⟨#[], #[], []⟩).heap } : World).forCall (fun _ _ => 0) ⟨#[], #[.slice none 0 0], []⟩).memory Tryd.f3.params.toList Rows.fnActsSpec.vars false #[Value.slice none 0 0].toList 8 = some ([d], [], places) :=
  ⟨.nil, [], by kernel_rfl⟩

set_option maxRecDepth 100000 in
theorem lifted (os : Os) (started : os.Started) (H : Type) (enc : TypeId × Value → H) (F : Stop.Interp) :
    ReturnsInHanded {} Tryd.checked os 3 .any ((OpenSpec.ofChange Rows.fnActsSpec).preRow enc Tryd.prog Tryd.f3 Rows.fnActsRow.domain false Rows.fnActsRow.laid) (((OpenSpec.ofChange Rows.fnActsSpec).at F).post enc Tryd.prog Tryd.f3 false true false false) := by
  obtain ⟨d, places, hx⟩ := reads os enc
  refine returnsInHanded_of_row (C := Tryd.checked) (s := OpenSpec.ofChange Rows.fnActsSpec) own started (by kernel_rfl) Tryd.func3
    (witness_row_at (enc := enc) (C := Tryd.checked) false { World.holding Tryd.prog os ⟨#[], #[], []⟩ with heap := laidHeap (World.holding Tryd.prog os ⟨#[], #[], []⟩).heap } #[.slice none 0 0] rfl (by kernel_rfl) (by kernel_rfl) (by kernel_rfl)
      (OpenSpec.preRow_of_cond 8 hx (by kernel_rfl) (fun k hk => by cases hk) (by kernel_rfl) (laid_met os))) ?_
  intro W base args ds gs before hval hW _ _ _ hL _ _
  exact contract H enc W base args ds gs before hval hW hL

theorem said : Rows.FnActsSaid :=
  OpenClaim.holds_of_cond 3 Tryd.f3 rfl rfl rfl rfl rfl rfl rfl ⟨rfl, rfl, rfl, rfl, rfl⟩ rfl rfl rfl rfl rfl (by kernel_rfl) Tryd.func3 (by kernel_rfl)
    (of_decide_eq_true (by kernel_rfl)) (by unfold Func.isWrapper; first | (rw [if_pos (by decide +kernel)]; kernel_rfl) | (rw [if_neg (by decide +kernel)]; exact ⟨rfl, rfl⟩))
    (fun os started H enc _ F => by rw [OpenClaim.pre_eq_preRow]; exact lifted os started H enc F)

theorem plain (f : FuncId) (fn : Func) (hf : Tryd.pinned.checked.prog.funcNamed "loop.example/g00486/laws.FnActs" = some f) (hfn : Tryd.pinned.checked.prog.funcs[f]? = some fn) :
    true = Tryd.pinned.checked.prog.looks [] ∧ ∀ (j : Nat) t, fn.params[j]? = some t → Tryd.pinned.checked.prog.wantsStandIn t = false := by
  obtain rfl : f = 3 := Option.some.inj ((show Tryd.prog.funcNamed "loop.example/g00486/laws.FnActs" = some 3 by kernel_rfl).symm.trans hf) |>.symm
  obtain rfl : fn = Tryd.f3 := (Option.some.inj (Tryd.func3.symm.trans hfn)).symm
  refine ⟨by kernel_rfl, fun j t ht => ?_⟩
  rw [Tryd.params3] at ht
  obtain rfl : t = 22 := by simpa using Array.mem_of_getElem? ht
  exact (show Tryd.prog.wantsStandIn 22 = false by kernel_rfl)

theorem card : Rows.FnActsCardSaid :=
  Claim7.holds_tied_plain_at .later [] _ _ _ _ said (fun _ h => by cases h) (by kernel_rfl) (fun _ h => by cases h) fnActs_row_tie rfl ⟨rfl, rfl⟩ (by kernel_rfl) rfl plain (by kernel_rfl)
#print axioms card
end Go.Proofs.YtgaodfjmehofgacDoor.fnActs
