/-
  Chapter 4: the program's PieceOk: one walk for each test that may be the first to fail. Written by tools/piecei.gen.py. Own work.
-/
import Derived.Test.YtnlnledijpcjpabPcI
namespace Go.Proofs.Ytnlnledijpcjpab
open Go.ChangeShapes Go.WideShapes Go.ChangeAt Go.RowKit
set_option maxRecDepth 100000
theorem okC_pr (p : Pc) : okC p = (decide (p.zo = 2) || smP p (mvP p p.zo p.st)) := by
  unfold okC smP mvP
  cases p.de <;> cases p.be <;> simp

set_option maxHeartbeats 4000000 in
theorem poi_0 (p : Pc) (w : World) (h0 : ib p.id 1 99 = false) :
    Calls Try.prog 27 #[(.agg #[.int .i64 p.id, .int .i64 p.ow, .int .i64 p.si, .int .i64 p.zo, .int .i64 p.st, .int .i64 p.po, .int .i64 p.to, .int .i64 p.tr, .int .i64 p.pl, .int .i64 p.mi, .int .i64 p.ma, .bool p.de, .bool p.be])] w fun e w' => e = .returned (.bool (okP p)) ∧ Below w.heap.size w w' := by
  have HP : Hid (okP p = false) := by
    show okP p = false
    unfold okP okA; rw [h0]; simp
  go_enter Try.func27, Try.ntmps27
  try simp only [List.append_eq, List.cons_append, List.nil_append]
  go_wp2_with (go_at_call 81; refine (between_any _ _ _ _).mono ?_; rintro e w' ⟨rfl, rfl⟩)
  go_ret
  first
    | exact ⟨ret_bool' HP.out.symm, (Below.refl _ w).alloc (Nat.le_refl _) _⟩
    | (refine ⟨ret_bool' ?_, (Below.refl _ w).alloc (Nat.le_refl _) _⟩; rw [HP.out]; simp [*])
set_option maxHeartbeats 4000000 in
theorem poi_1 (p : Pc) (w : World) (h0 : ib p.id 1 99 = true) (h1 : ib p.ow 0 2 = false) :
    Calls Try.prog 27 #[(.agg #[.int .i64 p.id, .int .i64 p.ow, .int .i64 p.si, .int .i64 p.zo, .int .i64 p.st, .int .i64 p.po, .int .i64 p.to, .int .i64 p.tr, .int .i64 p.pl, .int .i64 p.mi, .int .i64 p.ma, .bool p.de, .bool p.be])] w fun e w' => e = .returned (.bool (okP p)) ∧ Below w.heap.size w w' := by
  have HP : Hid (okP p = false) := by
    show okP p = false
    unfold okP okA; rw [h1]; simp
  go_enter Try.func27, Try.ntmps27
  try simp only [List.append_eq, List.cons_append, List.nil_append]
  go_wp2_with (go_at_call 81; refine (between_any _ _ _ _).mono ?_; rintro e w' ⟨rfl, rfl⟩)
  go_ret
  first
    | exact ⟨ret_bool' HP.out.symm, (Below.refl _ w).alloc (Nat.le_refl _) _⟩
    | (refine ⟨ret_bool' ?_, (Below.refl _ w).alloc (Nat.le_refl _) _⟩; rw [HP.out]; simp [*])
set_option maxHeartbeats 4000000 in
theorem poi_2 (p : Pc) (w : World) (h0 : ib p.id 1 99 = true) (h1 : ib p.ow 0 2 = true) (h2 : ib p.si 0 2 = false) :
    Calls Try.prog 27 #[(.agg #[.int .i64 p.id, .int .i64 p.ow, .int .i64 p.si, .int .i64 p.zo, .int .i64 p.st, .int .i64 p.po, .int .i64 p.to, .int .i64 p.tr, .int .i64 p.pl, .int .i64 p.mi, .int .i64 p.ma, .bool p.de, .bool p.be])] w fun e w' => e = .returned (.bool (okP p)) ∧ Below w.heap.size w w' := by
  have HP : Hid (okP p = false) := by
    show okP p = false
    unfold okP okA; rw [h2]; simp
  go_enter Try.func27, Try.ntmps27
  try simp only [List.append_eq, List.cons_append, List.nil_append]
  go_wp2_with (go_at_call 81; refine (between_any _ _ _ _).mono ?_; rintro e w' ⟨rfl, rfl⟩)
  go_ret
  first
    | exact ⟨ret_bool' HP.out.symm, (Below.refl _ w).alloc (Nat.le_refl _) _⟩
    | (refine ⟨ret_bool' ?_, (Below.refl _ w).alloc (Nat.le_refl _) _⟩; rw [HP.out]; simp [*])
set_option maxHeartbeats 4000000 in
theorem poi_3 (p : Pc) (w : World) (h0 : ib p.id 1 99 = true) (h1 : ib p.ow 0 2 = true) (h2 : ib p.si 0 2 = true) (h3 : ib p.zo 1 4 = false) :
    Calls Try.prog 27 #[(.agg #[.int .i64 p.id, .int .i64 p.ow, .int .i64 p.si, .int .i64 p.zo, .int .i64 p.st, .int .i64 p.po, .int .i64 p.to, .int .i64 p.tr, .int .i64 p.pl, .int .i64 p.mi, .int .i64 p.ma, .bool p.de, .bool p.be])] w fun e w' => e = .returned (.bool (okP p)) ∧ Below w.heap.size w w' := by
  have HP : Hid (okP p = false) := by
    show okP p = false
    unfold okP okA; rw [h3]; simp
  go_enter Try.func27, Try.ntmps27
  try simp only [List.append_eq, List.cons_append, List.nil_append]
  go_wp2_with (go_at_call 81; refine (between_any _ _ _ _).mono ?_; rintro e w' ⟨rfl, rfl⟩)
  go_ret
  first
    | exact ⟨ret_bool' HP.out.symm, (Below.refl _ w).alloc (Nat.le_refl _) _⟩
    | (refine ⟨ret_bool' ?_, (Below.refl _ w).alloc (Nat.le_refl _) _⟩; rw [HP.out]; simp [*])
set_option maxHeartbeats 4000000 in
theorem poi_4 (p : Pc) (w : World) (h0 : ib p.id 1 99 = true) (h1 : ib p.ow 0 2 = true) (h2 : ib p.si 0 2 = true) (h3 : ib p.zo 1 4 = true) (h4 : ib p.st 0 9999 = false) :
    Calls Try.prog 27 #[(.agg #[.int .i64 p.id, .int .i64 p.ow, .int .i64 p.si, .int .i64 p.zo, .int .i64 p.st, .int .i64 p.po, .int .i64 p.to, .int .i64 p.tr, .int .i64 p.pl, .int .i64 p.mi, .int .i64 p.ma, .bool p.de, .bool p.be])] w fun e w' => e = .returned (.bool (okP p)) ∧ Below w.heap.size w w' := by
  have HP : Hid (okP p = false) := by
    show okP p = false
    unfold okP okA; rw [h4]; simp
  go_enter Try.func27, Try.ntmps27
  try simp only [List.append_eq, List.cons_append, List.nil_append]
  go_wp2_with (go_at_call 81; refine (between_any _ _ _ _).mono ?_; rintro e w' ⟨rfl, rfl⟩)
  go_ret
  first
    | exact ⟨ret_bool' HP.out.symm, (Below.refl _ w).alloc (Nat.le_refl _) _⟩
    | (refine ⟨ret_bool' ?_, (Below.refl _ w).alloc (Nat.le_refl _) _⟩; rw [HP.out]; simp [*])
set_option maxHeartbeats 4000000 in
theorem poi_5 (p : Pc) (w : World) (h0 : ib p.id 1 99 = true) (h1 : ib p.ow 0 2 = true) (h2 : ib p.si 0 2 = true) (h3 : ib p.zo 1 4 = true) (h4 : ib p.st 0 9999 = true) (h5 : ib p.po 0 999 = false) :
    Calls Try.prog 27 #[(.agg #[.int .i64 p.id, .int .i64 p.ow, .int .i64 p.si, .int .i64 p.zo, .int .i64 p.st, .int .i64 p.po, .int .i64 p.to, .int .i64 p.tr, .int .i64 p.pl, .int .i64 p.mi, .int .i64 p.ma, .bool p.de, .bool p.be])] w fun e w' => e = .returned (.bool (okP p)) ∧ Below w.heap.size w w' := by
  have HP : Hid (okP p = false) := by
    show okP p = false
    unfold okP okA; rw [h5]; simp
  go_enter Try.func27, Try.ntmps27
  try simp only [List.append_eq, List.cons_append, List.nil_append]
  go_wp2_with (go_at_call 81; refine (between_any _ _ _ _).mono ?_; rintro e w' ⟨rfl, rfl⟩)
  go_ret
  first
    | exact ⟨ret_bool' HP.out.symm, (Below.refl _ w).alloc (Nat.le_refl _) _⟩
    | (refine ⟨ret_bool' ?_, (Below.refl _ w).alloc (Nat.le_refl _) _⟩; rw [HP.out]; simp [*])
set_option maxHeartbeats 4000000 in
theorem poi_6 (p : Pc) (w : World) (h0 : ib p.id 1 99 = true) (h1 : ib p.ow 0 2 = true) (h2 : ib p.si 0 2 = true) (h3 : ib p.zo 1 4 = true) (h4 : ib p.st 0 9999 = true) (h5 : ib p.po 0 999 = true) (h6 : ib p.to 0 999 = false) :
    Calls Try.prog 27 #[(.agg #[.int .i64 p.id, .int .i64 p.ow, .int .i64 p.si, .int .i64 p.zo, .int .i64 p.st, .int .i64 p.po, .int .i64 p.to, .int .i64 p.tr, .int .i64 p.pl, .int .i64 p.mi, .int .i64 p.ma, .bool p.de, .bool p.be])] w fun e w' => e = .returned (.bool (okP p)) ∧ Below w.heap.size w w' := by
  have HP : Hid (okP p = false) := by
    show okP p = false
    unfold okP okA; rw [h6]; simp
  go_enter Try.func27, Try.ntmps27
  try simp only [List.append_eq, List.cons_append, List.nil_append]
  go_wp2_with (go_at_call 81; refine (between_any _ _ _ _).mono ?_; rintro e w' ⟨rfl, rfl⟩)
  go_ret
  first
    | exact ⟨ret_bool' HP.out.symm, (Below.refl _ w).alloc (Nat.le_refl _) _⟩
    | (refine ⟨ret_bool' ?_, (Below.refl _ w).alloc (Nat.le_refl _) _⟩; rw [HP.out]; simp [*])
set_option maxHeartbeats 4000000 in
theorem poi_7 (p : Pc) (w : World) (h0 : ib p.id 1 99 = true) (h1 : ib p.ow 0 2 = true) (h2 : ib p.si 0 2 = true) (h3 : ib p.zo 1 4 = true) (h4 : ib p.st 0 9999 = true) (h5 : ib p.po 0 999 = true) (h6 : ib p.to 0 999 = true) (h7 : ib p.tr 0 63 = false) :
    Calls Try.prog 27 #[(.agg #[.int .i64 p.id, .int .i64 p.ow, .int .i64 p.si, .int .i64 p.zo, .int .i64 p.st, .int .i64 p.po, .int .i64 p.to, .int .i64 p.tr, .int .i64 p.pl, .int .i64 p.mi, .int .i64 p.ma, .bool p.de, .bool p.be])] w fun e w' => e = .returned (.bool (okP p)) ∧ Below w.heap.size w w' := by
  have HP : Hid (okP p = false) := by
    show okP p = false
    unfold okP okA; rw [h7]; simp
  go_enter Try.func27, Try.ntmps27
  try simp only [List.append_eq, List.cons_append, List.nil_append]
  go_wp2_with (go_at_call 81; refine (between_any _ _ _ _).mono ?_; rintro e w' ⟨rfl, rfl⟩)
  go_ret
  first
    | exact ⟨ret_bool' HP.out.symm, (Below.refl _ w).alloc (Nat.le_refl _) _⟩
    | (refine ⟨ret_bool' ?_, (Below.refl _ w).alloc (Nat.le_refl _) _⟩; rw [HP.out]; simp [*])
set_option maxHeartbeats 4000000 in
theorem poi_8 (p : Pc) (w : World) (h0 : ib p.id 1 99 = true) (h1 : ib p.ow 0 2 = true) (h2 : ib p.si 0 2 = true) (h3 : ib p.zo 1 4 = true) (h4 : ib p.st 0 9999 = true) (h5 : ib p.po 0 999 = true) (h6 : ib p.to 0 999 = true) (h7 : ib p.tr 0 63 = true) (h8 : ib p.pl 0 2147483647 = false) :
    Calls Try.prog 27 #[(.agg #[.int .i64 p.id, .int .i64 p.ow, .int .i64 p.si, .int .i64 p.zo, .int .i64 p.st, .int .i64 p.po, .int .i64 p.to, .int .i64 p.tr, .int .i64 p.pl, .int .i64 p.mi, .int .i64 p.ma, .bool p.de, .bool p.be])] w fun e w' => e = .returned (.bool (okP p)) ∧ Below w.heap.size w w' := by
  have HP : Hid (okP p = false) := by
    show okP p = false
    unfold okP okB; rw [h8]; simp
  go_enter Try.func27, Try.ntmps27
  try simp only [List.append_eq, List.cons_append, List.nil_append]
  go_wp2_with (go_at_call 81; refine (between_any _ _ _ _).mono ?_; rintro e w' ⟨rfl, rfl⟩)
  go_ret
  first
    | exact ⟨ret_bool' HP.out.symm, (Below.refl _ w).alloc (Nat.le_refl _) _⟩
    | (refine ⟨ret_bool' ?_, (Below.refl _ w).alloc (Nat.le_refl _) _⟩; rw [HP.out]; simp [*])
set_option maxHeartbeats 4000000 in
theorem poi_9 (p : Pc) (w : World) (h0 : ib p.id 1 99 = true) (h1 : ib p.ow 0 2 = true) (h2 : ib p.si 0 2 = true) (h3 : ib p.zo 1 4 = true) (h4 : ib p.st 0 9999 = true) (h5 : ib p.po 0 999 = true) (h6 : ib p.to 0 999 = true) (h7 : ib p.tr 0 63 = true) (h8 : ib p.pl 0 2147483647 = true) (h9 : ib p.mi 0 2147483647 = false) :
    Calls Try.prog 27 #[(.agg #[.int .i64 p.id, .int .i64 p.ow, .int .i64 p.si, .int .i64 p.zo, .int .i64 p.st, .int .i64 p.po, .int .i64 p.to, .int .i64 p.tr, .int .i64 p.pl, .int .i64 p.mi, .int .i64 p.ma, .bool p.de, .bool p.be])] w fun e w' => e = .returned (.bool (okP p)) ∧ Below w.heap.size w w' := by
  have HP : Hid (okP p = false) := by
    show okP p = false
    unfold okP okB; rw [h9]; simp
  go_enter Try.func27, Try.ntmps27
  try simp only [List.append_eq, List.cons_append, List.nil_append]
  go_wp2_with (go_at_call 81; refine (between_any _ _ _ _).mono ?_; rintro e w' ⟨rfl, rfl⟩)
  go_ret
  first
    | exact ⟨ret_bool' HP.out.symm, (Below.refl _ w).alloc (Nat.le_refl _) _⟩
    | (refine ⟨ret_bool' ?_, (Below.refl _ w).alloc (Nat.le_refl _) _⟩; rw [HP.out]; simp [*])
set_option maxHeartbeats 4000000 in
theorem poi_10 (p : Pc) (w : World) (h0 : ib p.id 1 99 = true) (h1 : ib p.ow 0 2 = true) (h2 : ib p.si 0 2 = true) (h3 : ib p.zo 1 4 = true) (h4 : ib p.st 0 9999 = true) (h5 : ib p.po 0 999 = true) (h6 : ib p.to 0 999 = true) (h7 : ib p.tr 0 63 = true) (h8 : ib p.pl 0 2147483647 = true) (h9 : ib p.mi 0 2147483647 = true) (h10 : ib p.ma 0 2147483647 = false) :
    Calls Try.prog 27 #[(.agg #[.int .i64 p.id, .int .i64 p.ow, .int .i64 p.si, .int .i64 p.zo, .int .i64 p.st, .int .i64 p.po, .int .i64 p.to, .int .i64 p.tr, .int .i64 p.pl, .int .i64 p.mi, .int .i64 p.ma, .bool p.de, .bool p.be])] w fun e w' => e = .returned (.bool (okP p)) ∧ Below w.heap.size w w' := by
  have HP : Hid (okP p = false) := by
    show okP p = false
    unfold okP okB; rw [h10]; simp
  go_enter Try.func27, Try.ntmps27
  try simp only [List.append_eq, List.cons_append, List.nil_append]
  go_wp2_with (go_at_call 81; refine (between_any _ _ _ _).mono ?_; rintro e w' ⟨rfl, rfl⟩)
  go_ret
  first
    | exact ⟨ret_bool' HP.out.symm, (Below.refl _ w).alloc (Nat.le_refl _) _⟩
    | (refine ⟨ret_bool' ?_, (Below.refl _ w).alloc (Nat.le_refl _) _⟩; rw [HP.out]; simp [*])
set_option maxHeartbeats 4000000 in
theorem poi_z (p : Pc) (w : World) (h0 : ib p.id 1 99 = true) (h1 : ib p.ow 0 2 = true) (h2 : ib p.si 0 2 = true) (h3 : ib p.zo 1 4 = true) (h4 : ib p.st 0 9999 = true) (h5 : ib p.po 0 999 = true) (h6 : ib p.to 0 999 = true) (h7 : ib p.tr 0 63 = true) (h8 : ib p.pl 0 2147483647 = true) (h9 : ib p.mi 0 2147483647 = true) (h10 : ib p.ma 0 2147483647 = true) (hz : p.zo = 2) :
    Calls Try.prog 27 #[(.agg #[.int .i64 p.id, .int .i64 p.ow, .int .i64 p.si, .int .i64 p.zo, .int .i64 p.st, .int .i64 p.po, .int .i64 p.to, .int .i64 p.tr, .int .i64 p.pl, .int .i64 p.mi, .int .i64 p.ma, .bool p.de, .bool p.be])] w fun e w' => e = .returned (.bool (okP p)) ∧ Below w.heap.size w w' := by
  have HP : Hid (okP p = true) := by
    show okP p = true
    unfold okP okA okB; rw [h0, h1, h2, h3, h4, h5, h6, h7, h8, h9, h10]; simp [okC, hz]
  go_enter Try.func27, Try.ntmps27
  try simp only [List.append_eq, List.cons_append, List.nil_append]
  go_wp2_with (go_at_call 81; refine (between_any _ _ _ _).mono ?_; rintro e w' ⟨rfl, rfl⟩)
  go_ret
  first
    | exact ⟨ret_bool' HP.out.symm, (Below.refl _ w).alloc (Nat.le_refl _) _⟩
    | (refine ⟨ret_bool' ?_, (Below.refl _ w).alloc (Nat.le_refl _) _⟩; rw [HP.out]; simp [*])
set_option maxHeartbeats 4000000 in
theorem poi_a (p : Pc) (w : World) (h0 : ib p.id 1 99 = true) (h1 : ib p.ow 0 2 = true) (h2 : ib p.si 0 2 = true) (h3 : ib p.zo 1 4 = true) (h4 : ib p.st 0 9999 = true) (h5 : ib p.po 0 999 = true) (h6 : ib p.to 0 999 = true) (h7 : ib p.tr 0 63 = true) (h8 : ib p.pl 0 2147483647 = true) (h9 : ib p.mi 0 2147483647 = true) (h10 : ib p.ma 0 2147483647 = true) (hz : ¬ p.zo = 2) :
    Calls Try.prog 27 #[(.agg #[.int .i64 p.id, .int .i64 p.ow, .int .i64 p.si, .int .i64 p.zo, .int .i64 p.st, .int .i64 p.po, .int .i64 p.to, .int .i64 p.tr, .int .i64 p.pl, .int .i64 p.mi, .int .i64 p.ma, .bool p.de, .bool p.be])] w fun e w' => e = .returned (.bool (okP p)) ∧ Below w.heap.size w w' := by
  have HP : Hid (okP p = smP p (mvP p p.zo p.st)) := by
    show okP p = smP p (mvP p p.zo p.st)
    unfold okP okA okB; rw [h0, h1, h2, h3, h4, h5, h6, h7, h8, h9, h10]; simp [okC_pr, hz]
  go_enter Try.func27, Try.ntmps27
  try simp only [List.append_eq, List.cons_append, List.nil_append]
  go_wp2_with (go_at_call 81; refine (between_any _ _ _ _).mono ?_; rintro e w' ⟨rfl, rfl⟩)
  refine (asPrinted_any p _).mono ?_
  rintro e w1 ⟨rfl, hb1⟩
  have hb0 := (Below.refl _ w).alloc (Nat.le_refl _) (.cells #[.int .i64 p.id, .int .i64 p.ow, .int .i64 p.si, .int .i64 p.zo, .int .i64 p.st, .int .i64 p.po, .int .i64 p.to, .int .i64 p.tr, .int .i64 p.pl, .int .i64 p.mi, .int .i64 p.ma, .bool p.de, .bool p.be] 31)
  have hb := below_app hb0 hb1 hb0.size
  clear hb0 hb1
  go_wp2
  go_ret
  first
    | exact ⟨ret_bool' HP.out.symm, hb⟩
    | (refine ⟨ret_bool' ?_, hb⟩; rw [HP.out]; simp [*])
theorem implPieceOk_any (p : Pc) (w : World) : Calls Try.prog 27 #[(.agg #[.int .i64 p.id, .int .i64 p.ow, .int .i64 p.si, .int .i64 p.zo, .int .i64 p.st, .int .i64 p.po, .int .i64 p.to, .int .i64 p.tr, .int .i64 p.pl, .int .i64 p.mi, .int .i64 p.ma, .bool p.de, .bool p.be])] w fun e w' => e = .returned (.bool (okP p)) ∧ Below w.heap.size w w' := by
  cases h0 : ib p.id 1 99 with
  | false => exact poi_0 p w h0
  | true =>
  cases h1 : ib p.ow 0 2 with
  | false => exact poi_1 p w h0 h1
  | true =>
  cases h2 : ib p.si 0 2 with
  | false => exact poi_2 p w h0 h1 h2
  | true =>
  cases h3 : ib p.zo 1 4 with
  | false => exact poi_3 p w h0 h1 h2 h3
  | true =>
  cases h4 : ib p.st 0 9999 with
  | false => exact poi_4 p w h0 h1 h2 h3 h4
  | true =>
  cases h5 : ib p.po 0 999 with
  | false => exact poi_5 p w h0 h1 h2 h3 h4 h5
  | true =>
  cases h6 : ib p.to 0 999 with
  | false => exact poi_6 p w h0 h1 h2 h3 h4 h5 h6
  | true =>
  cases h7 : ib p.tr 0 63 with
  | false => exact poi_7 p w h0 h1 h2 h3 h4 h5 h6 h7
  | true =>
  cases h8 : ib p.pl 0 2147483647 with
  | false => exact poi_8 p w h0 h1 h2 h3 h4 h5 h6 h7 h8
  | true =>
  cases h9 : ib p.mi 0 2147483647 with
  | false => exact poi_9 p w h0 h1 h2 h3 h4 h5 h6 h7 h8 h9
  | true =>
  cases h10 : ib p.ma 0 2147483647 with
  | false => exact poi_10 p w h0 h1 h2 h3 h4 h5 h6 h7 h8 h9 h10
  | true =>
  by_cases hz : p.zo = 2
  case pos => exact poi_z p w h0 h1 h2 h3 h4 h5 h6 h7 h8 h9 h10 hz
  exact poi_a p w h0 h1 h2 h3 h4 h5 h6 h7 h8 h9 h10 hz
end Go.Proofs.Ytnlnledijpcjpab
