/-
  Chapter 4: the specification's PieceOk: one walk for each test that may be the first to fail. Written by tools/piece.gen.py. Own work.
-/
import Derived.Test.YtnlnledijpcjpabPiece2
namespace Go.Proofs.Ytnlnledijpcjpab
open Go.ChangeShapes Go.WideShapes Go.ChangeAt Go.RowKit
set_option maxRecDepth 100000

set_option maxHeartbeats 4000000 in
theorem pok_0 (p : Pc) (w : World) (h0 : ib p.id 1 99 = false) :
    Calls Try.prog 28 #[(.agg #[.int .i64 p.id, .int .i64 p.ow, .int .i64 p.si, .int .i64 p.zo, .int .i64 p.st, .int .i64 p.po, .int .i64 p.to, .int .i64 p.tr, .int .i64 p.pl, .int .i64 p.mi, .int .i64 p.ma, .bool p.de, .bool p.be])] w fun e w' => e = .returned (.bool (okP p)) ∧ Below w.heap.size w w' := by
  have HP : Hid (okP p = false) := by
    show okP p = false
    unfold okP okA; rw [h0]; simp
  go_enter Try.func28, Try.ntmps28
  try simp only [List.append_eq, List.cons_append, List.nil_append]
  go_wp2_with (go_at_call 83; refine (l1In_any _ _ _ _).mono ?_; rintro e w' ⟨rfl, rfl⟩)
  go_ret
  first
    | exact ⟨ret_bool' HP.out.symm, (Below.refl _ w).alloc (Nat.le_refl _) _⟩
    | (refine ⟨ret_bool' ?_, (Below.refl _ w).alloc (Nat.le_refl _) _⟩; rw [HP.out]; simp [*])
set_option maxHeartbeats 4000000 in
theorem pok_1 (p : Pc) (w : World) (h0 : ib p.id 1 99 = true) (h1 : ib p.ow 0 2 = false) :
    Calls Try.prog 28 #[(.agg #[.int .i64 p.id, .int .i64 p.ow, .int .i64 p.si, .int .i64 p.zo, .int .i64 p.st, .int .i64 p.po, .int .i64 p.to, .int .i64 p.tr, .int .i64 p.pl, .int .i64 p.mi, .int .i64 p.ma, .bool p.de, .bool p.be])] w fun e w' => e = .returned (.bool (okP p)) ∧ Below w.heap.size w w' := by
  have HP : Hid (okP p = false) := by
    show okP p = false
    unfold okP okA; rw [h1]; simp
  go_enter Try.func28, Try.ntmps28
  try simp only [List.append_eq, List.cons_append, List.nil_append]
  go_wp2_with (go_at_call 83; refine (l1In_any _ _ _ _).mono ?_; rintro e w' ⟨rfl, rfl⟩)
  go_ret
  first
    | exact ⟨ret_bool' HP.out.symm, (Below.refl _ w).alloc (Nat.le_refl _) _⟩
    | (refine ⟨ret_bool' ?_, (Below.refl _ w).alloc (Nat.le_refl _) _⟩; rw [HP.out]; simp [*])
set_option maxHeartbeats 4000000 in
theorem pok_2 (p : Pc) (w : World) (h0 : ib p.id 1 99 = true) (h1 : ib p.ow 0 2 = true) (h2 : ib p.si 0 2 = false) :
    Calls Try.prog 28 #[(.agg #[.int .i64 p.id, .int .i64 p.ow, .int .i64 p.si, .int .i64 p.zo, .int .i64 p.st, .int .i64 p.po, .int .i64 p.to, .int .i64 p.tr, .int .i64 p.pl, .int .i64 p.mi, .int .i64 p.ma, .bool p.de, .bool p.be])] w fun e w' => e = .returned (.bool (okP p)) ∧ Below w.heap.size w w' := by
  have HP : Hid (okP p = false) := by
    show okP p = false
    unfold okP okA; rw [h2]; simp
  go_enter Try.func28, Try.ntmps28
  try simp only [List.append_eq, List.cons_append, List.nil_append]
  go_wp2_with (go_at_call 83; refine (l1In_any _ _ _ _).mono ?_; rintro e w' ⟨rfl, rfl⟩)
  go_ret
  first
    | exact ⟨ret_bool' HP.out.symm, (Below.refl _ w).alloc (Nat.le_refl _) _⟩
    | (refine ⟨ret_bool' ?_, (Below.refl _ w).alloc (Nat.le_refl _) _⟩; rw [HP.out]; simp [*])
set_option maxHeartbeats 4000000 in
theorem pok_3 (p : Pc) (w : World) (h0 : ib p.id 1 99 = true) (h1 : ib p.ow 0 2 = true) (h2 : ib p.si 0 2 = true) (h3 : ib p.zo 1 4 = false) :
    Calls Try.prog 28 #[(.agg #[.int .i64 p.id, .int .i64 p.ow, .int .i64 p.si, .int .i64 p.zo, .int .i64 p.st, .int .i64 p.po, .int .i64 p.to, .int .i64 p.tr, .int .i64 p.pl, .int .i64 p.mi, .int .i64 p.ma, .bool p.de, .bool p.be])] w fun e w' => e = .returned (.bool (okP p)) ∧ Below w.heap.size w w' := by
  have HP : Hid (okP p = false) := by
    show okP p = false
    unfold okP okA; rw [h3]; simp
  go_enter Try.func28, Try.ntmps28
  try simp only [List.append_eq, List.cons_append, List.nil_append]
  go_wp2_with (go_at_call 83; refine (l1In_any _ _ _ _).mono ?_; rintro e w' ⟨rfl, rfl⟩)
  go_ret
  first
    | exact ⟨ret_bool' HP.out.symm, (Below.refl _ w).alloc (Nat.le_refl _) _⟩
    | (refine ⟨ret_bool' ?_, (Below.refl _ w).alloc (Nat.le_refl _) _⟩; rw [HP.out]; simp [*])
set_option maxHeartbeats 4000000 in
theorem pok_4 (p : Pc) (w : World) (h0 : ib p.id 1 99 = true) (h1 : ib p.ow 0 2 = true) (h2 : ib p.si 0 2 = true) (h3 : ib p.zo 1 4 = true) (h4 : ib p.st 0 9999 = false) :
    Calls Try.prog 28 #[(.agg #[.int .i64 p.id, .int .i64 p.ow, .int .i64 p.si, .int .i64 p.zo, .int .i64 p.st, .int .i64 p.po, .int .i64 p.to, .int .i64 p.tr, .int .i64 p.pl, .int .i64 p.mi, .int .i64 p.ma, .bool p.de, .bool p.be])] w fun e w' => e = .returned (.bool (okP p)) ∧ Below w.heap.size w w' := by
  have HP : Hid (okP p = false) := by
    show okP p = false
    unfold okP okA; rw [h4]; simp
  go_enter Try.func28, Try.ntmps28
  try simp only [List.append_eq, List.cons_append, List.nil_append]
  go_wp2_with (go_at_call 83; refine (l1In_any _ _ _ _).mono ?_; rintro e w' ⟨rfl, rfl⟩)
  go_ret
  first
    | exact ⟨ret_bool' HP.out.symm, (Below.refl _ w).alloc (Nat.le_refl _) _⟩
    | (refine ⟨ret_bool' ?_, (Below.refl _ w).alloc (Nat.le_refl _) _⟩; rw [HP.out]; simp [*])
set_option maxHeartbeats 4000000 in
theorem pok_5 (p : Pc) (w : World) (h0 : ib p.id 1 99 = true) (h1 : ib p.ow 0 2 = true) (h2 : ib p.si 0 2 = true) (h3 : ib p.zo 1 4 = true) (h4 : ib p.st 0 9999 = true) (h5 : ib p.po 0 999 = false) :
    Calls Try.prog 28 #[(.agg #[.int .i64 p.id, .int .i64 p.ow, .int .i64 p.si, .int .i64 p.zo, .int .i64 p.st, .int .i64 p.po, .int .i64 p.to, .int .i64 p.tr, .int .i64 p.pl, .int .i64 p.mi, .int .i64 p.ma, .bool p.de, .bool p.be])] w fun e w' => e = .returned (.bool (okP p)) ∧ Below w.heap.size w w' := by
  have HP : Hid (okP p = false) := by
    show okP p = false
    unfold okP okA; rw [h5]; simp
  go_enter Try.func28, Try.ntmps28
  try simp only [List.append_eq, List.cons_append, List.nil_append]
  go_wp2_with (go_at_call 83; refine (l1In_any _ _ _ _).mono ?_; rintro e w' ⟨rfl, rfl⟩)
  go_ret
  first
    | exact ⟨ret_bool' HP.out.symm, (Below.refl _ w).alloc (Nat.le_refl _) _⟩
    | (refine ⟨ret_bool' ?_, (Below.refl _ w).alloc (Nat.le_refl _) _⟩; rw [HP.out]; simp [*])
set_option maxHeartbeats 4000000 in
theorem pok_6 (p : Pc) (w : World) (h0 : ib p.id 1 99 = true) (h1 : ib p.ow 0 2 = true) (h2 : ib p.si 0 2 = true) (h3 : ib p.zo 1 4 = true) (h4 : ib p.st 0 9999 = true) (h5 : ib p.po 0 999 = true) (h6 : ib p.to 0 999 = false) :
    Calls Try.prog 28 #[(.agg #[.int .i64 p.id, .int .i64 p.ow, .int .i64 p.si, .int .i64 p.zo, .int .i64 p.st, .int .i64 p.po, .int .i64 p.to, .int .i64 p.tr, .int .i64 p.pl, .int .i64 p.mi, .int .i64 p.ma, .bool p.de, .bool p.be])] w fun e w' => e = .returned (.bool (okP p)) ∧ Below w.heap.size w w' := by
  have HP : Hid (okP p = false) := by
    show okP p = false
    unfold okP okA; rw [h6]; simp
  go_enter Try.func28, Try.ntmps28
  try simp only [List.append_eq, List.cons_append, List.nil_append]
  go_wp2_with (go_at_call 83; refine (l1In_any _ _ _ _).mono ?_; rintro e w' ⟨rfl, rfl⟩)
  go_ret
  first
    | exact ⟨ret_bool' HP.out.symm, (Below.refl _ w).alloc (Nat.le_refl _) _⟩
    | (refine ⟨ret_bool' ?_, (Below.refl _ w).alloc (Nat.le_refl _) _⟩; rw [HP.out]; simp [*])
set_option maxHeartbeats 4000000 in
theorem pok_7 (p : Pc) (w : World) (h0 : ib p.id 1 99 = true) (h1 : ib p.ow 0 2 = true) (h2 : ib p.si 0 2 = true) (h3 : ib p.zo 1 4 = true) (h4 : ib p.st 0 9999 = true) (h5 : ib p.po 0 999 = true) (h6 : ib p.to 0 999 = true) (h7 : ib p.tr 0 63 = false) :
    Calls Try.prog 28 #[(.agg #[.int .i64 p.id, .int .i64 p.ow, .int .i64 p.si, .int .i64 p.zo, .int .i64 p.st, .int .i64 p.po, .int .i64 p.to, .int .i64 p.tr, .int .i64 p.pl, .int .i64 p.mi, .int .i64 p.ma, .bool p.de, .bool p.be])] w fun e w' => e = .returned (.bool (okP p)) ∧ Below w.heap.size w w' := by
  have HP : Hid (okP p = false) := by
    show okP p = false
    unfold okP okA; rw [h7]; simp
  go_enter Try.func28, Try.ntmps28
  try simp only [List.append_eq, List.cons_append, List.nil_append]
  go_wp2_with (go_at_call 83; refine (l1In_any _ _ _ _).mono ?_; rintro e w' ⟨rfl, rfl⟩)
  go_ret
  first
    | exact ⟨ret_bool' HP.out.symm, (Below.refl _ w).alloc (Nat.le_refl _) _⟩
    | (refine ⟨ret_bool' ?_, (Below.refl _ w).alloc (Nat.le_refl _) _⟩; rw [HP.out]; simp [*])
set_option maxHeartbeats 4000000 in
theorem pok_8 (p : Pc) (w : World) (h0 : ib p.id 1 99 = true) (h1 : ib p.ow 0 2 = true) (h2 : ib p.si 0 2 = true) (h3 : ib p.zo 1 4 = true) (h4 : ib p.st 0 9999 = true) (h5 : ib p.po 0 999 = true) (h6 : ib p.to 0 999 = true) (h7 : ib p.tr 0 63 = true) (h8 : ib p.pl 0 2147483647 = false) :
    Calls Try.prog 28 #[(.agg #[.int .i64 p.id, .int .i64 p.ow, .int .i64 p.si, .int .i64 p.zo, .int .i64 p.st, .int .i64 p.po, .int .i64 p.to, .int .i64 p.tr, .int .i64 p.pl, .int .i64 p.mi, .int .i64 p.ma, .bool p.de, .bool p.be])] w fun e w' => e = .returned (.bool (okP p)) ∧ Below w.heap.size w w' := by
  have HP : Hid (okP p = false) := by
    show okP p = false
    unfold okP okB; rw [h8]; simp
  go_enter Try.func28, Try.ntmps28
  try simp only [List.append_eq, List.cons_append, List.nil_append]
  go_wp2_with (go_at_call 83; refine (l1In_any _ _ _ _).mono ?_; rintro e w' ⟨rfl, rfl⟩)
  go_ret
  first
    | exact ⟨ret_bool' HP.out.symm, (Below.refl _ w).alloc (Nat.le_refl _) _⟩
    | (refine ⟨ret_bool' ?_, (Below.refl _ w).alloc (Nat.le_refl _) _⟩; rw [HP.out]; simp [*])
set_option maxHeartbeats 4000000 in
theorem pok_9 (p : Pc) (w : World) (h0 : ib p.id 1 99 = true) (h1 : ib p.ow 0 2 = true) (h2 : ib p.si 0 2 = true) (h3 : ib p.zo 1 4 = true) (h4 : ib p.st 0 9999 = true) (h5 : ib p.po 0 999 = true) (h6 : ib p.to 0 999 = true) (h7 : ib p.tr 0 63 = true) (h8 : ib p.pl 0 2147483647 = true) (h9 : ib p.mi 0 2147483647 = false) :
    Calls Try.prog 28 #[(.agg #[.int .i64 p.id, .int .i64 p.ow, .int .i64 p.si, .int .i64 p.zo, .int .i64 p.st, .int .i64 p.po, .int .i64 p.to, .int .i64 p.tr, .int .i64 p.pl, .int .i64 p.mi, .int .i64 p.ma, .bool p.de, .bool p.be])] w fun e w' => e = .returned (.bool (okP p)) ∧ Below w.heap.size w w' := by
  have HP : Hid (okP p = false) := by
    show okP p = false
    unfold okP okB; rw [h9]; simp
  go_enter Try.func28, Try.ntmps28
  try simp only [List.append_eq, List.cons_append, List.nil_append]
  go_wp2_with (go_at_call 83; refine (l1In_any _ _ _ _).mono ?_; rintro e w' ⟨rfl, rfl⟩)
  go_ret
  first
    | exact ⟨ret_bool' HP.out.symm, (Below.refl _ w).alloc (Nat.le_refl _) _⟩
    | (refine ⟨ret_bool' ?_, (Below.refl _ w).alloc (Nat.le_refl _) _⟩; rw [HP.out]; simp [*])
set_option maxHeartbeats 4000000 in
theorem pok_10 (p : Pc) (w : World) (h0 : ib p.id 1 99 = true) (h1 : ib p.ow 0 2 = true) (h2 : ib p.si 0 2 = true) (h3 : ib p.zo 1 4 = true) (h4 : ib p.st 0 9999 = true) (h5 : ib p.po 0 999 = true) (h6 : ib p.to 0 999 = true) (h7 : ib p.tr 0 63 = true) (h8 : ib p.pl 0 2147483647 = true) (h9 : ib p.mi 0 2147483647 = true) (h10 : ib p.ma 0 2147483647 = false) :
    Calls Try.prog 28 #[(.agg #[.int .i64 p.id, .int .i64 p.ow, .int .i64 p.si, .int .i64 p.zo, .int .i64 p.st, .int .i64 p.po, .int .i64 p.to, .int .i64 p.tr, .int .i64 p.pl, .int .i64 p.mi, .int .i64 p.ma, .bool p.de, .bool p.be])] w fun e w' => e = .returned (.bool (okP p)) ∧ Below w.heap.size w w' := by
  have HP : Hid (okP p = false) := by
    show okP p = false
    unfold okP okB; rw [h10]; simp
  go_enter Try.func28, Try.ntmps28
  try simp only [List.append_eq, List.cons_append, List.nil_append]
  go_wp2_with (go_at_call 83; refine (l1In_any _ _ _ _).mono ?_; rintro e w' ⟨rfl, rfl⟩)
  go_ret
  first
    | exact ⟨ret_bool' HP.out.symm, (Below.refl _ w).alloc (Nat.le_refl _) _⟩
    | (refine ⟨ret_bool' ?_, (Below.refl _ w).alloc (Nat.le_refl _) _⟩; rw [HP.out]; simp [*])
set_option maxHeartbeats 4000000 in
theorem pok_z (p : Pc) (w : World) (h0 : ib p.id 1 99 = true) (h1 : ib p.ow 0 2 = true) (h2 : ib p.si 0 2 = true) (h3 : ib p.zo 1 4 = true) (h4 : ib p.st 0 9999 = true) (h5 : ib p.po 0 999 = true) (h6 : ib p.to 0 999 = true) (h7 : ib p.tr 0 63 = true) (h8 : ib p.pl 0 2147483647 = true) (h9 : ib p.mi 0 2147483647 = true) (h10 : ib p.ma 0 2147483647 = true) (hz : p.zo = 2) :
    Calls Try.prog 28 #[(.agg #[.int .i64 p.id, .int .i64 p.ow, .int .i64 p.si, .int .i64 p.zo, .int .i64 p.st, .int .i64 p.po, .int .i64 p.to, .int .i64 p.tr, .int .i64 p.pl, .int .i64 p.mi, .int .i64 p.ma, .bool p.de, .bool p.be])] w fun e w' => e = .returned (.bool (okP p)) ∧ Below w.heap.size w w' := by
  have HP : Hid (okP p = true) := by
    show okP p = true
    unfold okP okA okB; rw [h0, h1, h2, h3, h4, h5, h6, h7, h8, h9, h10]; simp [okC, hz]
  go_enter Try.func28, Try.ntmps28
  try simp only [List.append_eq, List.cons_append, List.nil_append]
  go_wp2_with (go_at_call 83; refine (l1In_any _ _ _ _).mono ?_; rintro e w' ⟨rfl, rfl⟩)
  go_ret
  first
    | exact ⟨ret_bool' HP.out.symm, (Below.refl _ w).alloc (Nat.le_refl _) _⟩
    | (refine ⟨ret_bool' ?_, (Below.refl _ w).alloc (Nat.le_refl _) _⟩; rw [HP.out]; simp [*])
set_option maxHeartbeats 4000000 in
theorem pok_s (p : Pc) (w : World) (h0 : ib p.id 1 99 = true) (h1 : ib p.ow 0 2 = true) (h2 : ib p.si 0 2 = true) (h3 : ib p.zo 1 4 = true) (h4 : ib p.st 0 9999 = true) (h5 : ib p.po 0 999 = true) (h6 : ib p.to 0 999 = true) (h7 : ib p.tr 0 63 = true) (h8 : ib p.pl 0 2147483647 = true) (h9 : ib p.mi 0 2147483647 = true) (h10 : ib p.ma 0 2147483647 = true) (hz : ¬ p.zo = 2) (hs : ¬ p.si = p.ow) :
    Calls Try.prog 28 #[(.agg #[.int .i64 p.id, .int .i64 p.ow, .int .i64 p.si, .int .i64 p.zo, .int .i64 p.st, .int .i64 p.po, .int .i64 p.to, .int .i64 p.tr, .int .i64 p.pl, .int .i64 p.mi, .int .i64 p.ma, .bool p.de, .bool p.be])] w fun e w' => e = .returned (.bool (okP p)) ∧ Below w.heap.size w w' := by
  have HP : Hid (okP p = false) := by
    show okP p = false
    unfold okP okA okB; rw [h0, h1, h2, h3, h4, h5, h6, h7, h8, h9, h10]; simp [okC, hz, hs]
  go_enter Try.func28, Try.ntmps28
  try simp only [List.append_eq, List.cons_append, List.nil_append]
  go_wp2_with (go_at_call 83; refine (l1In_any _ _ _ _).mono ?_; rintro e w' ⟨rfl, rfl⟩)
  go_ret
  first
    | exact ⟨ret_bool' HP.out.symm, (Below.refl _ w).alloc (Nat.le_refl _) _⟩
    | (refine ⟨ret_bool' ?_, (Below.refl _ w).alloc (Nat.le_refl _) _⟩; rw [HP.out]; simp [*])
set_option maxHeartbeats 4000000 in
theorem pok_p (p : Pc) (w : World) (h0 : ib p.id 1 99 = true) (h1 : ib p.ow 0 2 = true) (h2 : ib p.si 0 2 = true) (h3 : ib p.zo 1 4 = true) (h4 : ib p.st 0 9999 = true) (h5 : ib p.po 0 999 = true) (h6 : ib p.to 0 999 = true) (h7 : ib p.tr 0 63 = true) (h8 : ib p.pl 0 2147483647 = true) (h9 : ib p.mi 0 2147483647 = true) (h10 : ib p.ma 0 2147483647 = true) (hz : ¬ p.zo = 2) (hs : p.si = p.ow) (hp : ¬ p.pl = 0) :
    Calls Try.prog 28 #[(.agg #[.int .i64 p.id, .int .i64 p.ow, .int .i64 p.si, .int .i64 p.zo, .int .i64 p.st, .int .i64 p.po, .int .i64 p.to, .int .i64 p.tr, .int .i64 p.pl, .int .i64 p.mi, .int .i64 p.ma, .bool p.de, .bool p.be])] w fun e w' => e = .returned (.bool (okP p)) ∧ Below w.heap.size w w' := by
  have HP : Hid (okP p = false) := by
    show okP p = false
    unfold okP okA okB; rw [h0, h1, h2, h3, h4, h5, h6, h7, h8, h9, h10]; simp [okC, hz, hs, hp]
  go_enter Try.func28, Try.ntmps28
  try simp only [List.append_eq, List.cons_append, List.nil_append]
  go_wp2_with (go_at_call 83; refine (l1In_any _ _ _ _).mono ?_; rintro e w' ⟨rfl, rfl⟩)
  go_ret
  first
    | exact ⟨ret_bool' HP.out.symm, (Below.refl _ w).alloc (Nat.le_refl _) _⟩
    | (refine ⟨ret_bool' ?_, (Below.refl _ w).alloc (Nat.le_refl _) _⟩; rw [HP.out]; simp [*])
set_option maxHeartbeats 4000000 in
theorem pok_m (p : Pc) (w : World) (h0 : ib p.id 1 99 = true) (h1 : ib p.ow 0 2 = true) (h2 : ib p.si 0 2 = true) (h3 : ib p.zo 1 4 = true) (h4 : ib p.st 0 9999 = true) (h5 : ib p.po 0 999 = true) (h6 : ib p.to 0 999 = true) (h7 : ib p.tr 0 63 = true) (h8 : ib p.pl 0 2147483647 = true) (h9 : ib p.mi 0 2147483647 = true) (h10 : ib p.ma 0 2147483647 = true) (hz : ¬ p.zo = 2) (hs : p.si = p.ow) (hp : p.pl = 0) (hm : ¬ p.mi = 0) :
    Calls Try.prog 28 #[(.agg #[.int .i64 p.id, .int .i64 p.ow, .int .i64 p.si, .int .i64 p.zo, .int .i64 p.st, .int .i64 p.po, .int .i64 p.to, .int .i64 p.tr, .int .i64 p.pl, .int .i64 p.mi, .int .i64 p.ma, .bool p.de, .bool p.be])] w fun e w' => e = .returned (.bool (okP p)) ∧ Below w.heap.size w w' := by
  have HP : Hid (okP p = false) := by
    show okP p = false
    unfold okP okA okB; rw [h0, h1, h2, h3, h4, h5, h6, h7, h8, h9, h10]; simp [okC, hz, hs, hp, hm]
  go_enter Try.func28, Try.ntmps28
  try simp only [List.append_eq, List.cons_append, List.nil_append]
  go_wp2_with (go_at_call 83; refine (l1In_any _ _ _ _).mono ?_; rintro e w' ⟨rfl, rfl⟩)
  go_ret
  first
    | exact ⟨ret_bool' HP.out.symm, (Below.refl _ w).alloc (Nat.le_refl _) _⟩
    | (refine ⟨ret_bool' ?_, (Below.refl _ w).alloc (Nat.le_refl _) _⟩; rw [HP.out]; simp [*])
set_option maxHeartbeats 4000000 in
theorem pok_k (p : Pc) (w : World) (h0 : ib p.id 1 99 = true) (h1 : ib p.ow 0 2 = true) (h2 : ib p.si 0 2 = true) (h3 : ib p.zo 1 4 = true) (h4 : ib p.st 0 9999 = true) (h5 : ib p.po 0 999 = true) (h6 : ib p.to 0 999 = true) (h7 : ib p.tr 0 63 = true) (h8 : ib p.pl 0 2147483647 = true) (h9 : ib p.mi 0 2147483647 = true) (h10 : ib p.ma 0 2147483647 = true) (hz : ¬ p.zo = 2) (hs : p.si = p.ow) (hp : p.pl = 0) (hm : p.mi = 0) (hk : ¬ p.ma = 0) :
    Calls Try.prog 28 #[(.agg #[.int .i64 p.id, .int .i64 p.ow, .int .i64 p.si, .int .i64 p.zo, .int .i64 p.st, .int .i64 p.po, .int .i64 p.to, .int .i64 p.tr, .int .i64 p.pl, .int .i64 p.mi, .int .i64 p.ma, .bool p.de, .bool p.be])] w fun e w' => e = .returned (.bool (okP p)) ∧ Below w.heap.size w w' := by
  have HP : Hid (okP p = false) := by
    show okP p = false
    unfold okP okA okB; rw [h0, h1, h2, h3, h4, h5, h6, h7, h8, h9, h10]; simp [okC, hz, hs, hp, hm, hk]
  go_enter Try.func28, Try.ntmps28
  try simp only [List.append_eq, List.cons_append, List.nil_append]
  go_wp2_with (go_at_call 83; refine (l1In_any _ _ _ _).mono ?_; rintro e w' ⟨rfl, rfl⟩)
  go_ret
  first
    | exact ⟨ret_bool' HP.out.symm, (Below.refl _ w).alloc (Nat.le_refl _) _⟩
    | (refine ⟨ret_bool' ?_, (Below.refl _ w).alloc (Nat.le_refl _) _⟩; rw [HP.out]; simp [*])
set_option maxHeartbeats 4000000 in
theorem pok_d (p : Pc) (w : World) (h0 : ib p.id 1 99 = true) (h1 : ib p.ow 0 2 = true) (h2 : ib p.si 0 2 = true) (h3 : ib p.zo 1 4 = true) (h4 : ib p.st 0 9999 = true) (h5 : ib p.po 0 999 = true) (h6 : ib p.to 0 999 = true) (h7 : ib p.tr 0 63 = true) (h8 : ib p.pl 0 2147483647 = true) (h9 : ib p.mi 0 2147483647 = true) (h10 : ib p.ma 0 2147483647 = true) (hz : ¬ p.zo = 2) (hs : p.si = p.ow) (hp : p.pl = 0) (hm : p.mi = 0) (hk : p.ma = 0) (hd : p.de = true) :
    Calls Try.prog 28 #[(.agg #[.int .i64 p.id, .int .i64 p.ow, .int .i64 p.si, .int .i64 p.zo, .int .i64 p.st, .int .i64 p.po, .int .i64 p.to, .int .i64 p.tr, .int .i64 p.pl, .int .i64 p.mi, .int .i64 p.ma, .bool p.de, .bool p.be])] w fun e w' => e = .returned (.bool (okP p)) ∧ Below w.heap.size w w' := by
  have HP : Hid (okP p = false) := by
    show okP p = false
    unfold okP okA okB; rw [h0, h1, h2, h3, h4, h5, h6, h7, h8, h9, h10]; simp [okC, hz, hs, hp, hm, hk, hd]
  go_enter Try.func28, Try.ntmps28
  try simp only [List.append_eq, List.cons_append, List.nil_append]
  go_wp2_with (go_at_call 83; refine (l1In_any _ _ _ _).mono ?_; rintro e w' ⟨rfl, rfl⟩)
  go_ret
  first
    | exact ⟨ret_bool' HP.out.symm, (Below.refl _ w).alloc (Nat.le_refl _) _⟩
    | (refine ⟨ret_bool' ?_, (Below.refl _ w).alloc (Nat.le_refl _) _⟩; rw [HP.out]; simp [*])
set_option maxHeartbeats 4000000 in
theorem pok_b (p : Pc) (w : World) (h0 : ib p.id 1 99 = true) (h1 : ib p.ow 0 2 = true) (h2 : ib p.si 0 2 = true) (h3 : ib p.zo 1 4 = true) (h4 : ib p.st 0 9999 = true) (h5 : ib p.po 0 999 = true) (h6 : ib p.to 0 999 = true) (h7 : ib p.tr 0 63 = true) (h8 : ib p.pl 0 2147483647 = true) (h9 : ib p.mi 0 2147483647 = true) (h10 : ib p.ma 0 2147483647 = true) (hz : ¬ p.zo = 2) (hs : p.si = p.ow) (hp : p.pl = 0) (hm : p.mi = 0) (hk : p.ma = 0) (hd : p.de = false) (hb : p.be = true) :
    Calls Try.prog 28 #[(.agg #[.int .i64 p.id, .int .i64 p.ow, .int .i64 p.si, .int .i64 p.zo, .int .i64 p.st, .int .i64 p.po, .int .i64 p.to, .int .i64 p.tr, .int .i64 p.pl, .int .i64 p.mi, .int .i64 p.ma, .bool p.de, .bool p.be])] w fun e w' => e = .returned (.bool (okP p)) ∧ Below w.heap.size w w' := by
  have HP : Hid (okP p = false) := by
    show okP p = false
    unfold okP okA okB; rw [h0, h1, h2, h3, h4, h5, h6, h7, h8, h9, h10]; simp [okC, hz, hs, hp, hm, hk, hd, hb]
  go_enter Try.func28, Try.ntmps28
  try simp only [List.append_eq, List.cons_append, List.nil_append]
  go_wp2_with (go_at_call 83; refine (l1In_any _ _ _ _).mono ?_; rintro e w' ⟨rfl, rfl⟩)
  go_ret
  first
    | exact ⟨ret_bool' HP.out.symm, (Below.refl _ w).alloc (Nat.le_refl _) _⟩
    | (refine ⟨ret_bool' ?_, (Below.refl _ w).alloc (Nat.le_refl _) _⟩; rw [HP.out]; simp [*])
set_option maxHeartbeats 4000000 in
theorem pok_all (p : Pc) (w : World) (h0 : ib p.id 1 99 = true) (h1 : ib p.ow 0 2 = true) (h2 : ib p.si 0 2 = true) (h3 : ib p.zo 1 4 = true) (h4 : ib p.st 0 9999 = true) (h5 : ib p.po 0 999 = true) (h6 : ib p.to 0 999 = true) (h7 : ib p.tr 0 63 = true) (h8 : ib p.pl 0 2147483647 = true) (h9 : ib p.mi 0 2147483647 = true) (h10 : ib p.ma 0 2147483647 = true) (hz : ¬ p.zo = 2) (hs : p.si = p.ow) (hp : p.pl = 0) (hm : p.mi = 0) (hk : p.ma = 0) (hd : p.de = false) (hb : p.be = false) :
    Calls Try.prog 28 #[(.agg #[.int .i64 p.id, .int .i64 p.ow, .int .i64 p.si, .int .i64 p.zo, .int .i64 p.st, .int .i64 p.po, .int .i64 p.to, .int .i64 p.tr, .int .i64 p.pl, .int .i64 p.mi, .int .i64 p.ma, .bool p.de, .bool p.be])] w fun e w' => e = .returned (.bool (okP p)) ∧ Below w.heap.size w w' := by
  have HP : Hid (okP p = true) := by
    show okP p = true
    unfold okP okA okB; rw [h0, h1, h2, h3, h4, h5, h6, h7, h8, h9, h10]; simp [okC, hs, hp, hm, hk, hd, hb]
  go_enter Try.func28, Try.ntmps28
  try simp only [List.append_eq, List.cons_append, List.nil_append]
  go_wp2_with (go_at_call 83; refine (l1In_any _ _ _ _).mono ?_; rintro e w' ⟨rfl, rfl⟩)
  go_ret
  first
    | exact ⟨ret_bool' HP.out.symm, (Below.refl _ w).alloc (Nat.le_refl _) _⟩
    | (refine ⟨ret_bool' ?_, (Below.refl _ w).alloc (Nat.le_refl _) _⟩; rw [HP.out]; simp [*])
theorem specPieceOk_any (p : Pc) (w : World) : Calls Try.prog 28 #[(.agg #[.int .i64 p.id, .int .i64 p.ow, .int .i64 p.si, .int .i64 p.zo, .int .i64 p.st, .int .i64 p.po, .int .i64 p.to, .int .i64 p.tr, .int .i64 p.pl, .int .i64 p.mi, .int .i64 p.ma, .bool p.de, .bool p.be])] w fun e w' => e = .returned (.bool (okP p)) ∧ Below w.heap.size w w' := by
  cases h0 : ib p.id 1 99 with
  | false => exact pok_0 p w h0
  | true =>
  cases h1 : ib p.ow 0 2 with
  | false => exact pok_1 p w h0 h1
  | true =>
  cases h2 : ib p.si 0 2 with
  | false => exact pok_2 p w h0 h1 h2
  | true =>
  cases h3 : ib p.zo 1 4 with
  | false => exact pok_3 p w h0 h1 h2 h3
  | true =>
  cases h4 : ib p.st 0 9999 with
  | false => exact pok_4 p w h0 h1 h2 h3 h4
  | true =>
  cases h5 : ib p.po 0 999 with
  | false => exact pok_5 p w h0 h1 h2 h3 h4 h5
  | true =>
  cases h6 : ib p.to 0 999 with
  | false => exact pok_6 p w h0 h1 h2 h3 h4 h5 h6
  | true =>
  cases h7 : ib p.tr 0 63 with
  | false => exact pok_7 p w h0 h1 h2 h3 h4 h5 h6 h7
  | true =>
  cases h8 : ib p.pl 0 2147483647 with
  | false => exact pok_8 p w h0 h1 h2 h3 h4 h5 h6 h7 h8
  | true =>
  cases h9 : ib p.mi 0 2147483647 with
  | false => exact pok_9 p w h0 h1 h2 h3 h4 h5 h6 h7 h8 h9
  | true =>
  cases h10 : ib p.ma 0 2147483647 with
  | false => exact pok_10 p w h0 h1 h2 h3 h4 h5 h6 h7 h8 h9 h10
  | true =>
  by_cases hz : p.zo = 2
  case pos => exact pok_z p w h0 h1 h2 h3 h4 h5 h6 h7 h8 h9 h10 hz
  by_cases hs : p.si = p.ow
  case neg => exact pok_s p w h0 h1 h2 h3 h4 h5 h6 h7 h8 h9 h10 hz hs
  by_cases hp : p.pl = 0
  case neg => exact pok_p p w h0 h1 h2 h3 h4 h5 h6 h7 h8 h9 h10 hz hs hp
  by_cases hm : p.mi = 0
  case neg => exact pok_m p w h0 h1 h2 h3 h4 h5 h6 h7 h8 h9 h10 hz hs hp hm
  by_cases hk : p.ma = 0
  case neg => exact pok_k p w h0 h1 h2 h3 h4 h5 h6 h7 h8 h9 h10 hz hs hp hm hk
  by_cases hd : p.de = true
  case pos => exact pok_d p w h0 h1 h2 h3 h4 h5 h6 h7 h8 h9 h10 hz hs hp hm hk hd
  replace hd : p.de = false := by simpa using hd
  by_cases hb : p.be = true
  case pos => exact pok_b p w h0 h1 h2 h3 h4 h5 h6 h7 h8 h9 h10 hz hs hp hm hk hd hb
  replace hb : p.be = false := by simpa using hb
  exact pok_all p w h0 h1 h2 h3 h4 h5 h6 h7 h8 h9 h10 hz hs hp hm hk hd hb
end Go.Proofs.Ytnlnledijpcjpab
