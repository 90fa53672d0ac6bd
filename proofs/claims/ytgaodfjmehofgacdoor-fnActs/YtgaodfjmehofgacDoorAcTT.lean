/-
  Chapter 9: what an act says (wdA, txA): the program's aimText, ActText. Written by tools/act.gen.py. Chapter 9: what an act says: the specification's ActText. Written by tools/act.gen.py. Own work.
-/
import Derived.Test.YtgaodfjmehofgacDoorEvT
import Derived.Test.YtgaodfjmehofgacDoorAcQ
namespace Go.Proofs.YtgaodfjmehofgacDoor
open Go.ChangeShapes Go.WideShapes Go.ChangeAt Go.RowKit
set_option maxRecDepth 100000
set_option linter.unusedVariables false
set_option linter.unusedSimpArgs false

/-- what an act turns onto, in words -/
def aiT (a : Ac) : ByteArray := if a.pi = 0 then say (⟨#[116, 117, 114, 110, 32, 115, 105, 100, 101]⟩ : ByteArray) (fn1 a.si) 1 else say (⟨#[116, 117, 114, 110, 32, 112, 105, 101, 99, 101]⟩ : ByteArray) (fn1 a.pi) 1
/-- the words of an act that may be -/
def wdA (a : Ac) : ByteArray :=
  if a.kd = 1 then (⟨#[115, 116, 111, 112]⟩ : ByteArray) else if a.kd = 2 then (⟨#[115, 104, 105, 101, 108, 100]⟩ : ByteArray) else if a.kd = 3 then say (⟨#[109, 111, 114, 101]⟩ : ByteArray) (fn1 a.nn) 1 else if a.kd = 4 then (⟨#[116, 119, 105, 99, 101]⟩ : ByteArray) else if a.kd = 5 then (⟨#[104, 97, 108, 102]⟩ : ByteArray)
  else if a.kd = 6 then aiT a else if a.kd = 7 then say (⟨#[122, 111, 110, 101]⟩ : ByteArray) (fn1 a.zo) 1 else if a.kd = 8 then say (⟨#[101, 110, 116, 101, 114]⟩ : ByteArray) (fn1 a.nn) 1 ++ bnB a.be else say (⟨#[112, 97, 114, 116, 115]⟩ : ByteArray) (fn1 a.ln) 1
/-- what an act says -/
def txA (a : Ac) : ByteArray := if okAc a = true then wdA a else ⟨#[]⟩
def Ac.in64 (a : Ac) : Prop := In64 a.nn ∧ In64 a.pi ∧ In64 a.si ∧ In64 a.zo
theorem Ac.ok.in64 {a : Ac} {w : World} (h : a.ok w) : a.in64 := by
  have k : ∀ x, (Lit.int .i64 x).wf = true → In64 x := fun x hx => bounds_i64 hx
  have h := h.2.2.2.1
  exact ⟨k _ (h _ (by simp)), k _ (h _ (by simp)), k _ (h _ (by simp)), k _ (h _ (by simp))⟩
theorem kd_ok {a : Ac} (h : okAc a = true) : a.kd = 1 ∨ a.kd = 2 ∨ a.kd = 3 ∨ a.kd = 4 ∨ a.kd = 5 ∨ a.kd = 6 ∨ a.kd = 7 ∨ a.kd = 8 ∨ a.kd = 9 := by
  by_cases h1 : a.kd = 1 <;> by_cases h2 : a.kd = 2 <;> by_cases h3 : a.kd = 3 <;> by_cases h4 : a.kd = 4 <;> by_cases h5 : a.kd = 5 <;> by_cases h6 : a.kd = 6 <;> by_cases h7 : a.kd = 7 <;> by_cases h8 : a.kd = 8 <;> by_cases h9 : a.kd = 9 <;> simp_all [okAc]
set_option maxHeartbeats 2000000 in
theorem aimText_any (a : Ac) (hi : a.in64) (w : World) (ht : Pow w) : Calls Tryd.prog 33 #[(.agg #[.int .i64 a.kd, .int .i64 a.nn, .int .i64 a.pi, .int .i64 a.si, .int .i64 a.zo, .bool a.be, .slice a.la a.ln a.lcap])] w fun r w' => r = .returned (.string (aiT a)) ∧ Below w.heap.size w w' := by
  have HB := (Below.refl _ w).alloc (Nat.le_refl _) (.cells #[.int .i64 a.kd, .int .i64 a.nn, .int .i64 a.pi, .int .i64 a.si, .int .i64 a.zo, .bool a.be, .slice a.la a.ln a.lcap] 26)
  have bx := boxR_new w 26 #[.int .i64 a.kd, .int .i64 a.nn, .int .i64 a.pi, .int .i64 a.si, .int .i64 a.zo, .bool a.be, .slice a.la a.ln a.lcap]
  generalize hW : w.alloc (.cells #[.int .i64 a.kd, .int .i64 a.nn, .int .i64 a.pi, .int .i64 a.si, .int .i64 a.zo, .bool a.be, .slice a.la a.ln a.lcap] 26) = W at HB bx
  have HT : Hid (∀ u : World, Below w.heap.size w u → Pow u) := fun u hu => ht.below hu
  clear ht
  have HI : Hid (In64 a.si ∧ In64 a.pi) := ⟨hi.2.2.1, hi.2.1⟩
  clear hi
  have c0 := bx.cell 0
  have c1 := bx.cell 1
  have c2 := bx.cell 2
  have c3 := bx.cell 3
  have c4 := bx.cell 4
  have c5 := bx.cell 5
  have c6 := bx.cell 6
  simp at c0 c1 c2 c3 c4 c5 c6
  by_cases hp : a.pi = 0
  · have HX : Hid (aiT a = say (⟨#[116, 117, 114, 110, 32, 115, 105, 100, 101]⟩ : ByteArray) (fn1 a.si) 1) := by show aiT a = _; unfold aiT; rw [if_pos hp]
    have q : (a.pi == 0) = true := by simpa using hp
    clear hp
    go_enter Tryd.func33, Tryd.ntmps33
    have bA := HB.alloc HB.size (.cells #[.int .i64 a.si] 3)
    have rA : Rd .i64 (W.alloc (.cells #[.int .i64 a.si] 3)) W.heap.size (some ⟨W.heap.size, 0, none⟩) 1 (fn1 a.si) := rd1_at (t := 3) (heap_alloc_new W _)
    have pA := HT.out _ bA
    have sz1 := say_size (⟨#[116, 117, 114, 110, 32, 115, 105, 100, 101]⟩ : ByteArray) (fn1 a.si) (by decide) (in_fn1 HI.out.1) 1
    go_wp2_with fail
    refine (said_any (⟨#[116, 117, 114, 110, 32, 115, 105, 100, 101]⟩ : ByteArray) _ 1 1 _ (fn1 a.si) _ (by omega) (by decide) (in_fn1 HI.out.1) rA pA).mono ?_
    rintro r v ⟨rfl, hbv⟩
    go_wp2
    go_ret
    exact ⟨by first | (rw [HX.out]; done) | (rw [HX.out]; rfl), below_app bA hbv bA.size⟩
  · have HX : Hid (aiT a = say (⟨#[116, 117, 114, 110, 32, 112, 105, 101, 99, 101]⟩ : ByteArray) (fn1 a.pi) 1) := by show aiT a = _; unfold aiT; rw [if_neg hp]
    have q : (a.pi == 0) = false := by simpa using hp
    clear hp
    go_enter Tryd.func33, Tryd.ntmps33
    have bA := HB.alloc HB.size (.cells #[.int .i64 a.pi] 3)
    have rA : Rd .i64 (W.alloc (.cells #[.int .i64 a.pi] 3)) W.heap.size (some ⟨W.heap.size, 0, none⟩) 1 (fn1 a.pi) := rd1_at (t := 3) (heap_alloc_new W _)
    have pA := HT.out _ bA
    have sz1 := say_size (⟨#[116, 117, 114, 110, 32, 112, 105, 101, 99, 101]⟩ : ByteArray) (fn1 a.pi) (by decide) (in_fn1 HI.out.2) 1
    go_wp2_with fail
    refine (said_any (⟨#[116, 117, 114, 110, 32, 112, 105, 101, 99, 101]⟩ : ByteArray) _ 1 1 _ (fn1 a.pi) _ (by omega) (by decide) (in_fn1 HI.out.2) rA pA).mono ?_
    rintro r v ⟨rfl, hbv⟩
    go_wp2
    go_ret
    exact ⟨by first | (rw [HX.out]; done) | (rw [HX.out]; rfl), below_app bA hbv bA.size⟩
set_option maxHeartbeats 2000000 in
theorem ati_bad (a : Ac) (w : World) (hok : a.ok w) (hn : a.ln ≤ 1048577) (hb : okAc a = false) (ht : Pow w) : Calls Tryd.prog 15 #[(.agg #[.int .i64 a.kd, .int .i64 a.nn, .int .i64 a.pi, .int .i64 a.si, .int .i64 a.zo, .bool a.be, .slice a.la a.ln a.lcap])] w fun r w' => r = .returned (.string (⟨#[]⟩ : ByteArray)) ∧ Below w.heap.size w w' := by
  have HO : Hid (∀ u : World, Below w.heap.size w u → Calls Tryd.prog 9 #[(.agg #[.int .i64 a.kd, .int .i64 a.nn, .int .i64 a.pi, .int .i64 a.si, .int .i64 a.zo, .bool a.be, .slice a.la a.ln a.lcap])] u fun r w' => r = .returned (.bool false) ∧ Below u.heap.size u w') := fun u hu => by have := implActOk_any a u (act_grew hok hu) hn; rw [hb] at this; exact this
  have HT : Hid (∀ u : World, Below w.heap.size w u → Pow u) := fun u hu => ht.below hu
  clear ht
  have HI : Hid a.in64 := hok.in64
  clear hb hok
  have HB := (Below.refl _ w).alloc (Nat.le_refl _) (.cells #[.int .i64 a.kd, .int .i64 a.nn, .int .i64 a.pi, .int .i64 a.si, .int .i64 a.zo, .bool a.be, .slice a.la a.ln a.lcap] 26)
  have bx := boxR_new w 26 #[.int .i64 a.kd, .int .i64 a.nn, .int .i64 a.pi, .int .i64 a.si, .int .i64 a.zo, .bool a.be, .slice a.la a.ln a.lcap]
  generalize hW : w.alloc (.cells #[.int .i64 a.kd, .int .i64 a.nn, .int .i64 a.pi, .int .i64 a.si, .int .i64 a.zo, .bool a.be, .slice a.la a.ln a.lcap] 26) = W at HB bx
  have c0 := bx.cell 0
  have c1 := bx.cell 1
  have c2 := bx.cell 2
  have c3 := bx.cell 3
  have c4 := bx.cell 4
  have c5 := bx.cell 5
  have c6 := bx.cell 6
  simp at c0 c1 c2 c3 c4 c5 c6
  go_enter Tryd.func15, Tryd.ntmps15
  go_wp2_with fail
  refine (HO.out _ HB).mono ?_
  rintro r w1 ⟨rfl, hb1⟩
  replace bx := bx.grew hb1
  replace HB := below_app HB hb1 HB.size
  clear hW hb1 c0 c1 c2 c3 c4 c5 c6
  have d0 := bx.cell 0
  have d1 := bx.cell 1
  have d2 := bx.cell 2
  have d3 := bx.cell 3
  have d4 := bx.cell 4
  have d5 := bx.cell 5
  have d6 := bx.cell 6
  simp at d0 d1 d2 d3 d4 d5 d6
  go_wp2
  go_ret
  exact ⟨rfl, HB⟩
set_option maxHeartbeats 2000000 in
theorem ati_1 (a : Ac) (w : World) (hok : a.ok w) (hn : a.ln ≤ 1048577) (hb : okAc a = true) (hk : a.kd = 1) (ht : Pow w) : Calls Tryd.prog 15 #[(.agg #[.int .i64 a.kd, .int .i64 a.nn, .int .i64 a.pi, .int .i64 a.si, .int .i64 a.zo, .bool a.be, .slice a.la a.ln a.lcap])] w fun r w' => r = .returned (.string (⟨#[115, 116, 111, 112]⟩ : ByteArray)) ∧ Below w.heap.size w w' := by
  have HO : Hid (∀ u : World, Below w.heap.size w u → Calls Tryd.prog 9 #[(.agg #[.int .i64 a.kd, .int .i64 a.nn, .int .i64 a.pi, .int .i64 a.si, .int .i64 a.zo, .bool a.be, .slice a.la a.ln a.lcap])] u fun r w' => r = .returned (.bool true) ∧ Below u.heap.size u w') := fun u hu => by have := implActOk_any a u (act_grew hok hu) hn; rw [hb] at this; exact this
  have HT : Hid (∀ u : World, Below w.heap.size w u → Pow u) := fun u hu => ht.below hu
  clear ht
  have HI : Hid a.in64 := hok.in64
  clear hb hok
  have HK : Hid (a.kd = 1) := hk
  clear hk
  have HB := (Below.refl _ w).alloc (Nat.le_refl _) (.cells #[.int .i64 a.kd, .int .i64 a.nn, .int .i64 a.pi, .int .i64 a.si, .int .i64 a.zo, .bool a.be, .slice a.la a.ln a.lcap] 26)
  have bx := boxR_new w 26 #[.int .i64 a.kd, .int .i64 a.nn, .int .i64 a.pi, .int .i64 a.si, .int .i64 a.zo, .bool a.be, .slice a.la a.ln a.lcap]
  generalize hW : w.alloc (.cells #[.int .i64 a.kd, .int .i64 a.nn, .int .i64 a.pi, .int .i64 a.si, .int .i64 a.zo, .bool a.be, .slice a.la a.ln a.lcap] 26) = W at HB bx
  have c0 := bx.cell 0
  have c1 := bx.cell 1
  have c2 := bx.cell 2
  have c3 := bx.cell 3
  have c4 := bx.cell 4
  have c5 := bx.cell 5
  have c6 := bx.cell 6
  simp at c0 c1 c2 c3 c4 c5 c6
  go_enter Tryd.func15, Tryd.ntmps15
  go_wp2_with fail
  refine (HO.out _ HB).mono ?_
  rintro r w1 ⟨rfl, hb1⟩
  replace bx := bx.grew hb1
  replace HB := below_app HB hb1 HB.size
  clear hW hb1 c0 c1 c2 c3 c4 c5 c6
  have q0 : (a.kd : Int) = 1 := HK.out
  have d0 := bx.cell 0
  have d1 := bx.cell 1
  have d2 := bx.cell 2
  have d3 := bx.cell 3
  have d4 := bx.cell 4
  have d5 := bx.cell 5
  have d6 := bx.cell 6
  simp at d0 d1 d2 d3 d4 d5 d6
  rw [q0] at d0
  go_wp2
  go_ret
  exact ⟨rfl, HB⟩
set_option maxHeartbeats 2000000 in
theorem ati_2 (a : Ac) (w : World) (hok : a.ok w) (hn : a.ln ≤ 1048577) (hb : okAc a = true) (hk : a.kd = 2) (ht : Pow w) : Calls Tryd.prog 15 #[(.agg #[.int .i64 a.kd, .int .i64 a.nn, .int .i64 a.pi, .int .i64 a.si, .int .i64 a.zo, .bool a.be, .slice a.la a.ln a.lcap])] w fun r w' => r = .returned (.string (⟨#[115, 104, 105, 101, 108, 100]⟩ : ByteArray)) ∧ Below w.heap.size w w' := by
  have HO : Hid (∀ u : World, Below w.heap.size w u → Calls Tryd.prog 9 #[(.agg #[.int .i64 a.kd, .int .i64 a.nn, .int .i64 a.pi, .int .i64 a.si, .int .i64 a.zo, .bool a.be, .slice a.la a.ln a.lcap])] u fun r w' => r = .returned (.bool true) ∧ Below u.heap.size u w') := fun u hu => by have := implActOk_any a u (act_grew hok hu) hn; rw [hb] at this; exact this
  have HT : Hid (∀ u : World, Below w.heap.size w u → Pow u) := fun u hu => ht.below hu
  clear ht
  have HI : Hid a.in64 := hok.in64
  clear hb hok
  have HK : Hid (a.kd = 2) := hk
  clear hk
  have HB := (Below.refl _ w).alloc (Nat.le_refl _) (.cells #[.int .i64 a.kd, .int .i64 a.nn, .int .i64 a.pi, .int .i64 a.si, .int .i64 a.zo, .bool a.be, .slice a.la a.ln a.lcap] 26)
  have bx := boxR_new w 26 #[.int .i64 a.kd, .int .i64 a.nn, .int .i64 a.pi, .int .i64 a.si, .int .i64 a.zo, .bool a.be, .slice a.la a.ln a.lcap]
  generalize hW : w.alloc (.cells #[.int .i64 a.kd, .int .i64 a.nn, .int .i64 a.pi, .int .i64 a.si, .int .i64 a.zo, .bool a.be, .slice a.la a.ln a.lcap] 26) = W at HB bx
  have c0 := bx.cell 0
  have c1 := bx.cell 1
  have c2 := bx.cell 2
  have c3 := bx.cell 3
  have c4 := bx.cell 4
  have c5 := bx.cell 5
  have c6 := bx.cell 6
  simp at c0 c1 c2 c3 c4 c5 c6
  go_enter Tryd.func15, Tryd.ntmps15
  go_wp2_with fail
  refine (HO.out _ HB).mono ?_
  rintro r w1 ⟨rfl, hb1⟩
  replace bx := bx.grew hb1
  replace HB := below_app HB hb1 HB.size
  clear hW hb1 c0 c1 c2 c3 c4 c5 c6
  have q0 : (a.kd : Int) = 2 := HK.out
  have d0 := bx.cell 0
  have d1 := bx.cell 1
  have d2 := bx.cell 2
  have d3 := bx.cell 3
  have d4 := bx.cell 4
  have d5 := bx.cell 5
  have d6 := bx.cell 6
  simp at d0 d1 d2 d3 d4 d5 d6
  rw [q0] at d0
  go_wp2
  go_ret
  exact ⟨rfl, HB⟩
set_option maxHeartbeats 2000000 in
theorem ati_4 (a : Ac) (w : World) (hok : a.ok w) (hn : a.ln ≤ 1048577) (hb : okAc a = true) (hk : a.kd = 4) (ht : Pow w) : Calls Tryd.prog 15 #[(.agg #[.int .i64 a.kd, .int .i64 a.nn, .int .i64 a.pi, .int .i64 a.si, .int .i64 a.zo, .bool a.be, .slice a.la a.ln a.lcap])] w fun r w' => r = .returned (.string (⟨#[116, 119, 105, 99, 101]⟩ : ByteArray)) ∧ Below w.heap.size w w' := by
  have HO : Hid (∀ u : World, Below w.heap.size w u → Calls Tryd.prog 9 #[(.agg #[.int .i64 a.kd, .int .i64 a.nn, .int .i64 a.pi, .int .i64 a.si, .int .i64 a.zo, .bool a.be, .slice a.la a.ln a.lcap])] u fun r w' => r = .returned (.bool true) ∧ Below u.heap.size u w') := fun u hu => by have := implActOk_any a u (act_grew hok hu) hn; rw [hb] at this; exact this
  have HT : Hid (∀ u : World, Below w.heap.size w u → Pow u) := fun u hu => ht.below hu
  clear ht
  have HI : Hid a.in64 := hok.in64
  clear hb hok
  have HK : Hid (a.kd = 4) := hk
  clear hk
  have HB := (Below.refl _ w).alloc (Nat.le_refl _) (.cells #[.int .i64 a.kd, .int .i64 a.nn, .int .i64 a.pi, .int .i64 a.si, .int .i64 a.zo, .bool a.be, .slice a.la a.ln a.lcap] 26)
  have bx := boxR_new w 26 #[.int .i64 a.kd, .int .i64 a.nn, .int .i64 a.pi, .int .i64 a.si, .int .i64 a.zo, .bool a.be, .slice a.la a.ln a.lcap]
  generalize hW : w.alloc (.cells #[.int .i64 a.kd, .int .i64 a.nn, .int .i64 a.pi, .int .i64 a.si, .int .i64 a.zo, .bool a.be, .slice a.la a.ln a.lcap] 26) = W at HB bx
  have c0 := bx.cell 0
  have c1 := bx.cell 1
  have c2 := bx.cell 2
  have c3 := bx.cell 3
  have c4 := bx.cell 4
  have c5 := bx.cell 5
  have c6 := bx.cell 6
  simp at c0 c1 c2 c3 c4 c5 c6
  go_enter Tryd.func15, Tryd.ntmps15
  go_wp2_with fail
  refine (HO.out _ HB).mono ?_
  rintro r w1 ⟨rfl, hb1⟩
  replace bx := bx.grew hb1
  replace HB := below_app HB hb1 HB.size
  clear hW hb1 c0 c1 c2 c3 c4 c5 c6
  have q0 : (a.kd : Int) = 4 := HK.out
  have d0 := bx.cell 0
  have d1 := bx.cell 1
  have d2 := bx.cell 2
  have d3 := bx.cell 3
  have d4 := bx.cell 4
  have d5 := bx.cell 5
  have d6 := bx.cell 6
  simp at d0 d1 d2 d3 d4 d5 d6
  rw [q0] at d0
  go_wp2
  go_ret
  exact ⟨rfl, HB⟩
set_option maxHeartbeats 2000000 in
theorem ati_5 (a : Ac) (w : World) (hok : a.ok w) (hn : a.ln ≤ 1048577) (hb : okAc a = true) (hk : a.kd = 5) (ht : Pow w) : Calls Tryd.prog 15 #[(.agg #[.int .i64 a.kd, .int .i64 a.nn, .int .i64 a.pi, .int .i64 a.si, .int .i64 a.zo, .bool a.be, .slice a.la a.ln a.lcap])] w fun r w' => r = .returned (.string (⟨#[104, 97, 108, 102]⟩ : ByteArray)) ∧ Below w.heap.size w w' := by
  have HO : Hid (∀ u : World, Below w.heap.size w u → Calls Tryd.prog 9 #[(.agg #[.int .i64 a.kd, .int .i64 a.nn, .int .i64 a.pi, .int .i64 a.si, .int .i64 a.zo, .bool a.be, .slice a.la a.ln a.lcap])] u fun r w' => r = .returned (.bool true) ∧ Below u.heap.size u w') := fun u hu => by have := implActOk_any a u (act_grew hok hu) hn; rw [hb] at this; exact this
  have HT : Hid (∀ u : World, Below w.heap.size w u → Pow u) := fun u hu => ht.below hu
  clear ht
  have HI : Hid a.in64 := hok.in64
  clear hb hok
  have HK : Hid (a.kd = 5) := hk
  clear hk
  have HB := (Below.refl _ w).alloc (Nat.le_refl _) (.cells #[.int .i64 a.kd, .int .i64 a.nn, .int .i64 a.pi, .int .i64 a.si, .int .i64 a.zo, .bool a.be, .slice a.la a.ln a.lcap] 26)
  have bx := boxR_new w 26 #[.int .i64 a.kd, .int .i64 a.nn, .int .i64 a.pi, .int .i64 a.si, .int .i64 a.zo, .bool a.be, .slice a.la a.ln a.lcap]
  generalize hW : w.alloc (.cells #[.int .i64 a.kd, .int .i64 a.nn, .int .i64 a.pi, .int .i64 a.si, .int .i64 a.zo, .bool a.be, .slice a.la a.ln a.lcap] 26) = W at HB bx
  have c0 := bx.cell 0
  have c1 := bx.cell 1
  have c2 := bx.cell 2
  have c3 := bx.cell 3
  have c4 := bx.cell 4
  have c5 := bx.cell 5
  have c6 := bx.cell 6
  simp at c0 c1 c2 c3 c4 c5 c6
  go_enter Tryd.func15, Tryd.ntmps15
  go_wp2_with fail
  refine (HO.out _ HB).mono ?_
  rintro r w1 ⟨rfl, hb1⟩
  replace bx := bx.grew hb1
  replace HB := below_app HB hb1 HB.size
  clear hW hb1 c0 c1 c2 c3 c4 c5 c6
  have q0 : (a.kd : Int) = 5 := HK.out
  have d0 := bx.cell 0
  have d1 := bx.cell 1
  have d2 := bx.cell 2
  have d3 := bx.cell 3
  have d4 := bx.cell 4
  have d5 := bx.cell 5
  have d6 := bx.cell 6
  simp at d0 d1 d2 d3 d4 d5 d6
  rw [q0] at d0
  go_wp2
  go_ret
  exact ⟨rfl, HB⟩
set_option maxHeartbeats 2000000 in
theorem ati_3 (a : Ac) (w : World) (hok : a.ok w) (hn : a.ln ≤ 1048577) (hb : okAc a = true) (hk : a.kd = 3) (ht : Pow w) : Calls Tryd.prog 15 #[(.agg #[.int .i64 a.kd, .int .i64 a.nn, .int .i64 a.pi, .int .i64 a.si, .int .i64 a.zo, .bool a.be, .slice a.la a.ln a.lcap])] w fun r w' => r = .returned (.string (say (⟨#[109, 111, 114, 101]⟩ : ByteArray) (fn1 a.nn) 1)) ∧ Below w.heap.size w w' := by
  have HO : Hid (∀ u : World, Below w.heap.size w u → Calls Tryd.prog 9 #[(.agg #[.int .i64 a.kd, .int .i64 a.nn, .int .i64 a.pi, .int .i64 a.si, .int .i64 a.zo, .bool a.be, .slice a.la a.ln a.lcap])] u fun r w' => r = .returned (.bool true) ∧ Below u.heap.size u w') := fun u hu => by have := implActOk_any a u (act_grew hok hu) hn; rw [hb] at this; exact this
  have HT : Hid (∀ u : World, Below w.heap.size w u → Pow u) := fun u hu => ht.below hu
  clear ht
  have HI : Hid a.in64 := hok.in64
  clear hb hok
  have HK : Hid (a.kd = 3) := hk
  clear hk
  have HB := (Below.refl _ w).alloc (Nat.le_refl _) (.cells #[.int .i64 a.kd, .int .i64 a.nn, .int .i64 a.pi, .int .i64 a.si, .int .i64 a.zo, .bool a.be, .slice a.la a.ln a.lcap] 26)
  have bx := boxR_new w 26 #[.int .i64 a.kd, .int .i64 a.nn, .int .i64 a.pi, .int .i64 a.si, .int .i64 a.zo, .bool a.be, .slice a.la a.ln a.lcap]
  generalize hW : w.alloc (.cells #[.int .i64 a.kd, .int .i64 a.nn, .int .i64 a.pi, .int .i64 a.si, .int .i64 a.zo, .bool a.be, .slice a.la a.ln a.lcap] 26) = W at HB bx
  have c0 := bx.cell 0
  have c1 := bx.cell 1
  have c2 := bx.cell 2
  have c3 := bx.cell 3
  have c4 := bx.cell 4
  have c5 := bx.cell 5
  have c6 := bx.cell 6
  simp at c0 c1 c2 c3 c4 c5 c6
  go_enter Tryd.func15, Tryd.ntmps15
  go_wp2_with fail
  refine (HO.out _ HB).mono ?_
  rintro r w1 ⟨rfl, hb1⟩
  replace bx := bx.grew hb1
  replace HB := below_app HB hb1 HB.size
  clear hW hb1 c0 c1 c2 c3 c4 c5 c6
  have q0 : (a.kd : Int) = 3 := HK.out
  have d0 := bx.cell 0
  have d1 := bx.cell 1
  have d2 := bx.cell 2
  have d3 := bx.cell 3
  have d4 := bx.cell 4
  have d5 := bx.cell 5
  have d6 := bx.cell 6
  simp at d0 d1 d2 d3 d4 d5 d6
  rw [q0] at d0
  have bA := HB.alloc HB.size (.cells #[.int .i64 a.nn] 3)
  have rA : Rd .i64 (w1.alloc (.cells #[.int .i64 a.nn] 3)) w1.heap.size (some ⟨w1.heap.size, 0, none⟩) 1 (fn1 a.nn) := rd1_at (t := 3) (heap_alloc_new w1 _)
  have pA := HT.out _ bA
  have sz1 := say_size (⟨#[109, 111, 114, 101]⟩ : ByteArray) (fn1 a.nn) (by decide) (in_fn1 (HI.out.1)) 1
  go_wp2_with fail
  refine (said_any (⟨#[109, 111, 114, 101]⟩ : ByteArray) _ 1 1 _ (fn1 a.nn) _ (by omega) (by decide) (in_fn1 (HI.out.1)) rA pA).mono ?_
  rintro r v ⟨rfl, hbv⟩
  go_wp2
  go_ret
  exact ⟨rfl, below_app bA hbv bA.size⟩
set_option maxHeartbeats 2000000 in
theorem ati_7 (a : Ac) (w : World) (hok : a.ok w) (hn : a.ln ≤ 1048577) (hb : okAc a = true) (hk : a.kd = 7) (ht : Pow w) : Calls Tryd.prog 15 #[(.agg #[.int .i64 a.kd, .int .i64 a.nn, .int .i64 a.pi, .int .i64 a.si, .int .i64 a.zo, .bool a.be, .slice a.la a.ln a.lcap])] w fun r w' => r = .returned (.string (say (⟨#[122, 111, 110, 101]⟩ : ByteArray) (fn1 a.zo) 1)) ∧ Below w.heap.size w w' := by
  have HO : Hid (∀ u : World, Below w.heap.size w u → Calls Tryd.prog 9 #[(.agg #[.int .i64 a.kd, .int .i64 a.nn, .int .i64 a.pi, .int .i64 a.si, .int .i64 a.zo, .bool a.be, .slice a.la a.ln a.lcap])] u fun r w' => r = .returned (.bool true) ∧ Below u.heap.size u w') := fun u hu => by have := implActOk_any a u (act_grew hok hu) hn; rw [hb] at this; exact this
  have HT : Hid (∀ u : World, Below w.heap.size w u → Pow u) := fun u hu => ht.below hu
  clear ht
  have HI : Hid a.in64 := hok.in64
  clear hb hok
  have HK : Hid (a.kd = 7) := hk
  clear hk
  have HB := (Below.refl _ w).alloc (Nat.le_refl _) (.cells #[.int .i64 a.kd, .int .i64 a.nn, .int .i64 a.pi, .int .i64 a.si, .int .i64 a.zo, .bool a.be, .slice a.la a.ln a.lcap] 26)
  have bx := boxR_new w 26 #[.int .i64 a.kd, .int .i64 a.nn, .int .i64 a.pi, .int .i64 a.si, .int .i64 a.zo, .bool a.be, .slice a.la a.ln a.lcap]
  generalize hW : w.alloc (.cells #[.int .i64 a.kd, .int .i64 a.nn, .int .i64 a.pi, .int .i64 a.si, .int .i64 a.zo, .bool a.be, .slice a.la a.ln a.lcap] 26) = W at HB bx
  have c0 := bx.cell 0
  have c1 := bx.cell 1
  have c2 := bx.cell 2
  have c3 := bx.cell 3
  have c4 := bx.cell 4
  have c5 := bx.cell 5
  have c6 := bx.cell 6
  simp at c0 c1 c2 c3 c4 c5 c6
  go_enter Tryd.func15, Tryd.ntmps15
  go_wp2_with fail
  refine (HO.out _ HB).mono ?_
  rintro r w1 ⟨rfl, hb1⟩
  replace bx := bx.grew hb1
  replace HB := below_app HB hb1 HB.size
  clear hW hb1 c0 c1 c2 c3 c4 c5 c6
  have q0 : (a.kd : Int) = 7 := HK.out
  have d0 := bx.cell 0
  have d1 := bx.cell 1
  have d2 := bx.cell 2
  have d3 := bx.cell 3
  have d4 := bx.cell 4
  have d5 := bx.cell 5
  have d6 := bx.cell 6
  simp at d0 d1 d2 d3 d4 d5 d6
  rw [q0] at d0
  have bA := HB.alloc HB.size (.cells #[.int .i64 a.zo] 3)
  have rA : Rd .i64 (w1.alloc (.cells #[.int .i64 a.zo] 3)) w1.heap.size (some ⟨w1.heap.size, 0, none⟩) 1 (fn1 a.zo) := rd1_at (t := 3) (heap_alloc_new w1 _)
  have pA := HT.out _ bA
  have sz1 := say_size (⟨#[122, 111, 110, 101]⟩ : ByteArray) (fn1 a.zo) (by decide) (in_fn1 (HI.out.2.2.2)) 1
  go_wp2_with fail
  refine (said_any (⟨#[122, 111, 110, 101]⟩ : ByteArray) _ 1 1 _ (fn1 a.zo) _ (by omega) (by decide) (in_fn1 (HI.out.2.2.2)) rA pA).mono ?_
  rintro r v ⟨rfl, hbv⟩
  go_wp2
  go_ret
  exact ⟨rfl, below_app bA hbv bA.size⟩
set_option maxHeartbeats 2000000 in
theorem ati_9 (a : Ac) (w : World) (hok : a.ok w) (hn : a.ln ≤ 1048577) (hb : okAc a = true) (hk : a.kd = 9) (ht : Pow w) : Calls Tryd.prog 15 #[(.agg #[.int .i64 a.kd, .int .i64 a.nn, .int .i64 a.pi, .int .i64 a.si, .int .i64 a.zo, .bool a.be, .slice a.la a.ln a.lcap])] w fun r w' => r = .returned (.string (say (⟨#[112, 97, 114, 116, 115]⟩ : ByteArray) (fn1 a.ln) 1)) ∧ Below w.heap.size w w' := by
  have HO : Hid (∀ u : World, Below w.heap.size w u → Calls Tryd.prog 9 #[(.agg #[.int .i64 a.kd, .int .i64 a.nn, .int .i64 a.pi, .int .i64 a.si, .int .i64 a.zo, .bool a.be, .slice a.la a.ln a.lcap])] u fun r w' => r = .returned (.bool true) ∧ Below u.heap.size u w') := fun u hu => by have := implActOk_any a u (act_grew hok hu) hn; rw [hb] at this; exact this
  have HT : Hid (∀ u : World, Below w.heap.size w u → Pow u) := fun u hu => ht.below hu
  clear ht
  have HI : Hid a.in64 := hok.in64
  clear hb hok
  have HK : Hid (a.kd = 9) := hk
  clear hk
  have HB := (Below.refl _ w).alloc (Nat.le_refl _) (.cells #[.int .i64 a.kd, .int .i64 a.nn, .int .i64 a.pi, .int .i64 a.si, .int .i64 a.zo, .bool a.be, .slice a.la a.ln a.lcap] 26)
  have bx := boxR_new w 26 #[.int .i64 a.kd, .int .i64 a.nn, .int .i64 a.pi, .int .i64 a.si, .int .i64 a.zo, .bool a.be, .slice a.la a.ln a.lcap]
  generalize hW : w.alloc (.cells #[.int .i64 a.kd, .int .i64 a.nn, .int .i64 a.pi, .int .i64 a.si, .int .i64 a.zo, .bool a.be, .slice a.la a.ln a.lcap] 26) = W at HB bx
  have c0 := bx.cell 0
  have c1 := bx.cell 1
  have c2 := bx.cell 2
  have c3 := bx.cell 3
  have c4 := bx.cell 4
  have c5 := bx.cell 5
  have c6 := bx.cell 6
  simp at c0 c1 c2 c3 c4 c5 c6
  go_enter Tryd.func15, Tryd.ntmps15
  go_wp2_with fail
  refine (HO.out _ HB).mono ?_
  rintro r w1 ⟨rfl, hb1⟩
  replace bx := bx.grew hb1
  replace HB := below_app HB hb1 HB.size
  clear hW hb1 c0 c1 c2 c3 c4 c5 c6
  have q0 : (a.kd : Int) = 9 := HK.out
  have d0 := bx.cell 0
  have d1 := bx.cell 1
  have d2 := bx.cell 2
  have d3 := bx.cell 3
  have d4 := bx.cell 4
  have d5 := bx.cell 5
  have d6 := bx.cell 6
  simp at d0 d1 d2 d3 d4 d5 d6
  rw [q0] at d0
  have hl : In64 (a.ln : Int) := ⟨by omega, by omega⟩
  have bA := HB.alloc HB.size (.cells #[.int .i64 (a.ln : Int)] 3)
  have rA : Rd .i64 (w1.alloc (.cells #[.int .i64 (a.ln : Int)] 3)) w1.heap.size (some ⟨w1.heap.size, 0, none⟩) 1 (fn1 (a.ln : Int)) := rd1_at (t := 3) (heap_alloc_new w1 _)
  have pA := HT.out _ bA
  have sz1 := say_size (⟨#[112, 97, 114, 116, 115]⟩ : ByteArray) (fn1 (a.ln : Int)) (by decide) (in_fn1 hl) 1
  go_wp2_with fail
  refine (said_any (⟨#[112, 97, 114, 116, 115]⟩ : ByteArray) _ 1 1 _ (fn1 (a.ln : Int)) _ (by omega) (by decide) (in_fn1 hl) rA pA).mono ?_
  rintro r v ⟨rfl, hbv⟩
  go_wp2
  go_ret
  exact ⟨rfl, below_app bA hbv bA.size⟩
set_option maxHeartbeats 2000000 in
theorem ati_6 (a : Ac) (w : World) (hok : a.ok w) (hn : a.ln ≤ 1048577) (hb : okAc a = true) (hk : a.kd = 6) (ht : Pow w) : Calls Tryd.prog 15 #[(.agg #[.int .i64 a.kd, .int .i64 a.nn, .int .i64 a.pi, .int .i64 a.si, .int .i64 a.zo, .bool a.be, .slice a.la a.ln a.lcap])] w fun r w' => r = .returned (.string (aiT a)) ∧ Below w.heap.size w w' := by
  have HO : Hid (∀ u : World, Below w.heap.size w u → Calls Tryd.prog 9 #[(.agg #[.int .i64 a.kd, .int .i64 a.nn, .int .i64 a.pi, .int .i64 a.si, .int .i64 a.zo, .bool a.be, .slice a.la a.ln a.lcap])] u fun r w' => r = .returned (.bool true) ∧ Below u.heap.size u w') := fun u hu => by have := implActOk_any a u (act_grew hok hu) hn; rw [hb] at this; exact this
  have HT : Hid (∀ u : World, Below w.heap.size w u → Pow u) := fun u hu => ht.below hu
  clear ht
  have HI : Hid a.in64 := hok.in64
  clear hb hok
  have HK : Hid (a.kd = 6) := hk
  clear hk
  have HB := (Below.refl _ w).alloc (Nat.le_refl _) (.cells #[.int .i64 a.kd, .int .i64 a.nn, .int .i64 a.pi, .int .i64 a.si, .int .i64 a.zo, .bool a.be, .slice a.la a.ln a.lcap] 26)
  have bx := boxR_new w 26 #[.int .i64 a.kd, .int .i64 a.nn, .int .i64 a.pi, .int .i64 a.si, .int .i64 a.zo, .bool a.be, .slice a.la a.ln a.lcap]
  generalize hW : w.alloc (.cells #[.int .i64 a.kd, .int .i64 a.nn, .int .i64 a.pi, .int .i64 a.si, .int .i64 a.zo, .bool a.be, .slice a.la a.ln a.lcap] 26) = W at HB bx
  have c0 := bx.cell 0
  have c1 := bx.cell 1
  have c2 := bx.cell 2
  have c3 := bx.cell 3
  have c4 := bx.cell 4
  have c5 := bx.cell 5
  have c6 := bx.cell 6
  simp at c0 c1 c2 c3 c4 c5 c6
  go_enter Tryd.func15, Tryd.ntmps15
  go_wp2_with fail
  refine (HO.out _ HB).mono ?_
  rintro r w1 ⟨rfl, hb1⟩
  replace bx := bx.grew hb1
  replace HB := below_app HB hb1 HB.size
  clear hW hb1 c0 c1 c2 c3 c4 c5 c6
  have q0 : (a.kd : Int) = 6 := HK.out
  have d0 := bx.cell 0
  have d1 := bx.cell 1
  have d2 := bx.cell 2
  have d3 := bx.cell 3
  have d4 := bx.cell 4
  have d5 := bx.cell 5
  have d6 := bx.cell 6
  simp at d0 d1 d2 d3 d4 d5 d6
  rw [q0] at d0
  have HA : Hid (∀ u : World, Pow u → Calls Tryd.prog 33 #[(.agg #[.int .i64 6, .int .i64 a.nn, .int .i64 a.pi, .int .i64 a.si, .int .i64 a.zo, .bool a.be, .slice a.la a.ln a.lcap])] u fun r w' => r = .returned (.string (aiT a)) ∧ Below u.heap.size u w') := fun u hu => by have := aimText_any a HI.out u hu; rw [q0] at this; exact this
  go_wp2_with fail
  refine (HA.out _ (HT.out _ HB)).mono ?_
  rintro r v ⟨rfl, hbv⟩
  go_wp2
  go_ret
  exact ⟨rfl, below_app HB hbv HB.size⟩
set_option maxHeartbeats 2000000 in
theorem ati_8 (a : Ac) (w : World) (hok : a.ok w) (hn : a.ln ≤ 1048577) (hb : okAc a = true) (hk : a.kd = 8) (ht : Pow w) : Calls Tryd.prog 15 #[(.agg #[.int .i64 a.kd, .int .i64 a.nn, .int .i64 a.pi, .int .i64 a.si, .int .i64 a.zo, .bool a.be, .slice a.la a.ln a.lcap])] w fun r w' => r = .returned (.string (say (⟨#[101, 110, 116, 101, 114]⟩ : ByteArray) (fn1 a.nn) 1 ++ bnB a.be)) ∧ Below w.heap.size w w' := by
  have HO : Hid (∀ u : World, Below w.heap.size w u → Calls Tryd.prog 9 #[(.agg #[.int .i64 a.kd, .int .i64 a.nn, .int .i64 a.pi, .int .i64 a.si, .int .i64 a.zo, .bool a.be, .slice a.la a.ln a.lcap])] u fun r w' => r = .returned (.bool true) ∧ Below u.heap.size u w') := fun u hu => by have := implActOk_any a u (act_grew hok hu) hn; rw [hb] at this; exact this
  have HT : Hid (∀ u : World, Below w.heap.size w u → Pow u) := fun u hu => ht.below hu
  clear ht
  have HI : Hid a.in64 := hok.in64
  clear hb hok
  have HK : Hid (a.kd = 8) := hk
  clear hk
  have HB := (Below.refl _ w).alloc (Nat.le_refl _) (.cells #[.int .i64 a.kd, .int .i64 a.nn, .int .i64 a.pi, .int .i64 a.si, .int .i64 a.zo, .bool a.be, .slice a.la a.ln a.lcap] 26)
  have bx := boxR_new w 26 #[.int .i64 a.kd, .int .i64 a.nn, .int .i64 a.pi, .int .i64 a.si, .int .i64 a.zo, .bool a.be, .slice a.la a.ln a.lcap]
  generalize hW : w.alloc (.cells #[.int .i64 a.kd, .int .i64 a.nn, .int .i64 a.pi, .int .i64 a.si, .int .i64 a.zo, .bool a.be, .slice a.la a.ln a.lcap] 26) = W at HB bx
  have c0 := bx.cell 0
  have c1 := bx.cell 1
  have c2 := bx.cell 2
  have c3 := bx.cell 3
  have c4 := bx.cell 4
  have c5 := bx.cell 5
  have c6 := bx.cell 6
  simp at c0 c1 c2 c3 c4 c5 c6
  go_enter Tryd.func15, Tryd.ntmps15
  go_wp2_with fail
  refine (HO.out _ HB).mono ?_
  rintro r w1 ⟨rfl, hb1⟩
  replace bx := bx.grew hb1
  replace HB := below_app HB hb1 HB.size
  clear hW hb1 c0 c1 c2 c3 c4 c5 c6
  have q0 : (a.kd : Int) = 8 := HK.out
  have d0 := bx.cell 0
  have d1 := bx.cell 1
  have d2 := bx.cell 2
  have d3 := bx.cell 3
  have d4 := bx.cell 4
  have d5 := bx.cell 5
  have d6 := bx.cell 6
  simp at d0 d1 d2 d3 d4 d5 d6
  rw [q0] at d0
  have SK : ∀ u : World, Below w1.heap.size w1 u → u.cell? ⟨w.heap.size, 1, none⟩ = some (.int .i64 a.nn) ∧ u.cell? ⟨w.heap.size, 5, none⟩ = some (.bool a.be) := fun u hu => ⟨(hu.cell (World.block_lt_of_cell? _ _ d1)).trans d1, (hu.cell (World.block_lt_of_cell? _ _ d5)).trans d5⟩
  have PK : Hid (∀ u : World, Below w1.heap.size w1 u → Pow u) := fun u hu => HT.out u (below_app HB hu HB.size)
  clear HT
  have HI1 : Hid (∀ j, In64 (fn1 a.nn j)) := in_fn1 HI.out.1
  have sz1 := say_size (⟨#[101, 110, 116, 101, 114]⟩ : ByteArray) (fn1 a.nn) (by decide) HI1.out 1
  have sz2 : (bnB a.be).size ≤ 5 := by unfold bnB; split <;> decide
  have bA := ((Below.refl _ w1).alloc (Nat.le_refl _) (.cells #[.int .i64 a.nn] 3)).drew
  have rA : Rd .i64 (w1.alloc (.cells #[.int .i64 a.nn] 3)).drew w1.heap.size (some ⟨w1.heap.size, 0, none⟩) 1 (fn1 a.nn) := rd1_at (t := 3) (heap_alloc_new w1 _)
  have hD : Below w1.heap.size w1 w1.drew := (Below.refl _ w1).drew
  go_wp2_with fail
  go_region_held (fun u : World => u.cell? ⟨w.heap.size, 1, none⟩ = some (.int .i64 a.nn) ∧ u.cell? ⟨w.heap.size, 5, none⟩ = some (.bool a.be)) (first | (refine SK _ ?_; first | with_reducible exact hD | with_reducible exact bA | with_reducible exact hq1)) (first | (go_at_call 32; refine (said_any (⟨#[101, 110, 116, 101, 114]⟩ : ByteArray) _ 1 1 _ (fn1 a.nn) _ (by omega) (by decide) HI1.out (by with_reducible exact rA) (PK.out _ (by with_reducible exact bA))).mono ?_; rintro r v1 ⟨rfl, hb1⟩; have hq1 : Below w1.heap.size w1 v1 := below_app bA hb1 bA.size) | (go_at_call 34; refine (bentText_any _ _).mono ?_; rintro r v2 ⟨rfl, rfl⟩))
  all_goals go_wp2
  all_goals go_ret
  all_goals exact ⟨rfl, below_app HB hq1 HB.size⟩
theorem implActText_any (a : Ac) (w : World) (hok : a.ok w) (hn : a.ln ≤ 1048577) (ht : Pow w) : Calls Tryd.prog 15 #[(.agg #[.int .i64 a.kd, .int .i64 a.nn, .int .i64 a.pi, .int .i64 a.si, .int .i64 a.zo, .bool a.be, .slice a.la a.ln a.lcap])] w fun r w' => r = .returned (.string (txA a)) ∧ Below w.heap.size w w' := by
  cases hb : okAc a with
  | false => rw [show txA a = ⟨#[]⟩ from by unfold txA; rw [hb]; rfl]; exact ati_bad a w hok hn hb ht
  | true =>
    rw [show txA a = wdA a from by unfold txA; rw [if_pos hb]]
    rcases kd_ok hb with h | h | h | h | h | h | h | h | h
    · rw [show wdA a = (⟨#[115, 116, 111, 112]⟩ : ByteArray) from by unfold wdA; simp [h]]; exact ati_1 a w hok hn hb h ht
    · rw [show wdA a = (⟨#[115, 104, 105, 101, 108, 100]⟩ : ByteArray) from by unfold wdA; simp [h]]; exact ati_2 a w hok hn hb h ht
    · rw [show wdA a = say (⟨#[109, 111, 114, 101]⟩ : ByteArray) (fn1 a.nn) 1 from by unfold wdA; simp [h]]; exact ati_3 a w hok hn hb h ht
    · rw [show wdA a = (⟨#[116, 119, 105, 99, 101]⟩ : ByteArray) from by unfold wdA; simp [h]]; exact ati_4 a w hok hn hb h ht
    · rw [show wdA a = (⟨#[104, 97, 108, 102]⟩ : ByteArray) from by unfold wdA; simp [h]]; exact ati_5 a w hok hn hb h ht
    · rw [show wdA a = aiT a from by unfold wdA; simp [h]]; exact ati_6 a w hok hn hb h ht
    · rw [show wdA a = say (⟨#[122, 111, 110, 101]⟩ : ByteArray) (fn1 a.zo) 1 from by unfold wdA; simp [h]]; exact ati_7 a w hok hn hb h ht
    · rw [show wdA a = say (⟨#[101, 110, 116, 101, 114]⟩ : ByteArray) (fn1 a.nn) 1 ++ bnB a.be from by unfold wdA; simp [h]]; exact ati_8 a w hok hn hb h ht
    · rw [show wdA a = say (⟨#[112, 97, 114, 116, 115]⟩ : ByteArray) (fn1 a.ln) 1 from by unfold wdA; simp [h]]; exact ati_9 a w hok hn hb h ht
end Go.Proofs.YtgaodfjmehofgacDoor
namespace Go.Proofs.YtgaodfjmehofgacDoor
open Go.ChangeShapes Go.WideShapes Go.ChangeAt Go.RowKit
set_option maxRecDepth 100000
set_option linter.unusedVariables false
set_option linter.unusedSimpArgs false

theorem sp_say (wd ws : ByteArray) (x : Int) (h : ws = wd ++ (⟨#[32]⟩ : ByteArray)) : ws ++ tx x = say wd (fn1 x) 1 := by
  rw [h]; simp [say, fn1, ByteArray.append_assoc]
set_option maxHeartbeats 2000000 in
theorem ats_bad (a : Ac) (w : World) (hok : a.ok w) (hn : a.ln ≤ 1048577) (hb : okAc a = false) : Calls Tryd.prog 16 #[(.agg #[.int .i64 a.kd, .int .i64 a.nn, .int .i64 a.pi, .int .i64 a.si, .int .i64 a.zo, .bool a.be, .slice a.la a.ln a.lcap])] w fun r w' => r = .returned (.string (⟨#[]⟩ : ByteArray)) ∧ Below w.heap.size w w' := by
  have HO : Hid (∀ u : World, Below w.heap.size w u → Calls Tryd.prog 10 #[(.agg #[.int .i64 a.kd, .int .i64 a.nn, .int .i64 a.pi, .int .i64 a.si, .int .i64 a.zo, .bool a.be, .slice a.la a.ln a.lcap])] u fun r w' => r = .returned (.bool false) ∧ Below u.heap.size u w') := fun u hu => by have := specActOk_any a u (act_grew hok hu) hn; rw [hb] at this; exact this
  have HI : Hid a.in64 := hok.in64
  clear hb hok
  have HB := (Below.refl _ w).alloc (Nat.le_refl _) (.cells #[.int .i64 a.kd, .int .i64 a.nn, .int .i64 a.pi, .int .i64 a.si, .int .i64 a.zo, .bool a.be, .slice a.la a.ln a.lcap] 26)
  have bx := boxR_new w 26 #[.int .i64 a.kd, .int .i64 a.nn, .int .i64 a.pi, .int .i64 a.si, .int .i64 a.zo, .bool a.be, .slice a.la a.ln a.lcap]
  generalize hW : w.alloc (.cells #[.int .i64 a.kd, .int .i64 a.nn, .int .i64 a.pi, .int .i64 a.si, .int .i64 a.zo, .bool a.be, .slice a.la a.ln a.lcap] 26) = W at HB bx
  have c0 := bx.cell 0
  have c1 := bx.cell 1
  have c2 := bx.cell 2
  have c3 := bx.cell 3
  have c4 := bx.cell 4
  have c5 := bx.cell 5
  have c6 := bx.cell 6
  simp at c0 c1 c2 c3 c4 c5 c6
  go_enter Tryd.func16, Tryd.ntmps16
  go_wp2_with fail
  refine (HO.out _ HB).mono ?_
  rintro r w1 ⟨rfl, hb1⟩
  replace bx := bx.grew hb1
  replace HB := below_app HB hb1 HB.size
  clear hW hb1 c0 c1 c2 c3 c4 c5 c6
  have d0 := bx.cell 0
  have d1 := bx.cell 1
  have d2 := bx.cell 2
  have d3 := bx.cell 3
  have d4 := bx.cell 4
  have d5 := bx.cell 5
  have d6 := bx.cell 6
  simp at d0 d1 d2 d3 d4 d5 d6
  go_wp2
  go_ret
  exact ⟨rfl, HB⟩
set_option maxHeartbeats 2000000 in
theorem ats_1 (a : Ac) (w : World) (hok : a.ok w) (hn : a.ln ≤ 1048577) (hb : okAc a = true) (hk : a.kd = 1) : Calls Tryd.prog 16 #[(.agg #[.int .i64 a.kd, .int .i64 a.nn, .int .i64 a.pi, .int .i64 a.si, .int .i64 a.zo, .bool a.be, .slice a.la a.ln a.lcap])] w fun r w' => r = .returned (.string (⟨#[115, 116, 111, 112]⟩ : ByteArray)) ∧ Below w.heap.size w w' := by
  have HO : Hid (∀ u : World, Below w.heap.size w u → Calls Tryd.prog 10 #[(.agg #[.int .i64 a.kd, .int .i64 a.nn, .int .i64 a.pi, .int .i64 a.si, .int .i64 a.zo, .bool a.be, .slice a.la a.ln a.lcap])] u fun r w' => r = .returned (.bool true) ∧ Below u.heap.size u w') := fun u hu => by have := specActOk_any a u (act_grew hok hu) hn; rw [hb] at this; exact this
  have HI : Hid a.in64 := hok.in64
  clear hb hok
  have HK : Hid (a.kd = 1) := hk
  clear hk
  have HB := (Below.refl _ w).alloc (Nat.le_refl _) (.cells #[.int .i64 a.kd, .int .i64 a.nn, .int .i64 a.pi, .int .i64 a.si, .int .i64 a.zo, .bool a.be, .slice a.la a.ln a.lcap] 26)
  have bx := boxR_new w 26 #[.int .i64 a.kd, .int .i64 a.nn, .int .i64 a.pi, .int .i64 a.si, .int .i64 a.zo, .bool a.be, .slice a.la a.ln a.lcap]
  generalize hW : w.alloc (.cells #[.int .i64 a.kd, .int .i64 a.nn, .int .i64 a.pi, .int .i64 a.si, .int .i64 a.zo, .bool a.be, .slice a.la a.ln a.lcap] 26) = W at HB bx
  have c0 := bx.cell 0
  have c1 := bx.cell 1
  have c2 := bx.cell 2
  have c3 := bx.cell 3
  have c4 := bx.cell 4
  have c5 := bx.cell 5
  have c6 := bx.cell 6
  simp at c0 c1 c2 c3 c4 c5 c6
  go_enter Tryd.func16, Tryd.ntmps16
  go_wp2_with fail
  refine (HO.out _ HB).mono ?_
  rintro r w1 ⟨rfl, hb1⟩
  replace bx := bx.grew hb1
  replace HB := below_app HB hb1 HB.size
  clear hW hb1 c0 c1 c2 c3 c4 c5 c6
  have q0 : (a.kd : Int) = 1 := HK.out
  have d0 := bx.cell 0
  have d1 := bx.cell 1
  have d2 := bx.cell 2
  have d3 := bx.cell 3
  have d4 := bx.cell 4
  have d5 := bx.cell 5
  have d6 := bx.cell 6
  simp at d0 d1 d2 d3 d4 d5 d6
  rw [q0] at d0
  go_wp2
  go_ret
  exact ⟨rfl, HB⟩
set_option maxHeartbeats 2000000 in
theorem ats_2 (a : Ac) (w : World) (hok : a.ok w) (hn : a.ln ≤ 1048577) (hb : okAc a = true) (hk : a.kd = 2) : Calls Tryd.prog 16 #[(.agg #[.int .i64 a.kd, .int .i64 a.nn, .int .i64 a.pi, .int .i64 a.si, .int .i64 a.zo, .bool a.be, .slice a.la a.ln a.lcap])] w fun r w' => r = .returned (.string (⟨#[115, 104, 105, 101, 108, 100]⟩ : ByteArray)) ∧ Below w.heap.size w w' := by
  have HO : Hid (∀ u : World, Below w.heap.size w u → Calls Tryd.prog 10 #[(.agg #[.int .i64 a.kd, .int .i64 a.nn, .int .i64 a.pi, .int .i64 a.si, .int .i64 a.zo, .bool a.be, .slice a.la a.ln a.lcap])] u fun r w' => r = .returned (.bool true) ∧ Below u.heap.size u w') := fun u hu => by have := specActOk_any a u (act_grew hok hu) hn; rw [hb] at this; exact this
  have HI : Hid a.in64 := hok.in64
  clear hb hok
  have HK : Hid (a.kd = 2) := hk
  clear hk
  have HB := (Below.refl _ w).alloc (Nat.le_refl _) (.cells #[.int .i64 a.kd, .int .i64 a.nn, .int .i64 a.pi, .int .i64 a.si, .int .i64 a.zo, .bool a.be, .slice a.la a.ln a.lcap] 26)
  have bx := boxR_new w 26 #[.int .i64 a.kd, .int .i64 a.nn, .int .i64 a.pi, .int .i64 a.si, .int .i64 a.zo, .bool a.be, .slice a.la a.ln a.lcap]
  generalize hW : w.alloc (.cells #[.int .i64 a.kd, .int .i64 a.nn, .int .i64 a.pi, .int .i64 a.si, .int .i64 a.zo, .bool a.be, .slice a.la a.ln a.lcap] 26) = W at HB bx
  have c0 := bx.cell 0
  have c1 := bx.cell 1
  have c2 := bx.cell 2
  have c3 := bx.cell 3
  have c4 := bx.cell 4
  have c5 := bx.cell 5
  have c6 := bx.cell 6
  simp at c0 c1 c2 c3 c4 c5 c6
  go_enter Tryd.func16, Tryd.ntmps16
  go_wp2_with fail
  refine (HO.out _ HB).mono ?_
  rintro r w1 ⟨rfl, hb1⟩
  replace bx := bx.grew hb1
  replace HB := below_app HB hb1 HB.size
  clear hW hb1 c0 c1 c2 c3 c4 c5 c6
  have q0 : (a.kd : Int) = 2 := HK.out
  have d0 := bx.cell 0
  have d1 := bx.cell 1
  have d2 := bx.cell 2
  have d3 := bx.cell 3
  have d4 := bx.cell 4
  have d5 := bx.cell 5
  have d6 := bx.cell 6
  simp at d0 d1 d2 d3 d4 d5 d6
  rw [q0] at d0
  go_wp2
  go_ret
  exact ⟨rfl, HB⟩
set_option maxHeartbeats 2000000 in
theorem ats_4 (a : Ac) (w : World) (hok : a.ok w) (hn : a.ln ≤ 1048577) (hb : okAc a = true) (hk : a.kd = 4) : Calls Tryd.prog 16 #[(.agg #[.int .i64 a.kd, .int .i64 a.nn, .int .i64 a.pi, .int .i64 a.si, .int .i64 a.zo, .bool a.be, .slice a.la a.ln a.lcap])] w fun r w' => r = .returned (.string (⟨#[116, 119, 105, 99, 101]⟩ : ByteArray)) ∧ Below w.heap.size w w' := by
  have HO : Hid (∀ u : World, Below w.heap.size w u → Calls Tryd.prog 10 #[(.agg #[.int .i64 a.kd, .int .i64 a.nn, .int .i64 a.pi, .int .i64 a.si, .int .i64 a.zo, .bool a.be, .slice a.la a.ln a.lcap])] u fun r w' => r = .returned (.bool true) ∧ Below u.heap.size u w') := fun u hu => by have := specActOk_any a u (act_grew hok hu) hn; rw [hb] at this; exact this
  have HI : Hid a.in64 := hok.in64
  clear hb hok
  have HK : Hid (a.kd = 4) := hk
  clear hk
  have HB := (Below.refl _ w).alloc (Nat.le_refl _) (.cells #[.int .i64 a.kd, .int .i64 a.nn, .int .i64 a.pi, .int .i64 a.si, .int .i64 a.zo, .bool a.be, .slice a.la a.ln a.lcap] 26)
  have bx := boxR_new w 26 #[.int .i64 a.kd, .int .i64 a.nn, .int .i64 a.pi, .int .i64 a.si, .int .i64 a.zo, .bool a.be, .slice a.la a.ln a.lcap]
  generalize hW : w.alloc (.cells #[.int .i64 a.kd, .int .i64 a.nn, .int .i64 a.pi, .int .i64 a.si, .int .i64 a.zo, .bool a.be, .slice a.la a.ln a.lcap] 26) = W at HB bx
  have c0 := bx.cell 0
  have c1 := bx.cell 1
  have c2 := bx.cell 2
  have c3 := bx.cell 3
  have c4 := bx.cell 4
  have c5 := bx.cell 5
  have c6 := bx.cell 6
  simp at c0 c1 c2 c3 c4 c5 c6
  go_enter Tryd.func16, Tryd.ntmps16
  go_wp2_with fail
  refine (HO.out _ HB).mono ?_
  rintro r w1 ⟨rfl, hb1⟩
  replace bx := bx.grew hb1
  replace HB := below_app HB hb1 HB.size
  clear hW hb1 c0 c1 c2 c3 c4 c5 c6
  have q0 : (a.kd : Int) = 4 := HK.out
  have d0 := bx.cell 0
  have d1 := bx.cell 1
  have d2 := bx.cell 2
  have d3 := bx.cell 3
  have d4 := bx.cell 4
  have d5 := bx.cell 5
  have d6 := bx.cell 6
  simp at d0 d1 d2 d3 d4 d5 d6
  rw [q0] at d0
  go_wp2
  go_ret
  exact ⟨rfl, HB⟩
set_option maxHeartbeats 2000000 in
theorem ats_5 (a : Ac) (w : World) (hok : a.ok w) (hn : a.ln ≤ 1048577) (hb : okAc a = true) (hk : a.kd = 5) : Calls Tryd.prog 16 #[(.agg #[.int .i64 a.kd, .int .i64 a.nn, .int .i64 a.pi, .int .i64 a.si, .int .i64 a.zo, .bool a.be, .slice a.la a.ln a.lcap])] w fun r w' => r = .returned (.string (⟨#[104, 97, 108, 102]⟩ : ByteArray)) ∧ Below w.heap.size w w' := by
  have HO : Hid (∀ u : World, Below w.heap.size w u → Calls Tryd.prog 10 #[(.agg #[.int .i64 a.kd, .int .i64 a.nn, .int .i64 a.pi, .int .i64 a.si, .int .i64 a.zo, .bool a.be, .slice a.la a.ln a.lcap])] u fun r w' => r = .returned (.bool true) ∧ Below u.heap.size u w') := fun u hu => by have := specActOk_any a u (act_grew hok hu) hn; rw [hb] at this; exact this
  have HI : Hid a.in64 := hok.in64
  clear hb hok
  have HK : Hid (a.kd = 5) := hk
  clear hk
  have HB := (Below.refl _ w).alloc (Nat.le_refl _) (.cells #[.int .i64 a.kd, .int .i64 a.nn, .int .i64 a.pi, .int .i64 a.si, .int .i64 a.zo, .bool a.be, .slice a.la a.ln a.lcap] 26)
  have bx := boxR_new w 26 #[.int .i64 a.kd, .int .i64 a.nn, .int .i64 a.pi, .int .i64 a.si, .int .i64 a.zo, .bool a.be, .slice a.la a.ln a.lcap]
  generalize hW : w.alloc (.cells #[.int .i64 a.kd, .int .i64 a.nn, .int .i64 a.pi, .int .i64 a.si, .int .i64 a.zo, .bool a.be, .slice a.la a.ln a.lcap] 26) = W at HB bx
  have c0 := bx.cell 0
  have c1 := bx.cell 1
  have c2 := bx.cell 2
  have c3 := bx.cell 3
  have c4 := bx.cell 4
  have c5 := bx.cell 5
  have c6 := bx.cell 6
  simp at c0 c1 c2 c3 c4 c5 c6
  go_enter Tryd.func16, Tryd.ntmps16
  go_wp2_with fail
  refine (HO.out _ HB).mono ?_
  rintro r w1 ⟨rfl, hb1⟩
  replace bx := bx.grew hb1
  replace HB := below_app HB hb1 HB.size
  clear hW hb1 c0 c1 c2 c3 c4 c5 c6
  have q0 : (a.kd : Int) = 5 := HK.out
  have d0 := bx.cell 0
  have d1 := bx.cell 1
  have d2 := bx.cell 2
  have d3 := bx.cell 3
  have d4 := bx.cell 4
  have d5 := bx.cell 5
  have d6 := bx.cell 6
  simp at d0 d1 d2 d3 d4 d5 d6
  rw [q0] at d0
  go_wp2
  go_ret
  exact ⟨rfl, HB⟩
set_option maxHeartbeats 2000000 in
theorem ats_3 (a : Ac) (w : World) (hok : a.ok w) (hn : a.ln ≤ 1048577) (hb : okAc a = true) (hk : a.kd = 3) : Calls Tryd.prog 16 #[(.agg #[.int .i64 a.kd, .int .i64 a.nn, .int .i64 a.pi, .int .i64 a.si, .int .i64 a.zo, .bool a.be, .slice a.la a.ln a.lcap])] w fun r w' => r = .returned (.string ((⟨#[109, 111, 114, 101, 32]⟩ : ByteArray) ++ tx a.nn)) ∧ Below w.heap.size w w' := by
  have HO : Hid (∀ u : World, Below w.heap.size w u → Calls Tryd.prog 10 #[(.agg #[.int .i64 a.kd, .int .i64 a.nn, .int .i64 a.pi, .int .i64 a.si, .int .i64 a.zo, .bool a.be, .slice a.la a.ln a.lcap])] u fun r w' => r = .returned (.bool true) ∧ Below u.heap.size u w') := fun u hu => by have := specActOk_any a u (act_grew hok hu) hn; rw [hb] at this; exact this
  have HI : Hid a.in64 := hok.in64
  clear hb hok
  have HK : Hid (a.kd = 3) := hk
  clear hk
  have HB := (Below.refl _ w).alloc (Nat.le_refl _) (.cells #[.int .i64 a.kd, .int .i64 a.nn, .int .i64 a.pi, .int .i64 a.si, .int .i64 a.zo, .bool a.be, .slice a.la a.ln a.lcap] 26)
  have bx := boxR_new w 26 #[.int .i64 a.kd, .int .i64 a.nn, .int .i64 a.pi, .int .i64 a.si, .int .i64 a.zo, .bool a.be, .slice a.la a.ln a.lcap]
  generalize hW : w.alloc (.cells #[.int .i64 a.kd, .int .i64 a.nn, .int .i64 a.pi, .int .i64 a.si, .int .i64 a.zo, .bool a.be, .slice a.la a.ln a.lcap] 26) = W at HB bx
  have c0 := bx.cell 0
  have c1 := bx.cell 1
  have c2 := bx.cell 2
  have c3 := bx.cell 3
  have c4 := bx.cell 4
  have c5 := bx.cell 5
  have c6 := bx.cell 6
  simp at c0 c1 c2 c3 c4 c5 c6
  go_enter Tryd.func16, Tryd.ntmps16
  go_wp2_with fail
  refine (HO.out _ HB).mono ?_
  rintro r w1 ⟨rfl, hb1⟩
  replace bx := bx.grew hb1
  replace HB := below_app HB hb1 HB.size
  clear hW hb1 c0 c1 c2 c3 c4 c5 c6
  have q0 : (a.kd : Int) = 3 := HK.out
  have d0 := bx.cell 0
  have d1 := bx.cell 1
  have d2 := bx.cell 2
  have d3 := bx.cell 3
  have d4 := bx.cell 4
  have d5 := bx.cell 5
  have d6 := bx.cell 6
  simp at d0 d1 d2 d3 d4 d5 d6
  rw [q0] at d0
  obtain ⟨a1, b1⟩ : In64 a.nn := HI.out.1
  have s1 := tx_size a.nn a1 b1
  go_wp2_with fail
  refine (specNumText_b a.nn _ a1 b1).mono ?_
  rintro r v ⟨rfl, hbv⟩
  go_wp2
  go_ret
  exact ⟨rfl, below_app HB hbv HB.size⟩
set_option maxHeartbeats 2000000 in
theorem ats_7 (a : Ac) (w : World) (hok : a.ok w) (hn : a.ln ≤ 1048577) (hb : okAc a = true) (hk : a.kd = 7) : Calls Tryd.prog 16 #[(.agg #[.int .i64 a.kd, .int .i64 a.nn, .int .i64 a.pi, .int .i64 a.si, .int .i64 a.zo, .bool a.be, .slice a.la a.ln a.lcap])] w fun r w' => r = .returned (.string ((⟨#[122, 111, 110, 101, 32]⟩ : ByteArray) ++ tx a.zo)) ∧ Below w.heap.size w w' := by
  have HO : Hid (∀ u : World, Below w.heap.size w u → Calls Tryd.prog 10 #[(.agg #[.int .i64 a.kd, .int .i64 a.nn, .int .i64 a.pi, .int .i64 a.si, .int .i64 a.zo, .bool a.be, .slice a.la a.ln a.lcap])] u fun r w' => r = .returned (.bool true) ∧ Below u.heap.size u w') := fun u hu => by have := specActOk_any a u (act_grew hok hu) hn; rw [hb] at this; exact this
  have HI : Hid a.in64 := hok.in64
  clear hb hok
  have HK : Hid (a.kd = 7) := hk
  clear hk
  have HB := (Below.refl _ w).alloc (Nat.le_refl _) (.cells #[.int .i64 a.kd, .int .i64 a.nn, .int .i64 a.pi, .int .i64 a.si, .int .i64 a.zo, .bool a.be, .slice a.la a.ln a.lcap] 26)
  have bx := boxR_new w 26 #[.int .i64 a.kd, .int .i64 a.nn, .int .i64 a.pi, .int .i64 a.si, .int .i64 a.zo, .bool a.be, .slice a.la a.ln a.lcap]
  generalize hW : w.alloc (.cells #[.int .i64 a.kd, .int .i64 a.nn, .int .i64 a.pi, .int .i64 a.si, .int .i64 a.zo, .bool a.be, .slice a.la a.ln a.lcap] 26) = W at HB bx
  have c0 := bx.cell 0
  have c1 := bx.cell 1
  have c2 := bx.cell 2
  have c3 := bx.cell 3
  have c4 := bx.cell 4
  have c5 := bx.cell 5
  have c6 := bx.cell 6
  simp at c0 c1 c2 c3 c4 c5 c6
  go_enter Tryd.func16, Tryd.ntmps16
  go_wp2_with fail
  refine (HO.out _ HB).mono ?_
  rintro r w1 ⟨rfl, hb1⟩
  replace bx := bx.grew hb1
  replace HB := below_app HB hb1 HB.size
  clear hW hb1 c0 c1 c2 c3 c4 c5 c6
  have q0 : (a.kd : Int) = 7 := HK.out
  have d0 := bx.cell 0
  have d1 := bx.cell 1
  have d2 := bx.cell 2
  have d3 := bx.cell 3
  have d4 := bx.cell 4
  have d5 := bx.cell 5
  have d6 := bx.cell 6
  simp at d0 d1 d2 d3 d4 d5 d6
  rw [q0] at d0
  obtain ⟨a1, b1⟩ : In64 a.zo := HI.out.2.2.2
  have s1 := tx_size a.zo a1 b1
  go_wp2_with fail
  refine (specNumText_b a.zo _ a1 b1).mono ?_
  rintro r v ⟨rfl, hbv⟩
  go_wp2
  go_ret
  exact ⟨rfl, below_app HB hbv HB.size⟩
set_option maxHeartbeats 2000000 in
theorem ats_9 (a : Ac) (w : World) (hok : a.ok w) (hn : a.ln ≤ 1048577) (hb : okAc a = true) (hk : a.kd = 9) : Calls Tryd.prog 16 #[(.agg #[.int .i64 a.kd, .int .i64 a.nn, .int .i64 a.pi, .int .i64 a.si, .int .i64 a.zo, .bool a.be, .slice a.la a.ln a.lcap])] w fun r w' => r = .returned (.string ((⟨#[112, 97, 114, 116, 115, 32]⟩ : ByteArray) ++ tx a.ln)) ∧ Below w.heap.size w w' := by
  have HO : Hid (∀ u : World, Below w.heap.size w u → Calls Tryd.prog 10 #[(.agg #[.int .i64 a.kd, .int .i64 a.nn, .int .i64 a.pi, .int .i64 a.si, .int .i64 a.zo, .bool a.be, .slice a.la a.ln a.lcap])] u fun r w' => r = .returned (.bool true) ∧ Below u.heap.size u w') := fun u hu => by have := specActOk_any a u (act_grew hok hu) hn; rw [hb] at this; exact this
  have HI : Hid a.in64 := hok.in64
  clear hb hok
  have HK : Hid (a.kd = 9) := hk
  clear hk
  have HB := (Below.refl _ w).alloc (Nat.le_refl _) (.cells #[.int .i64 a.kd, .int .i64 a.nn, .int .i64 a.pi, .int .i64 a.si, .int .i64 a.zo, .bool a.be, .slice a.la a.ln a.lcap] 26)
  have bx := boxR_new w 26 #[.int .i64 a.kd, .int .i64 a.nn, .int .i64 a.pi, .int .i64 a.si, .int .i64 a.zo, .bool a.be, .slice a.la a.ln a.lcap]
  generalize hW : w.alloc (.cells #[.int .i64 a.kd, .int .i64 a.nn, .int .i64 a.pi, .int .i64 a.si, .int .i64 a.zo, .bool a.be, .slice a.la a.ln a.lcap] 26) = W at HB bx
  have c0 := bx.cell 0
  have c1 := bx.cell 1
  have c2 := bx.cell 2
  have c3 := bx.cell 3
  have c4 := bx.cell 4
  have c5 := bx.cell 5
  have c6 := bx.cell 6
  simp at c0 c1 c2 c3 c4 c5 c6
  go_enter Tryd.func16, Tryd.ntmps16
  go_wp2_with fail
  refine (HO.out _ HB).mono ?_
  rintro r w1 ⟨rfl, hb1⟩
  replace bx := bx.grew hb1
  replace HB := below_app HB hb1 HB.size
  clear hW hb1 c0 c1 c2 c3 c4 c5 c6
  have q0 : (a.kd : Int) = 9 := HK.out
  have d0 := bx.cell 0
  have d1 := bx.cell 1
  have d2 := bx.cell 2
  have d3 := bx.cell 3
  have d4 := bx.cell 4
  have d5 := bx.cell 5
  have d6 := bx.cell 6
  simp at d0 d1 d2 d3 d4 d5 d6
  rw [q0] at d0
  obtain ⟨a1, b1⟩ : In64 (a.ln : Int) := ⟨by omega, by omega⟩
  have s1 := tx_size (a.ln : Int) a1 b1
  go_wp2_with fail
  refine (specNumText_b (a.ln : Int) _ a1 b1).mono ?_
  rintro r v ⟨rfl, hbv⟩
  go_wp2
  go_ret
  exact ⟨rfl, below_app HB hbv HB.size⟩
set_option maxHeartbeats 2000000 in
theorem ats_60 (a : Ac) (w : World) (hok : a.ok w) (hn : a.ln ≤ 1048577) (hb : okAc a = true) (hk : a.kd = 6) (hp : a.pi = 0) : Calls Tryd.prog 16 #[(.agg #[.int .i64 a.kd, .int .i64 a.nn, .int .i64 a.pi, .int .i64 a.si, .int .i64 a.zo, .bool a.be, .slice a.la a.ln a.lcap])] w fun r w' => r = .returned (.string ((⟨#[116, 117, 114, 110, 32, 115, 105, 100, 101, 32]⟩ : ByteArray) ++ tx a.si)) ∧ Below w.heap.size w w' := by
  have HP : Hid ((a.pi == 0) = true) := by show _ = true; simpa using hp
  clear hp
  have HO : Hid (∀ u : World, Below w.heap.size w u → Calls Tryd.prog 10 #[(.agg #[.int .i64 a.kd, .int .i64 a.nn, .int .i64 a.pi, .int .i64 a.si, .int .i64 a.zo, .bool a.be, .slice a.la a.ln a.lcap])] u fun r w' => r = .returned (.bool true) ∧ Below u.heap.size u w') := fun u hu => by have := specActOk_any a u (act_grew hok hu) hn; rw [hb] at this; exact this
  have HI : Hid a.in64 := hok.in64
  clear hb hok
  have HK : Hid (a.kd = 6) := hk
  clear hk
  have HB := (Below.refl _ w).alloc (Nat.le_refl _) (.cells #[.int .i64 a.kd, .int .i64 a.nn, .int .i64 a.pi, .int .i64 a.si, .int .i64 a.zo, .bool a.be, .slice a.la a.ln a.lcap] 26)
  have bx := boxR_new w 26 #[.int .i64 a.kd, .int .i64 a.nn, .int .i64 a.pi, .int .i64 a.si, .int .i64 a.zo, .bool a.be, .slice a.la a.ln a.lcap]
  generalize hW : w.alloc (.cells #[.int .i64 a.kd, .int .i64 a.nn, .int .i64 a.pi, .int .i64 a.si, .int .i64 a.zo, .bool a.be, .slice a.la a.ln a.lcap] 26) = W at HB bx
  have c0 := bx.cell 0
  have c1 := bx.cell 1
  have c2 := bx.cell 2
  have c3 := bx.cell 3
  have c4 := bx.cell 4
  have c5 := bx.cell 5
  have c6 := bx.cell 6
  simp at c0 c1 c2 c3 c4 c5 c6
  go_enter Tryd.func16, Tryd.ntmps16
  go_wp2_with fail
  refine (HO.out _ HB).mono ?_
  rintro r w1 ⟨rfl, hb1⟩
  replace bx := bx.grew hb1
  replace HB := below_app HB hb1 HB.size
  clear hW hb1 c0 c1 c2 c3 c4 c5 c6
  have q0 : (a.kd : Int) = 6 := HK.out
  have d0 := bx.cell 0
  have d1 := bx.cell 1
  have d2 := bx.cell 2
  have d3 := bx.cell 3
  have d4 := bx.cell 4
  have d5 := bx.cell 5
  have d6 := bx.cell 6
  simp at d0 d1 d2 d3 d4 d5 d6
  rw [q0] at d0
  obtain ⟨a1, b1⟩ : In64 a.si := HI.out.2.2.1
  have s1 := tx_size a.si a1 b1
  have q1 := HP.out
  go_wp2_with fail
  refine (specNumText_b a.si _ a1 b1).mono ?_
  rintro r v ⟨rfl, hbv⟩
  go_wp2
  go_ret
  exact ⟨rfl, below_app HB hbv HB.size⟩
set_option maxHeartbeats 2000000 in
theorem ats_61 (a : Ac) (w : World) (hok : a.ok w) (hn : a.ln ≤ 1048577) (hb : okAc a = true) (hk : a.kd = 6) (hp : ¬ a.pi = 0) : Calls Tryd.prog 16 #[(.agg #[.int .i64 a.kd, .int .i64 a.nn, .int .i64 a.pi, .int .i64 a.si, .int .i64 a.zo, .bool a.be, .slice a.la a.ln a.lcap])] w fun r w' => r = .returned (.string ((⟨#[116, 117, 114, 110, 32, 112, 105, 101, 99, 101, 32]⟩ : ByteArray) ++ tx a.pi)) ∧ Below w.heap.size w w' := by
  have HP : Hid ((a.pi == 0) = false) := by show _ = false; simpa using hp
  clear hp
  have HO : Hid (∀ u : World, Below w.heap.size w u → Calls Tryd.prog 10 #[(.agg #[.int .i64 a.kd, .int .i64 a.nn, .int .i64 a.pi, .int .i64 a.si, .int .i64 a.zo, .bool a.be, .slice a.la a.ln a.lcap])] u fun r w' => r = .returned (.bool true) ∧ Below u.heap.size u w') := fun u hu => by have := specActOk_any a u (act_grew hok hu) hn; rw [hb] at this; exact this
  have HI : Hid a.in64 := hok.in64
  clear hb hok
  have HK : Hid (a.kd = 6) := hk
  clear hk
  have HB := (Below.refl _ w).alloc (Nat.le_refl _) (.cells #[.int .i64 a.kd, .int .i64 a.nn, .int .i64 a.pi, .int .i64 a.si, .int .i64 a.zo, .bool a.be, .slice a.la a.ln a.lcap] 26)
  have bx := boxR_new w 26 #[.int .i64 a.kd, .int .i64 a.nn, .int .i64 a.pi, .int .i64 a.si, .int .i64 a.zo, .bool a.be, .slice a.la a.ln a.lcap]
  generalize hW : w.alloc (.cells #[.int .i64 a.kd, .int .i64 a.nn, .int .i64 a.pi, .int .i64 a.si, .int .i64 a.zo, .bool a.be, .slice a.la a.ln a.lcap] 26) = W at HB bx
  have c0 := bx.cell 0
  have c1 := bx.cell 1
  have c2 := bx.cell 2
  have c3 := bx.cell 3
  have c4 := bx.cell 4
  have c5 := bx.cell 5
  have c6 := bx.cell 6
  simp at c0 c1 c2 c3 c4 c5 c6
  go_enter Tryd.func16, Tryd.ntmps16
  go_wp2_with fail
  refine (HO.out _ HB).mono ?_
  rintro r w1 ⟨rfl, hb1⟩
  replace bx := bx.grew hb1
  replace HB := below_app HB hb1 HB.size
  clear hW hb1 c0 c1 c2 c3 c4 c5 c6
  have q0 : (a.kd : Int) = 6 := HK.out
  have d0 := bx.cell 0
  have d1 := bx.cell 1
  have d2 := bx.cell 2
  have d3 := bx.cell 3
  have d4 := bx.cell 4
  have d5 := bx.cell 5
  have d6 := bx.cell 6
  simp at d0 d1 d2 d3 d4 d5 d6
  rw [q0] at d0
  obtain ⟨a1, b1⟩ : In64 a.pi := HI.out.2.1
  have s1 := tx_size a.pi a1 b1
  have q1 := HP.out
  go_wp2_with fail
  refine (specNumText_b a.pi _ a1 b1).mono ?_
  rintro r v ⟨rfl, hbv⟩
  go_wp2
  go_ret
  exact ⟨rfl, below_app HB hbv HB.size⟩
set_option maxHeartbeats 2000000 in
theorem ats_80 (a : Ac) (w : World) (hok : a.ok w) (hn : a.ln ≤ 1048577) (hb : okAc a = true) (hk : a.kd = 8) (hbe : a.be = false) : Calls Tryd.prog 16 #[(.agg #[.int .i64 a.kd, .int .i64 a.nn, .int .i64 a.pi, .int .i64 a.si, .int .i64 a.zo, .bool a.be, .slice a.la a.ln a.lcap])] w fun r w' => r = .returned (.string ((⟨#[101, 110, 116, 101, 114, 32]⟩ : ByteArray) ++ tx a.nn)) ∧ Below w.heap.size w w' := by
  have HE : Hid (a.be = false) := hbe
  clear hbe
  have HO : Hid (∀ u : World, Below w.heap.size w u → Calls Tryd.prog 10 #[(.agg #[.int .i64 a.kd, .int .i64 a.nn, .int .i64 a.pi, .int .i64 a.si, .int .i64 a.zo, .bool a.be, .slice a.la a.ln a.lcap])] u fun r w' => r = .returned (.bool true) ∧ Below u.heap.size u w') := fun u hu => by have := specActOk_any a u (act_grew hok hu) hn; rw [hb] at this; exact this
  have HI : Hid a.in64 := hok.in64
  clear hb hok
  have HK : Hid (a.kd = 8) := hk
  clear hk
  have HB := (Below.refl _ w).alloc (Nat.le_refl _) (.cells #[.int .i64 a.kd, .int .i64 a.nn, .int .i64 a.pi, .int .i64 a.si, .int .i64 a.zo, .bool a.be, .slice a.la a.ln a.lcap] 26)
  have bx := boxR_new w 26 #[.int .i64 a.kd, .int .i64 a.nn, .int .i64 a.pi, .int .i64 a.si, .int .i64 a.zo, .bool a.be, .slice a.la a.ln a.lcap]
  generalize hW : w.alloc (.cells #[.int .i64 a.kd, .int .i64 a.nn, .int .i64 a.pi, .int .i64 a.si, .int .i64 a.zo, .bool a.be, .slice a.la a.ln a.lcap] 26) = W at HB bx
  have c0 := bx.cell 0
  have c1 := bx.cell 1
  have c2 := bx.cell 2
  have c3 := bx.cell 3
  have c4 := bx.cell 4
  have c5 := bx.cell 5
  have c6 := bx.cell 6
  simp at c0 c1 c2 c3 c4 c5 c6
  go_enter Tryd.func16, Tryd.ntmps16
  go_wp2_with fail
  refine (HO.out _ HB).mono ?_
  rintro r w1 ⟨rfl, hb1⟩
  replace bx := bx.grew hb1
  replace HB := below_app HB hb1 HB.size
  clear hW hb1 c0 c1 c2 c3 c4 c5 c6
  have q0 : (a.kd : Int) = 8 := HK.out
  have d0 := bx.cell 0
  have d1 := bx.cell 1
  have d2 := bx.cell 2
  have d3 := bx.cell 3
  have d4 := bx.cell 4
  have d5 := bx.cell 5
  have d6 := bx.cell 6
  simp at d0 d1 d2 d3 d4 d5 d6
  rw [q0] at d0
  obtain ⟨a1, b1⟩ : In64 a.nn := HI.out.1
  have s1 := tx_size a.nn a1 b1
  rw [HE.out] at d5
  go_wp2_with fail
  refine (specNumText_b a.nn _ a1 b1).mono ?_
  rintro r v ⟨rfl, hbv⟩
  go_wp2
  go_ret
  exact ⟨rfl, below_app HB hbv HB.size⟩
set_option maxHeartbeats 2000000 in
theorem ats_81 (a : Ac) (w : World) (hok : a.ok w) (hn : a.ln ≤ 1048577) (hb : okAc a = true) (hk : a.kd = 8) (hbe : a.be = true) : Calls Tryd.prog 16 #[(.agg #[.int .i64 a.kd, .int .i64 a.nn, .int .i64 a.pi, .int .i64 a.si, .int .i64 a.zo, .bool a.be, .slice a.la a.ln a.lcap])] w fun r w' => r = .returned (.string (((⟨#[101, 110, 116, 101, 114, 32]⟩ : ByteArray) ++ tx a.nn) ++ (⟨#[32, 98, 101, 110, 116]⟩ : ByteArray))) ∧ Below w.heap.size w w' := by
  have HE : Hid (a.be = true) := hbe
  clear hbe
  have HO : Hid (∀ u : World, Below w.heap.size w u → Calls Tryd.prog 10 #[(.agg #[.int .i64 a.kd, .int .i64 a.nn, .int .i64 a.pi, .int .i64 a.si, .int .i64 a.zo, .bool a.be, .slice a.la a.ln a.lcap])] u fun r w' => r = .returned (.bool true) ∧ Below u.heap.size u w') := fun u hu => by have := specActOk_any a u (act_grew hok hu) hn; rw [hb] at this; exact this
  have HI : Hid a.in64 := hok.in64
  clear hb hok
  have HK : Hid (a.kd = 8) := hk
  clear hk
  have HB := (Below.refl _ w).alloc (Nat.le_refl _) (.cells #[.int .i64 a.kd, .int .i64 a.nn, .int .i64 a.pi, .int .i64 a.si, .int .i64 a.zo, .bool a.be, .slice a.la a.ln a.lcap] 26)
  have bx := boxR_new w 26 #[.int .i64 a.kd, .int .i64 a.nn, .int .i64 a.pi, .int .i64 a.si, .int .i64 a.zo, .bool a.be, .slice a.la a.ln a.lcap]
  generalize hW : w.alloc (.cells #[.int .i64 a.kd, .int .i64 a.nn, .int .i64 a.pi, .int .i64 a.si, .int .i64 a.zo, .bool a.be, .slice a.la a.ln a.lcap] 26) = W at HB bx
  have c0 := bx.cell 0
  have c1 := bx.cell 1
  have c2 := bx.cell 2
  have c3 := bx.cell 3
  have c4 := bx.cell 4
  have c5 := bx.cell 5
  have c6 := bx.cell 6
  simp at c0 c1 c2 c3 c4 c5 c6
  go_enter Tryd.func16, Tryd.ntmps16
  go_wp2_with fail
  refine (HO.out _ HB).mono ?_
  rintro r w1 ⟨rfl, hb1⟩
  replace bx := bx.grew hb1
  replace HB := below_app HB hb1 HB.size
  clear hW hb1 c0 c1 c2 c3 c4 c5 c6
  have q0 : (a.kd : Int) = 8 := HK.out
  have d0 := bx.cell 0
  have d1 := bx.cell 1
  have d2 := bx.cell 2
  have d3 := bx.cell 3
  have d4 := bx.cell 4
  have d5 := bx.cell 5
  have d6 := bx.cell 6
  simp at d0 d1 d2 d3 d4 d5 d6
  rw [q0] at d0
  obtain ⟨a1, b1⟩ : In64 a.nn := HI.out.1
  have s1 := tx_size a.nn a1 b1
  rw [HE.out] at d5
  go_wp2_with fail
  refine (specNumText_b a.nn _ a1 b1).mono ?_
  rintro r v ⟨rfl, hbv⟩
  go_wp2
  go_ret
  exact ⟨rfl, below_app HB hbv HB.size⟩
theorem specActText_any (a : Ac) (w : World) (hok : a.ok w) (hn : a.ln ≤ 1048577) : Calls Tryd.prog 16 #[(.agg #[.int .i64 a.kd, .int .i64 a.nn, .int .i64 a.pi, .int .i64 a.si, .int .i64 a.zo, .bool a.be, .slice a.la a.ln a.lcap])] w fun r w' => r = .returned (.string (txA a)) ∧ Below w.heap.size w w' := by
  cases hb : okAc a with
  | false => rw [show txA a = ⟨#[]⟩ from by unfold txA; rw [hb]; rfl]; exact ats_bad a w hok hn hb
  | true =>
    rw [show txA a = wdA a from by unfold txA; rw [if_pos hb]]
    rcases kd_ok hb with h | h | h | h | h | h | h | h | h
    · rw [show wdA a = (⟨#[115, 116, 111, 112]⟩ : ByteArray) from by unfold wdA; simp [h]]; exact ats_1 a w hok hn hb h
    · rw [show wdA a = (⟨#[115, 104, 105, 101, 108, 100]⟩ : ByteArray) from by unfold wdA; simp [h]]; exact ats_2 a w hok hn hb h
    · rw [show wdA a = say (⟨#[109, 111, 114, 101]⟩ : ByteArray) (fn1 a.nn) 1 from by unfold wdA; simp [h]]; exact (by rw [← sp_say (⟨#[109, 111, 114, 101]⟩ : ByteArray) (⟨#[109, 111, 114, 101, 32]⟩ : ByteArray) a.nn (by decide)]; exact ats_3 a w hok hn hb h)
    · rw [show wdA a = (⟨#[116, 119, 105, 99, 101]⟩ : ByteArray) from by unfold wdA; simp [h]]; exact ats_4 a w hok hn hb h
    · rw [show wdA a = (⟨#[104, 97, 108, 102]⟩ : ByteArray) from by unfold wdA; simp [h]]; exact ats_5 a w hok hn hb h
    · rw [show wdA a = aiT a from by unfold wdA; simp [h]]; exact (by
        unfold aiT
        by_cases hp : a.pi = 0
        · rw [if_pos hp, ← sp_say (⟨#[116, 117, 114, 110, 32, 115, 105, 100, 101]⟩ : ByteArray) (⟨#[116, 117, 114, 110, 32, 115, 105, 100, 101, 32]⟩ : ByteArray) a.si (by decide)]; exact ats_60 a w hok hn hb h hp
        · rw [if_neg hp, ← sp_say (⟨#[116, 117, 114, 110, 32, 112, 105, 101, 99, 101]⟩ : ByteArray) (⟨#[116, 117, 114, 110, 32, 112, 105, 101, 99, 101, 32]⟩ : ByteArray) a.pi (by decide)]; exact ats_61 a w hok hn hb h hp)
    · rw [show wdA a = say (⟨#[122, 111, 110, 101]⟩ : ByteArray) (fn1 a.zo) 1 from by unfold wdA; simp [h]]; exact (by rw [← sp_say (⟨#[122, 111, 110, 101]⟩ : ByteArray) (⟨#[122, 111, 110, 101, 32]⟩ : ByteArray) a.zo (by decide)]; exact ats_7 a w hok hn hb h)
    · rw [show wdA a = say (⟨#[101, 110, 116, 101, 114]⟩ : ByteArray) (fn1 a.nn) 1 ++ bnB a.be from by unfold wdA; simp [h]]; exact (by
        rw [← sp_say (⟨#[101, 110, 116, 101, 114]⟩ : ByteArray) (⟨#[101, 110, 116, 101, 114, 32]⟩ : ByteArray) a.nn (by decide)]
        cases hbe : a.be with
        | false => rw [show bnB false = ByteArray.empty from rfl, ByteArray.append_empty]; have := ats_80 a w hok hn hb h hbe; rw [hbe] at this; exact this
        | true => have := ats_81 a w hok hn hb h hbe; rw [hbe] at this; exact this)
    · rw [show wdA a = say (⟨#[112, 97, 114, 116, 115]⟩ : ByteArray) (fn1 a.ln) 1 from by unfold wdA; simp [h]]; exact (by rw [← sp_say (⟨#[112, 97, 114, 116, 115]⟩ : ByteArray) (⟨#[112, 97, 114, 116, 115, 32]⟩ : ByteArray) (a.ln : Int) (by decide)]; exact ats_9 a w hok hn hb h)
end Go.Proofs.YtgaodfjmehofgacDoor
