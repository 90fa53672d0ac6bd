/-
  Contracts of chapter 1's reading of amounts: the program's readDigits, ParseNum and the specification's ParseNum. Own work.
-/
import Derived.Test.YtjfepkhcfeglcaaDoorRows
import Derived.Test.YtjfepkhcfeglcaaDoorDig
import Derived.WalkKit
import Derived.ProofKit
import Derived.OpenShut
import Derived.WalkLawsBesides
import Derived.WalkSpells
namespace Go.Proofs.YtjfepkhcfeglcaaDoor
open Go.ChangeShapes Go.WideShapes Go.ChangeAt Go.RowKit

theorem ret2 {k : IntKind} {a b : Int} {c d : Bool} (h : a = b) (h' : c = d) : Ending.returned (.tuple #[.int k a, .bool c]) = .returned (.tuple #[.int k b, .bool d]) := by rw [h, h']
theorem data_len (s : ByteArray) : s.data.toList.length = s.size := by rw [Array.length_toList]; rfl
theorem data_get (s : ByteArray) (k : Nat) (_h : k < s.size) (h' : k < s.data.toList.length) : s.data.toList[k] = s[k] := by rw [Array.getElem_toList]; rfl
theorem data_take (s : ByteArray) (k : Nat) (h : k < s.size) : s.data.toList.take (k + 1) = s.data.toList.take k ++ [s[k]] := by
  rw [List.take_succ_eq_append_getElem (by rw [data_len]; exact h), data_get s k h]
theorem data_cons (s : ByteArray) (h : 0 < s.size) : s.data.toList = s[0] :: s.data.toList.drop 1 := by
  have e := List.drop_eq_getElem_cons (l := s.data.toList) (i := 0) (by rw [data_len]; exact h)
  rw [data_get s 0 h] at e
  simpa using e
theorem data_split (s : ByteArray) (k : Nat) (h : k < s.size) : s.data.toList = (s.data.toList.take k ++ [s[k]]) ++ s.data.toList.drop (k + 1) := by
  rw [← data_take s k h, List.take_append_drop]
theorem bad_byte (s : ByteArray) (k : Nat) (h : k < s.size) (hb : isDig s[k] = false) : good s.data.toList = false := by
  apply good_digs
  rw [data_split s k h]
  simp [hb]
theorem bad_big (s : ByteArray) (k : Nat) (hd : (s.data.toList.take (k + 1)).all isDig = true) (hb : 2147483647 < val (s.data.toList.take (k + 1))) : good s.data.toList = false := by
  cases hr : (s.data.toList.drop (k + 1)).all isDig with
  | false =>
    apply good_digs
    rw [← List.take_append_drop (k + 1) s.data.toList, List.all_append, hr, Bool.and_false]
  | true =>
    apply good_big
    have := val_le_append _ _ hd hr
    rw [List.take_append_drop] at this
    omega
theorem dig_of (c : UInt8) (h1 : 48 ≤ (c.toNat : Int)) (h2 : (c.toNat : Int) ≤ 57) : isDig c = true := by
  have a : 48 ≤ c.toNat := by omega
  have b : c.toNat ≤ 57 := by omega
  simp [isDig, a, b]
theorem not_dig_of (c : UInt8) (h : (c.toNat : Int) < 48 ∨ 57 < (c.toNat : Int)) : isDig c = false := by
  cases e : isDig c with
  | false => rfl
  | true => have := isDig_bd e; omega
theorem byte_eq (c : UInt8) (h : (c.toNat : Int) = 48) : c = 48 := UInt8.toNat_inj.1 (by simp; omega)

theorem grown_iter (w : World) (s : ByteArray) (k : Nat) : Grown w (w.iter s k) := by
  refine ⟨World.keptBut_alloc _ _ _, fun a => ?_, by show w.heap.size ≤ (w.heap.push _).size; simp⟩
  by_cases h : a.block = w.heap.size
  · have e1 : (w.iter s k).heap[a.block]? = some (.stringIter s k) := by rw [h]; exact World.iter_heap w s k
    have e2 : w.heap[a.block]? = none := by rw [h]; simp
    simp [World.frozen?, e1, e2]
  · exact World.frozen?_alloc_old _ _ _ h

/-- at most new blocks, in both of the frames' words -/
def GB (w w' : World) : Prop := Grown w w' ∧ Below w.heap.size w w'
theorem gb_refl (w : World) : GB w w := ⟨Grown.refl _, Below.refl _ _⟩
theorem gb_iter (w : World) (s : ByteArray) (k : Nat) : GB w (w.iter s k) := ⟨grown_iter w s k, (Below.refl _ _).alloc (Nat.le_refl _) _⟩

set_option maxHeartbeats 1000000 in
theorem readDigits_run (s : ByteArray) (w : World) (hs : s.size ≤ 9223372036854775807) (hpos : 0 < s.size) (hg : ¬ (1 < s.size ∧ s[0].toNat = 48)) :
    Calls Tryd.prog 16 #[.string s] w fun e w' => e = .returned (.tuple #[.int .i64 (rdN s.data.toList), .bool (good s.data.toList)]) ∧ GB w w' := by
  have hE : s.toList.isEmpty = false := by
    rw [ByteArray.toList_eq, data_cons s hpos]; rfl
  have hN : ¬ s.toList = [] := by
    rw [ByteArray.toList_eq, data_cons s hpos]; simp
  have hhead : ∀ h1 : 1 < s.size, ((s[0].toNat : Int) == 48) = false := fun h1 => by
    have : s[0].toNat ≠ 48 := fun e => hg ⟨h1, e⟩
    simp; omega
  have hgg : ¬ (1 < s.data.toList.length ∧ s.data.toList.head? = some 48) := by
    rintro ⟨a, b⟩
    rw [data_len] at a
    rw [data_cons s hpos] at b
    simp at b
    exact hg ⟨a, by rw [b]; rfl⟩
  have HG : Hid (¬ (1 < s.data.toList.length ∧ s.data.toList.head? = some 48)) := hgg
  clear hgg hg
  go_enter Tryd.func16, Tryd.ntmps16
  by_cases h1 : 1 < s.size
  all_goals first
    | (have hh := hhead h1; have h1' : (1 : Int) < (s.size : Int) := by omega
       clear hhead; go_wp2)
    | (have h1' : (s.size : Int) ≤ 1 := by omega
       clear hhead; go_wp2)
  all_goals
    go_loopw [4] (fun n wr => ∃ k : Nat, k ≤ s.size ∧ wr = w.iter s k ∧ n = .int .i64 (val (s.data.toList.take k)) ∧ Hid ((s.data.toList.take k).all isDig = true) ∧ val (s.data.toList.take k) ≤ 2147483647) (fun _ wr => s.size - wr.iterPos w.heap.size)
    case atStart => exact ⟨0, Nat.zero_le _, rfl, rfl, rfl, by simp [val]⟩
    case round =>
      obtain ⟨k, hk, rfl, rfl, HD, hv⟩ := hrel
      have hv0 := val_nonneg _ HD.out
      by_cases hlt : k < s.size
      · by_cases ha : s[k].toNat < 128
        · have hnx := fun ty => run_next_ascii (P := Tryd.prog) w s k ty hlt ha
          by_cases hd : 48 ≤ (s[k].toNat : Int) ∧ (s[k].toNat : Int) ≤ 57
          · obtain ⟨hd1, hd2⟩ := hd
            have HV : Hid (val (s.data.toList.take (k + 1)) = 10 * val (s.data.toList.take k) + ((s[k].toNat : Int) - 48)) := by
              show val (s.data.toList.take (k + 1)) = _
              rw [data_take s k hlt, val_snoc]
            have HA : Hid ((s.data.toList.take (k + 1)).all isDig = true) := by
              show (s.data.toList.take (k + 1)).all isDig = true
              rw [data_take s k hlt, List.all_append, HD.out]; simp [dig_of _ hd1 hd2]
            go_wp2
            · go_ret2
              have hb : good s.data.toList = false := bad_big s k HA.out (by rw [HV.out]; omega)
              exact ⟨ret2 (rdN_bad hb).symm hb.symm, gb_iter w s _⟩
            · go_roundw
              case rel => exact ⟨k + 1, by omega, rfl, by rw [HV.out]; go_num, HA, by rw [HV.out]; omega⟩
              case measure => simp; omega
          · have hb : good s.data.toList = false := bad_byte s k hlt (not_dig_of _ (by omega))
            have HB : Hid (good s.data.toList = false) := hb
            clear hb
            have hd' : (s[k].toNat : Int) < 48 ∨ 57 < (s[k].toNat : Int) := by omega
            clear hd
            rcases hd' with hd | hd
            all_goals
              go_wp2
              go_ret2
              exact ⟨ret2 (rdN_bad HB.out).symm HB.out.symm, gb_iter w s _⟩
        · have hb : good s.data.toList = false := bad_byte s k hlt (not_dig_of _ (by omega))
          have HB : Hid (good s.data.toList = false) := hb
          clear hb
          have hnx := fun ty => run_next_any (P := Tryd.prog) w s k ty hlt
          have hh := (decode_high s k hlt (by omega)).1
          have hh' : 57 < ((Utf8.decode s k).1 : Int) := by omega
          go_wp2
          go_ret2
          exact ⟨ret2 (rdN_bad HB.out).symm HB.out.symm, gb_iter w s _⟩
      · have hnx := fun ty => run_next_end (P := Tryd.prog) w s k ty hlt
        have hke : s.data.toList.take k = s.data.toList := List.take_of_length_le (by rw [data_len]; omega)
        have HK : Hid (s.data.toList.take k = s.data.toList) := hke
        clear hke
        go_wp2
        go_ret2
        have hgd : good s.data.toList = true := good_mk (by rw [data_cons s hpos]; simp) HG.out (by rw [← HK.out]; exact HD.out) (by rw [← HK.out]; exact hv)
        exact ⟨ret2 (by rw [rdN_good hgd, HK.out]) hgd.symm, gb_iter w s _⟩

theorem readDigits_any (s : ByteArray) (w : World) (hs : s.size ≤ maxLen) :
    Calls Tryd.prog 16 #[.string s] w fun e w' => e = .returned (.tuple #[.int .i64 (rdN s.data.toList), .bool (good s.data.toList)]) ∧ GB w w' := by
  unfold maxLen at hs
  by_cases hpos : 0 < s.size
  · by_cases hg : 1 < s.size ∧ s[0].toNat = 48
    · have hE : s.toList.isEmpty = false := by rw [ByteArray.toList_eq, data_cons s hpos]; rfl
      have hN : ¬ s.toList = [] := by rw [ByteArray.toList_eq, data_cons s hpos]; simp
      obtain ⟨h1, h2⟩ := hg
      have h1' : (1 : Int) < (s.size : Int) := by omega
      have hh : ((s[0].toNat : Int) == 48) = true := by simp; omega
      have hb : good s.data.toList = false := by
        rw [data_cons s hpos]
        refine good_zero _ _ (byte_eq _ (by omega)) ?_
        intro e
        have := congrArg List.length e
        rw [List.length_drop, data_len] at this
        simp at this; omega
      have HB : Hid (good s.data.toList = false) := hb
      clear hb h2
      go_enter Tryd.func16, Tryd.ntmps16
      go_wp2
      go_ret2
      exact ⟨ret2 (rdN_bad HB.out).symm HB.out.symm, gb_refl _⟩
    · exact readDigits_run s w hs hpos hg
  · have e : s = ByteArray.empty := by
      apply (toList_nil_iff_emptyBytes s).1
      rw [ByteArray.toList_eq]
      exact List.length_eq_zero_iff.1 (by rw [data_len]; omega)
    subst e
    go_enter Tryd.func16, Tryd.ntmps16
    go_wp2
    go_ret2
    exact ⟨rfl, gb_refl _⟩
end Go.Proofs.YtjfepkhcfeglcaaDoor
