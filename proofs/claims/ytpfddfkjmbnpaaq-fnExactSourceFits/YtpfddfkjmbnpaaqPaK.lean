/-
  Chapter 7, the program: meetsAll: whether each function value of a list holds. Written by tools/pak.gen.py. Own work.
-/
import Derived.Test.YtpfddfkjmbnpaaqPaJ
import Derived.Test.YtpfddfkjmbnpaaqPaD
namespace Go.Proofs.Ytpfddfkjmbnpaaq
open Go.ChangeShapes Go.WideShapes Go.ChangeAt Go.RowKit
set_option maxRecDepth 100000
set_option linter.unusedVariables false
set_option linter.unusedSimpArgs false

/-- a row of function values lies in block q -/
def Dms (w : World) (q n : Nat) (D : Nat → Nat) (C : Nat → Array Value) : Prop := ∀ i, i < n → w.cell? ⟨q, i, none⟩ = some (.func (.func (D i)) #[] (C i))
theorem Dms.grew {w w' : World} {q n : Nat} {D : Nat → Nat} {C : Nat → Array Value} (h : Dms w q n D C) (hb : Below w.heap.size w w') : Dms w' q n D C :=
  fun i hi => (hb.cell (World.block_lt_of_cell? w _ (h i hi))).trans (h i hi)
/-- each of them answers so, in whatever world there is later -/
def Ent (f : Nat) : Prop := ∀ (args : Array Value) (w : World), (callFunc f args).run Try.prog w = .ok (.enter f args) w
def Asks (w : World) (s : Stt) (e : Ev) (n : Nat) (D : Nat → Nat) (C : Nat → Array Value) (B : Nat → Bool) : Prop :=
  ∀ i, i < n → Ent (D i) ∧ ∀ u : World, Below w.heap.size w u → Calls Try.prog (D i) (#[(.agg #[.slice s.pa s.pn s.pcap, .slice s.sa s.sn s.scap, .int .i64 s.ac, .int .i64 s.cl]), (.agg #[.int .i64 e.kd, .int .i64 e.sr, .int .i64 e.pi, .int .i64 e.si, .int .i64 e.nn, .int .i64 e.zo, .bool e.be])] ++ C i) u fun r w' => r = .returned (.bool (B i)) ∧ Below u.heap.size u w'
theorem allB_no {n k : Nat} {f : Nat → Bool} (hk : k < n) (h : f k = false) : (List.range n).all f = false := by rw [List.all_eq_false]; exact ⟨k, List.mem_range.2 hk, by simp [h]⟩
theorem allB_yes {n : Nat} {f : Nat → Bool} (h : ∀ k, k < n → f k = true) : (List.range n).all f = true := by rw [List.all_eq_true]; exact fun k hk => h k (List.mem_range.1 hk)
set_option maxHeartbeats 4000000 in
theorem meetsAll_any (s : Stt) (e : Ev) (q n c : Nat) (D : Nat → Nat) (C : Nat → Array Value) (B : Nat → Bool) (w : World) (hn : n ≤ 1048576) (hd : Dms w q n D C) (ha : Asks w s e n D C B) :
    Calls Try.prog 29 #[(.agg #[.slice s.pa s.pn s.pcap, .slice s.sa s.sn s.scap, .int .i64 s.ac, .int .i64 s.cl]), (.agg #[.int .i64 e.kd, .int .i64 e.sr, .int .i64 e.pi, .int .i64 e.si, .int .i64 e.nn, .int .i64 e.zo, .bool e.be]), .slice (some ⟨q, 0, none⟩) n c] w fun r w' => r = .returned (.bool ((List.range n).all B)) ∧ Below w.heap.size w w' := by
  have hb0 := ((Below.refl _ w).alloc (Nat.le_refl _) (.cells #[.slice s.pa s.pn s.pcap, .slice s.sa s.sn s.scap, .int .i64 s.ac, .int .i64 s.cl] 39)).alloc (by simp) (.cells #[.int .i64 e.kd, .int .i64 e.sr, .int .i64 e.pi, .int .i64 e.si, .int .i64 e.nn, .int .i64 e.zo, .bool e.be] 41)
  have x1 := (boxR_new w 39 #[.slice s.pa s.pn s.pcap, .slice s.sa s.sn s.scap, .int .i64 s.ac, .int .i64 s.cl]).alloc (.cells #[.int .i64 e.kd, .int .i64 e.sr, .int .i64 e.pi, .int .i64 e.si, .int .i64 e.nn, .int .i64 e.zo, .bool e.be] 41)
  have x2 : BoxE ((w.alloc (.cells #[.slice s.pa s.pn s.pcap, .slice s.sa s.sn s.scap, .int .i64 s.ac, .int .i64 s.cl] 39)).alloc (.cells #[.int .i64 e.kd, .int .i64 e.sr, .int .i64 e.pi, .int .i64 e.si, .int .i64 e.nn, .int .i64 e.zo, .bool e.be] 41)) ((w.alloc (.cells #[.slice s.pa s.pn s.pcap, .slice s.sa s.sn s.scap, .int .i64 s.ac, .int .i64 s.cl] 39)).heap.size) 41 e := boxE_new _ _ _
  simp only [World.size_alloc] at x2
  have HD : Hid (∀ u, Below w.heap.size w u → Dms u q n D C) := fun u h => hd.grew h
  have HA : Hid (Asks w s e n D C B) := ha
  clear ha hd
  go_enter Try.func29, Try.ntmps29
  go_wp2
  generalize hW : (w.alloc (.cells #[.slice s.pa s.pn s.pcap, .slice s.sa s.sn s.scap, .int .i64 s.ac, .int .i64 s.cl] 39)).alloc (.cells #[.int .i64 e.kd, .int .i64 e.sr, .int .i64 e.pi, .int .i64 e.si, .int .i64 e.nn, .int .i64 e.zo, .bool e.be] 41) = W at hb0 x1 x2 ⊢
  have hsz : w.heap.size ≤ W.heap.size := hb0.size
  go_loopw [11] (fun i wr => ∃ k : Nat, k ≤ n ∧ i = .int .i64 k ∧ Below W.heap.size W wr ∧ Hid (∀ j, j < k → B j = true)) (fun i _ => n - (intOf i).toNat)
  case atStart => exact ⟨0, Nat.zero_le _, rfl, Below.refl _ _, fun j hj => by omega⟩
  case round =>
    obtain ⟨k, hk, rfl, hb, hall⟩ := hrel
    have hbw : Below w.heap.size w wr := below_app hb0 hb hsz
    replace x1 := x1.grew hb
    replace x2 := x2.grew hb
    have c0 := x1.cell 0
    have c1 := x1.cell 1
    have c2 := x1.cell 2
    have c3 := x1.cell 3
    simp at c0 c1 c2 c3
    obtain ⟨k0, k1, k2, k3, k4, k5, k6⟩ : Cells7 _ _ _ := x2.cells
    by_cases hlt : k < n
    · have hf := HD.out _ hbw k hlt
      cases hB : B k
      · have HR : Hid ((List.range n).all B = false) := allB_no hlt hB
        have hen : ∀ (args : Array Value) (w : World), (callFunc (D k) args).run Try.prog w = .ok (.enter (D k) args) w := (HA.out k hlt).1
        go_wp2_with fail
        refine ((HA.out k hlt).2 _ hbw).mono ?_
        rintro r w1 ⟨rfl, hb1⟩
        rw [hB]
        clear c0 c1 c2 c3 k0 k1 k2 k3 k4 k5 k6 hf
        go_wp2
        go_ret
        exact ⟨ret_bool' HR.out.symm, below_app hbw hb1 hbw.size⟩
      · have HN : Hid (∀ j, j < k + 1 → B j = true) := fun j hj => by
          by_cases ej : j = k
          · rw [ej]; exact hB
          · exact hall.out j (by omega)
        have hen : ∀ (args : Array Value) (w : World), (callFunc (D k) args).run Try.prog w = .ok (.enter (D k) args) w := (HA.out k hlt).1
        go_wp2_with fail
        refine ((HA.out k hlt).2 _ hbw).mono ?_
        rintro r w1 ⟨rfl, hb1⟩
        rw [hB]
        clear c0 c1 c2 c3 k0 k1 k2 k3 k4 k5 k6 hf
        go_wp2
        go_roundw
        case rel => exact ⟨k + 1, by omega, by go_num, below_app hb hb1 hb.size, HN⟩
        case measure => simp [intOf]; omega
    · have HR : Hid ((List.range n).all B = true) := allB_yes fun j hj => hall.out j (by omega)
      go_wp2
      go_ret
      exact ⟨ret_bool' HR.out.symm, hbw⟩
end Go.Proofs.Ytpfddfkjmbnpaaq
