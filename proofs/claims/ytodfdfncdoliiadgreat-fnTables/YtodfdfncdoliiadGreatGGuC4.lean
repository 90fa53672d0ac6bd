/-
  Chapter 8: the specification's counts: l8Many (mnG), BentOf (bnG). Written by tools/gu.gen.py. Structs, and rows of them, held against each other: what '==' answers (run_eq_pc, run_eq_sd, run_eq_row). Written by a script. Chapter 5: two states held against each other: the specification's SameState; the library's Equal at pieces, the program's rowAt, sameSides, SameState. States as functions answer them, and the laws' own steps over them: which stay when another is marked (Away), which are alike (Alike). Own work.
-/
import Derived.Test.YtodfdfncdoliiadGreatGPaB5
import Derived.Test.YtodfdfncdoliiadGreatGSeg5
import Derived.DeepKeys
import Derived.Test.YtodfdfncdoliiadGreatGState52
import Derived.Laws.CopyRow
import Derived.Lib.SlBuf
import Derived.Test.YtodfdfncdoliiadGreatGPieceOk3
import Derived.Test.YtodfdfncdoliiadGreatGRegCut3
namespace Go.Proofs.YtodfdfncdoliiadGreat
open Go.ChangeShapes Go.WideShapes Go.ChangeAt Go.RowKit
set_option maxRecDepth 100000
set_option linter.unusedVariables false
set_option linter.unusedSimpArgs false

def mnP (side : Int) (p : Pc) : Bool := decide (p.zo = 2) && decide (p.si = side)
def bnP (side : Int) (p : Pc) : Bool := decide (p.zo = 2) && decide (p.si = side) && p.be
/-- how many of the first n are so -/
def cnG (f : Pc → Bool) (n : Nat) (ps : Nat → Pc) : Nat := ((List.range n).filter (fun i => f (ps i))).length
theorem cnG_yes {f : Pc → Bool} {k : Nat} {ps : Nat → Pc} (h : f (ps k) = true) : cnG f (k + 1) ps = cnG f k ps + 1 := by unfold cnG; rw [List.range_succ, List.filter_append]; simp [h]
theorem cnG_no {f : Pc → Bool} {k : Nat} {ps : Nat → Pc} (h : f (ps k) = false) : cnG f (k + 1) ps = cnG f k ps := by unfold cnG; rw [List.range_succ, List.filter_append]; simp [h]
theorem cnG_le (f : Pc → Bool) (n : Nat) (ps : Nat → Pc) : cnG f n ps ≤ n := by unfold cnG; exact Nat.le_trans (List.length_filter_le _ _) (by simp)
/-- how many pieces this side has on the field; how many of them are bent -/
def mnG (s : Stt) (side : Int) : Nat := cnG (mnP side) s.pn s.ps
def bnG (s : Stt) (side : Int) : Nat := cnG (bnP side) s.pn s.ps
set_option maxHeartbeats 4000000 in
theorem specL8Many_any (s : Stt) (side : Int) (w : World) (hok : s.ok w) (hn : s.pn ≤ 1048576) : Calls Tryz.prog 112 #[(.agg #[.slice s.pa s.pn s.pcap, .slice s.sa s.sn s.scap, .int .i64 s.ac, .int .i64 s.cl]), .int .i64 side] w fun e w' => e = .returned (.int .i64 (mnG s side)) ∧ Below w.heap.size w w' := by
  obtain ⟨_, _, r1, _⟩ := hok
  have hb0 := (Below.refl _ w).alloc (Nat.le_refl _) (.cells #[.slice s.pa s.pn s.pcap, .slice s.sa s.sn s.scap, .int .i64 s.ac, .int .i64 s.cl] 37)
  have x1 := boxR_new w 37 #[.slice s.pa s.pn s.pcap, .slice s.sa s.sn s.scap, .int .i64 s.ac, .int .i64 s.cl]
  generalize hW : w.alloc (.cells #[.slice s.pa s.pn s.pcap, .slice s.sa s.sn s.scap, .int .i64 s.ac, .int .i64 s.cl] 37) = W at hb0 x1
  go_enter Tryz.func112, Tryz.ntmps112
  go_wp2
  clear hW
  go_loopw [5, 6] (fun c i wr => ∃ k : Nat, k ≤ s.pn ∧ i = .int .i64 k ∧ c = .int .i64 (cnG (mnP side) k s.ps) ∧ wr = W) (fun _ i _ => s.pn - (intOf i).toNat)
  case atStart => exact ⟨0, Nat.zero_le _, rfl, rfl, rfl⟩
  case round =>
    obtain ⟨k, hk, rfl, rfl, rfl⟩ := hrel
    have c0 := x1.cell 0
    simp at c0
    by_cases hlt : k < s.pn
    · rcases r1.grew pcC_ne hb0 with g1 | ⟨o1, hpa, g1⟩
      · omega
      rw [hpa] at c0
      have k2 := g1 k hlt 2 _ rfl
      have k3 := g1 k hlt 3 _ rfl
      have k12 := g1 k hlt 12 _ rfl
      have hl := cnG_le (mnP side) k s.ps
      clear hpa g1
      have y1 : (0 : Int) ≤ (k : Int) := by omega
      have y2 : (k : Int) < (s.pn : Int) := by omega
      cases q3 : ((s.ps k).zo == 2)
      case false =>
        have hf : mnP side (s.ps k) = false := by unfold mnP; simp_all
        have HE : Hid (cnG (mnP side) (k + 1) s.ps = cnG (mnP side) k s.ps) := cnG_no hf
        clear hf
        go_wp2
        go_roundw
        case rel => first | exact ⟨k + 1, by omega, by go_num, by (rw [HE.out]; try (first | go_num | simp)), by first | rfl | trivial⟩ | ((repeat apply Exists.intro); exact ⟨⟨k + 1, by omega, by go_num, by (rw [HE.out]; try (first | go_num | simp)), by first | rfl | trivial⟩, rfl⟩)
        case measure => simp [intOf]; omega
      case true =>
        cases q2 : ((s.ps k).si == side)
        case false =>
          have hf : mnP side (s.ps k) = false := by unfold mnP; simp_all
          have HE : Hid (cnG (mnP side) (k + 1) s.ps = cnG (mnP side) k s.ps) := cnG_no hf
          clear hf
          go_wp2
          go_roundw
          case rel => first | exact ⟨k + 1, by omega, by go_num, by (rw [HE.out]; try (first | go_num | simp)), by first | rfl | trivial⟩ | ((repeat apply Exists.intro); exact ⟨⟨k + 1, by omega, by go_num, by (rw [HE.out]; try (first | go_num | simp)), by first | rfl | trivial⟩, rfl⟩)
          case measure => simp [intOf]; omega
        case true =>
          have hf : mnP side (s.ps k) = true := by unfold mnP; simp_all
          have HE : Hid (cnG (mnP side) (k + 1) s.ps = cnG (mnP side) k s.ps + 1) := cnG_yes hf
          clear hf
          go_wp2
          go_roundw
          case rel => first | exact ⟨k + 1, by omega, by go_num, by (rw [HE.out]; try (first | go_num | simp)), by first | rfl | trivial⟩ | ((repeat apply Exists.intro); exact ⟨⟨k + 1, by omega, by go_num, by (rw [HE.out]; try (first | go_num | simp)), by first | rfl | trivial⟩, rfl⟩)
          case measure => simp [intOf]; omega
    · obtain rfl : k = s.pn := by omega
      go_wp2
      go_ret
      exact ⟨rfl, hb0⟩
set_option maxHeartbeats 4000000 in
theorem specBentOf_any (s : Stt) (side : Int) (w : World) (hok : s.ok w) (hn : s.pn ≤ 1048576) : Calls Tryz.prog 113 #[(.agg #[.slice s.pa s.pn s.pcap, .slice s.sa s.sn s.scap, .int .i64 s.ac, .int .i64 s.cl]), .int .i64 side] w fun e w' => e = .returned (.int .i64 (bnG s side)) ∧ Below w.heap.size w w' := by
  obtain ⟨_, _, r1, _⟩ := hok
  have hb0 := (Below.refl _ w).alloc (Nat.le_refl _) (.cells #[.slice s.pa s.pn s.pcap, .slice s.sa s.sn s.scap, .int .i64 s.ac, .int .i64 s.cl] 37)
  have x1 := boxR_new w 37 #[.slice s.pa s.pn s.pcap, .slice s.sa s.sn s.scap, .int .i64 s.ac, .int .i64 s.cl]
  generalize hW : w.alloc (.cells #[.slice s.pa s.pn s.pcap, .slice s.sa s.sn s.scap, .int .i64 s.ac, .int .i64 s.cl] 37) = W at hb0 x1
  go_enter Tryz.func113, Tryz.ntmps113
  go_wp2
  clear hW
  go_loopw [5, 6] (fun c i wr => ∃ k : Nat, k ≤ s.pn ∧ i = .int .i64 k ∧ c = .int .i64 (cnG (bnP side) k s.ps) ∧ wr = W) (fun _ i _ => s.pn - (intOf i).toNat)
  case atStart => exact ⟨0, Nat.zero_le _, rfl, rfl, rfl⟩
  case round =>
    obtain ⟨k, hk, rfl, rfl, rfl⟩ := hrel
    have c0 := x1.cell 0
    simp at c0
    by_cases hlt : k < s.pn
    · rcases r1.grew pcC_ne hb0 with g1 | ⟨o1, hpa, g1⟩
      · omega
      rw [hpa] at c0
      have k2 := g1 k hlt 2 _ rfl
      have k3 := g1 k hlt 3 _ rfl
      have k12 := g1 k hlt 12 _ rfl
      have hl := cnG_le (bnP side) k s.ps
      clear hpa g1
      have y1 : (0 : Int) ≤ (k : Int) := by omega
      have y2 : (k : Int) < (s.pn : Int) := by omega
      cases q3 : ((s.ps k).zo == 2)
      case false =>
        have hf : bnP side (s.ps k) = false := by unfold bnP; simp_all
        have HE : Hid (cnG (bnP side) (k + 1) s.ps = cnG (bnP side) k s.ps) := cnG_no hf
        clear hf
        go_wp2
        go_roundw
        case rel => first | exact ⟨k + 1, by omega, by go_num, by (rw [HE.out]; try (first | go_num | simp)), by first | rfl | trivial⟩ | ((repeat apply Exists.intro); exact ⟨⟨k + 1, by omega, by go_num, by (rw [HE.out]; try (first | go_num | simp)), by first | rfl | trivial⟩, rfl⟩)
        case measure => simp [intOf]; omega
      case true =>
        cases q2 : ((s.ps k).si == side)
        case false =>
          have hf : bnP side (s.ps k) = false := by unfold bnP; simp_all
          have HE : Hid (cnG (bnP side) (k + 1) s.ps = cnG (bnP side) k s.ps) := cnG_no hf
          clear hf
          go_wp2
          go_roundw
          case rel => first | exact ⟨k + 1, by omega, by go_num, by (rw [HE.out]; try (first | go_num | simp)), by first | rfl | trivial⟩ | ((repeat apply Exists.intro); exact ⟨⟨k + 1, by omega, by go_num, by (rw [HE.out]; try (first | go_num | simp)), by first | rfl | trivial⟩, rfl⟩)
          case measure => simp [intOf]; omega
        case true =>
          cases q1 : (s.ps k).be
          case false =>
            rw [q1] at k12
            have hf : bnP side (s.ps k) = false := by unfold bnP; simp_all
            have HE : Hid (cnG (bnP side) (k + 1) s.ps = cnG (bnP side) k s.ps) := cnG_no hf
            clear hf
            go_wp2
            go_roundw
            case rel => first | exact ⟨k + 1, by omega, by go_num, by (rw [HE.out]; try (first | go_num | simp)), by first | rfl | trivial⟩ | ((repeat apply Exists.intro); exact ⟨⟨k + 1, by omega, by go_num, by (rw [HE.out]; try (first | go_num | simp)), by first | rfl | trivial⟩, rfl⟩)
            case measure => simp [intOf]; omega
          case true =>
            rw [q1] at k12
            have hf : bnP side (s.ps k) = true := by unfold bnP; simp_all
            have HE : Hid (cnG (bnP side) (k + 1) s.ps = cnG (bnP side) k s.ps + 1) := cnG_yes hf
            clear hf
            go_wp2
            go_roundw
            case rel => first | exact ⟨k + 1, by omega, by go_num, by (rw [HE.out]; try (first | go_num | simp)), by first | rfl | trivial⟩ | ((repeat apply Exists.intro); exact ⟨⟨k + 1, by omega, by go_num, by (rw [HE.out]; try (first | go_num | simp)), by first | rfl | trivial⟩, rfl⟩)
            case measure => simp [intOf]; omega
    · obtain rfl : k = s.pn := by omega
      go_wp2
      go_ret
      exact ⟨rfl, hb0⟩
end Go.Proofs.YtodfdfncdoliiadGreat
namespace Go.Proofs.YtodfdfncdoliiadGreat
open Go.ChangeShapes Go.WideShapes Go.ChangeAt Go.RowKit
set_option maxRecDepth 100000
set_option linter.unusedVariables false
set_option linter.unusedSimpArgs false
/-- whether two sides are the same -/
def smD (s t : Sd) : Bool := decide (s.li = t.li) && decide (s.po = t.po) && (s.lo == t.lo)
theorem Tryz.fieldsPc : (Tryz.prog.fieldsOf 139).toList.map (fun f => (f.name == "_", f.type, f.offset)) = [(false, 3, 0), (false, 3, 1), (false, 3, 2), (false, 3, 3), (false, 3, 4), (false, 3, 5), (false, 3, 6), (false, 3, 7), (false, 3, 8), (false, 3, 9), (false, 3, 10), (false, 4, 11), (false, 4, 12)] := by kernel_rfl
theorem Tryz.fieldsSd : (Tryz.prog.fieldsOf 137).toList.map (fun f => (f.name == "_", f.type, f.offset)) = [(false, 3, 0), (false, 3, 1), (false, 4, 2)] := by kernel_rfl
theorem eqFields_step {P : Program} {d : Nat} {xs ys : Array Value} {f : Field} {fs : List Field} {a b : Value} {r r' : Bool} (w : World) (hn : (f.name == "_") = false) (h1 : (part f.type xs f.offset).run P w = .ok a w) (h2 : (part f.type ys f.offset).run P w = .ok b w) (h3 : (Op.equalIn d f.type a b).run P w = .ok r w) (h4 : (Op.eqFields d xs ys fs).run P w = .ok r' w) : (Op.eqFields d xs ys (f :: fs)).run P w = .ok (r && r') w := by
  have hn' : f.name ≠ "_" := by simpa using hn
  simp only [Op.eqFields, hn', ne_eq, not_false_eq_true, if_true, Sem.run_bind, h1, h2, h3, Result.andThen_ok]
  cases r
  · simp
  · simpa using h4
theorem eqFields_nil {P : Program} {d : Nat} {xs ys : Array Value} (w : World) : (Op.eqFields d xs ys []).run P w = .ok true w := by simp [Op.eqFields]
theorem list_of_map {α β : Type} {g : α → β} : ∀ {l : List α} {b : β} {bs : List β}, l.map g = b :: bs → ∃ a l', l = a :: l' ∧ g a = b ∧ l'.map g = bs
  | a :: l, _, _, h => by
    simp only [List.map_cons, List.cons.injEq] at h
    exact ⟨a, l, rfl, h.1, h.2⟩
theorem run_eq_pc (p q : Pc) (w : World) : (Op.equalIn 10000 139 (.agg #[.int .i64 p.id, .int .i64 p.ow, .int .i64 p.si, .int .i64 p.zo, .int .i64 p.st, .int .i64 p.po, .int .i64 p.to, .int .i64 p.tr, .int .i64 p.pl, .int .i64 p.mi, .int .i64 p.ma, .bool p.de, .bool p.be]) (.agg #[.int .i64 q.id, .int .i64 q.ow, .int .i64 q.si, .int .i64 q.zo, .int .i64 q.st, .int .i64 q.po, .int .i64 q.to, .int .i64 q.tr, .int .i64 q.pl, .int .i64 q.mi, .int .i64 q.ma, .bool q.de, .bool q.be])).run Tryz.prog w = .ok (smP p q) w := by
  rw [run_equalIn_struct w 9999 _ _ _ (by kernel_rfl) (by kernel_rfl)]
  have hL := Tryz.fieldsPc
  generalize (Tryz.prog.fieldsOf 139).toList = L at hL ⊢
  obtain ⟨f0, L0, rfl, e0, hL⟩ := list_of_map hL
  obtain ⟨f1, L1, rfl, e1, hL⟩ := list_of_map hL
  obtain ⟨f2, L2, rfl, e2, hL⟩ := list_of_map hL
  obtain ⟨f3, L3, rfl, e3, hL⟩ := list_of_map hL
  obtain ⟨f4, L4, rfl, e4, hL⟩ := list_of_map hL
  obtain ⟨f5, L5, rfl, e5, hL⟩ := list_of_map hL
  obtain ⟨f6, L6, rfl, e6, hL⟩ := list_of_map hL
  obtain ⟨f7, L7, rfl, e7, hL⟩ := list_of_map hL
  obtain ⟨f8, L8, rfl, e8, hL⟩ := list_of_map hL
  obtain ⟨f9, L9, rfl, e9, hL⟩ := list_of_map hL
  obtain ⟨f10, L10, rfl, e10, hL⟩ := list_of_map hL
  obtain ⟨f11, L11, rfl, e11, hL⟩ := list_of_map hL
  obtain ⟨f12, L12, rfl, e12, hL⟩ := list_of_map hL
  rw [List.map_eq_nil_iff] at hL
  subst hL
  simp only [Prod.mk.injEq] at e0
  obtain ⟨n0, t0, o0⟩ := e0
  simp only [Prod.mk.injEq] at e1
  obtain ⟨n1, t1, o1⟩ := e1
  simp only [Prod.mk.injEq] at e2
  obtain ⟨n2, t2, o2⟩ := e2
  simp only [Prod.mk.injEq] at e3
  obtain ⟨n3, t3, o3⟩ := e3
  simp only [Prod.mk.injEq] at e4
  obtain ⟨n4, t4, o4⟩ := e4
  simp only [Prod.mk.injEq] at e5
  obtain ⟨n5, t5, o5⟩ := e5
  simp only [Prod.mk.injEq] at e6
  obtain ⟨n6, t6, o6⟩ := e6
  simp only [Prod.mk.injEq] at e7
  obtain ⟨n7, t7, o7⟩ := e7
  simp only [Prod.mk.injEq] at e8
  obtain ⟨n8, t8, o8⟩ := e8
  simp only [Prod.mk.injEq] at e9
  obtain ⟨n9, t9, o9⟩ := e9
  simp only [Prod.mk.injEq] at e10
  obtain ⟨n10, t10, o10⟩ := e10
  simp only [Prod.mk.injEq] at e11
  obtain ⟨n11, t11, o11⟩ := e11
  simp only [Prod.mk.injEq] at e12
  obtain ⟨n12, t12, o12⟩ := e12
  have h := eqFields_nil (P := Tryz.prog) (d := 9999) (xs := #[.int .i64 p.id, .int .i64 p.ow, .int .i64 p.si, .int .i64 p.zo, .int .i64 p.st, .int .i64 p.po, .int .i64 p.to, .int .i64 p.tr, .int .i64 p.pl, .int .i64 p.mi, .int .i64 p.ma, .bool p.de, .bool p.be]) (ys := #[.int .i64 q.id, .int .i64 q.ow, .int .i64 q.si, .int .i64 q.zo, .int .i64 q.st, .int .i64 q.po, .int .i64 q.to, .int .i64 q.tr, .int .i64 q.pl, .int .i64 q.mi, .int .i64 q.ma, .bool q.de, .bool q.be]) w
  replace h := eqFields_step (f := f12) w n12 (by rw [t12, o12]; exact run_part_plain w (by kernel_rfl) rfl) (by rw [t12, o12]; exact run_part_plain w (by kernel_rfl) rfl) (by rw [t12]; exact run_equalIn_bool' w 9998 4 _ _ Tryz.underlying4) h
  replace h := eqFields_step (f := f11) w n11 (by rw [t11, o11]; exact run_part_plain w (by kernel_rfl) rfl) (by rw [t11, o11]; exact run_part_plain w (by kernel_rfl) rfl) (by rw [t11]; exact run_equalIn_bool' w 9998 4 _ _ Tryz.underlying4) h
  replace h := eqFields_step (f := f10) w n10 (by rw [t10, o10]; exact run_part_plain w (by kernel_rfl) rfl) (by rw [t10, o10]; exact run_part_plain w (by kernel_rfl) rfl) (by rw [t10]; exact run_equalIn_int w 9998 3 .i64 .i64 _ _ Tryz.underlying3) h
  replace h := eqFields_step (f := f9) w n9 (by rw [t9, o9]; exact run_part_plain w (by kernel_rfl) rfl) (by rw [t9, o9]; exact run_part_plain w (by kernel_rfl) rfl) (by rw [t9]; exact run_equalIn_int w 9998 3 .i64 .i64 _ _ Tryz.underlying3) h
  replace h := eqFields_step (f := f8) w n8 (by rw [t8, o8]; exact run_part_plain w (by kernel_rfl) rfl) (by rw [t8, o8]; exact run_part_plain w (by kernel_rfl) rfl) (by rw [t8]; exact run_equalIn_int w 9998 3 .i64 .i64 _ _ Tryz.underlying3) h
  replace h := eqFields_step (f := f7) w n7 (by rw [t7, o7]; exact run_part_plain w (by kernel_rfl) rfl) (by rw [t7, o7]; exact run_part_plain w (by kernel_rfl) rfl) (by rw [t7]; exact run_equalIn_int w 9998 3 .i64 .i64 _ _ Tryz.underlying3) h
  replace h := eqFields_step (f := f6) w n6 (by rw [t6, o6]; exact run_part_plain w (by kernel_rfl) rfl) (by rw [t6, o6]; exact run_part_plain w (by kernel_rfl) rfl) (by rw [t6]; exact run_equalIn_int w 9998 3 .i64 .i64 _ _ Tryz.underlying3) h
  replace h := eqFields_step (f := f5) w n5 (by rw [t5, o5]; exact run_part_plain w (by kernel_rfl) rfl) (by rw [t5, o5]; exact run_part_plain w (by kernel_rfl) rfl) (by rw [t5]; exact run_equalIn_int w 9998 3 .i64 .i64 _ _ Tryz.underlying3) h
  replace h := eqFields_step (f := f4) w n4 (by rw [t4, o4]; exact run_part_plain w (by kernel_rfl) rfl) (by rw [t4, o4]; exact run_part_plain w (by kernel_rfl) rfl) (by rw [t4]; exact run_equalIn_int w 9998 3 .i64 .i64 _ _ Tryz.underlying3) h
  replace h := eqFields_step (f := f3) w n3 (by rw [t3, o3]; exact run_part_plain w (by kernel_rfl) rfl) (by rw [t3, o3]; exact run_part_plain w (by kernel_rfl) rfl) (by rw [t3]; exact run_equalIn_int w 9998 3 .i64 .i64 _ _ Tryz.underlying3) h
  replace h := eqFields_step (f := f2) w n2 (by rw [t2, o2]; exact run_part_plain w (by kernel_rfl) rfl) (by rw [t2, o2]; exact run_part_plain w (by kernel_rfl) rfl) (by rw [t2]; exact run_equalIn_int w 9998 3 .i64 .i64 _ _ Tryz.underlying3) h
  replace h := eqFields_step (f := f1) w n1 (by rw [t1, o1]; exact run_part_plain w (by kernel_rfl) rfl) (by rw [t1, o1]; exact run_part_plain w (by kernel_rfl) rfl) (by rw [t1]; exact run_equalIn_int w 9998 3 .i64 .i64 _ _ Tryz.underlying3) h
  replace h := eqFields_step (f := f0) w n0 (by rw [t0, o0]; exact run_part_plain w (by kernel_rfl) rfl) (by rw [t0, o0]; exact run_part_plain w (by kernel_rfl) rfl) (by rw [t0]; exact run_equalIn_int w 9998 3 .i64 .i64 _ _ Tryz.underlying3) h
  rw [h]
  congr 1
  unfold smP
  simp only [Bool.and_true, Bool.and_assoc]
  rfl
theorem run_eq_sd (s t : Sd) (w : World) : (Op.equalIn 10000 137 (.agg #[.int .i64 s.li, .int .i64 s.po, .bool s.lo]) (.agg #[.int .i64 t.li, .int .i64 t.po, .bool t.lo])).run Tryz.prog w = .ok (smD s t) w := by
  rw [run_equalIn_struct w 9999 _ _ _ (by kernel_rfl) (by kernel_rfl)]
  have hL := Tryz.fieldsSd
  generalize (Tryz.prog.fieldsOf 137).toList = L at hL ⊢
  obtain ⟨f0, L0, rfl, e0, hL⟩ := list_of_map hL
  obtain ⟨f1, L1, rfl, e1, hL⟩ := list_of_map hL
  obtain ⟨f2, L2, rfl, e2, hL⟩ := list_of_map hL
  rw [List.map_eq_nil_iff] at hL
  subst hL
  simp only [Prod.mk.injEq] at e0
  obtain ⟨n0, t0, o0⟩ := e0
  simp only [Prod.mk.injEq] at e1
  obtain ⟨n1, t1, o1⟩ := e1
  simp only [Prod.mk.injEq] at e2
  obtain ⟨n2, t2, o2⟩ := e2
  have h := eqFields_nil (P := Tryz.prog) (d := 9999) (xs := #[.int .i64 s.li, .int .i64 s.po, .bool s.lo]) (ys := #[.int .i64 t.li, .int .i64 t.po, .bool t.lo]) w
  replace h := eqFields_step (f := f2) w n2 (by rw [t2, o2]; exact run_part_plain w (by kernel_rfl) rfl) (by rw [t2, o2]; exact run_part_plain w (by kernel_rfl) rfl) (by rw [t2]; exact run_equalIn_bool' w 9998 4 _ _ Tryz.underlying4) h
  replace h := eqFields_step (f := f1) w n1 (by rw [t1, o1]; exact run_part_plain w (by kernel_rfl) rfl) (by rw [t1, o1]; exact run_part_plain w (by kernel_rfl) rfl) (by rw [t1]; exact run_equalIn_int w 9998 3 .i64 .i64 _ _ Tryz.underlying3) h
  replace h := eqFields_step (f := f0) w n0 (by rw [t0, o0]; exact run_part_plain w (by kernel_rfl) rfl) (by rw [t0, o0]; exact run_part_plain w (by kernel_rfl) rfl) (by rw [t0]; exact run_equalIn_int w 9998 3 .i64 .i64 _ _ Tryz.underlying3) h
  rw [h]
  congr 1
  unfold smD
  simp only [Bool.and_true, Bool.and_assoc]
  rfl
theorem run_eq_sd1 (s t : Sd) (w : World) : (Op.equalIn 9999 137 (.agg #[.int .i64 s.li, .int .i64 s.po, .bool s.lo]) (.agg #[.int .i64 t.li, .int .i64 t.po, .bool t.lo])).run Tryz.prog w = .ok (smD s t) w := by
  rw [run_equalIn_struct w 9998 _ _ _ (by kernel_rfl) (by kernel_rfl)]
  have hL := Tryz.fieldsSd
  generalize (Tryz.prog.fieldsOf 137).toList = L at hL ⊢
  obtain ⟨f0, L0, rfl, e0, hL⟩ := list_of_map hL
  obtain ⟨f1, L1, rfl, e1, hL⟩ := list_of_map hL
  obtain ⟨f2, L2, rfl, e2, hL⟩ := list_of_map hL
  rw [List.map_eq_nil_iff] at hL
  subst hL
  simp only [Prod.mk.injEq] at e0
  obtain ⟨n0, t0, o0⟩ := e0
  simp only [Prod.mk.injEq] at e1
  obtain ⟨n1, t1, o1⟩ := e1
  simp only [Prod.mk.injEq] at e2
  obtain ⟨n2, t2, o2⟩ := e2
  have h := eqFields_nil (P := Tryz.prog) (d := 9998) (xs := #[.int .i64 s.li, .int .i64 s.po, .bool s.lo]) (ys := #[.int .i64 t.li, .int .i64 t.po, .bool t.lo]) w
  replace h := eqFields_step (f := f2) w n2 (by rw [t2, o2]; exact run_part_plain w (by kernel_rfl) rfl) (by rw [t2, o2]; exact run_part_plain w (by kernel_rfl) rfl) (by rw [t2]; exact run_equalIn_bool' w 9997 4 _ _ Tryz.underlying4) h
  replace h := eqFields_step (f := f1) w n1 (by rw [t1, o1]; exact run_part_plain w (by kernel_rfl) rfl) (by rw [t1, o1]; exact run_part_plain w (by kernel_rfl) rfl) (by rw [t1]; exact run_equalIn_int w 9997 3 .i64 .i64 _ _ Tryz.underlying3) h
  replace h := eqFields_step (f := f0) w n0 (by rw [t0, o0]; exact run_part_plain w (by kernel_rfl) rfl) (by rw [t0, o0]; exact run_part_plain w (by kernel_rfl) rfl) (by rw [t0]; exact run_equalIn_int w 9997 3 .i64 .i64 _ _ Tryz.underlying3) h
  rw [h]
  congr 1
  unfold smD
  simp only [Bool.and_true, Bool.and_assoc]
  rfl
/-- the cells of a row of three sides -/
def rwC (a b c : Sd) : List Value := sdC a ++ sdC b ++ sdC c
theorem run_part_sd (xs : Array Value) (off : Nat) (w : World) : (part 137 xs off).run Tryz.prog w = .ok (.agg (xs.extract off (off + 3))) w := by
  obtain ⟨i0, hi, hz0, hz1, hz2⟩ := info_parts Tryz.infoSd
  have hce : Tryz.prog.cellsOf 137 = 3 := by kernel_rfl
  simp [part, isAgg, run_underlying Tryz.underlying137, run_sizeOf w hi, hce]
theorem smD_self (s : Sd) : smD s s = true := by unfold smD; simp
theorem smD_eq {s t : Sd} (h : smD s t = true) : s = t := by
  obtain ⟨a, b, c⟩ := s
  obtain ⟨x, y, z⟩ := t
  unfold smD at h
  simp only [Bool.and_eq_true, decide_eq_true_eq, beq_iff_eq] at h
  obtain ⟨⟨rfl, rfl⟩, rfl⟩ := h
  rfl
theorem smP_eq {p q : Pc} (h : smP p q = true) : p = q := by
  unfold smP at h
  simp only [Bool.and_eq_true, decide_eq_true_eq, beq_iff_eq, and_assoc] at h
  obtain ⟨h0, h1, h2, h3, h4, h5, h6, h7, h8, h9, h10, h11, h12⟩ := h
  cases p; cases q
  simp only at h0 h1 h2 h3 h4 h5 h6 h7 h8 h9 h10 h11 h12
  subst h0 h1 h2 h3 h4 h5 h6 h7 h8 h9 h10 h11 h12
  rfl
end Go.Proofs.YtodfdfncdoliiadGreat
namespace Go.Proofs.YtodfdfncdoliiadGreat
open Go.ChangeShapes Go.WideShapes Go.ChangeAt Go.RowKit
set_option maxRecDepth 100000
set_option linter.unusedVariables false
theorem allf_no {n k : Nat} {f : Nat → Bool} (hk : k < n) (h : f k = false) : (List.range n).all f = false := by rw [List.all_eq_false]; exact ⟨k, List.mem_range.2 hk, by simp [h]⟩
theorem allf_yes {n : Nat} {f : Nat → Bool} (h : ∀ k, k < n → f k = true) : (List.range n).all f = true := by rw [List.all_eq_true]; exact fun k hk => h k (List.mem_range.1 hk)
def eqR (n m : Nat) (f g : Nat → Pc) : Bool := decide (n = m) && (List.range n).all (fun i => smP (f i) (g i))
def eqD (n m : Nat) (f g : Nat → Sd) : Bool := decide (n = m) && (List.range n).all (fun i => smD (f i) (g i))
/-- whether two states are the same -/
def smS (s t : Stt) : Bool := decide (s.ac = t.ac) && decide (s.cl = t.cl) && eqD s.sn t.sn s.ss t.ss && eqR s.pn t.pn s.ps t.ps
end Go.Proofs.YtodfdfncdoliiadGreat
namespace Go.Proofs.YtodfdfncdoliiadGreat
open Go.ChangeShapes Go.WideShapes Go.ChangeAt Go.RowKit
set_option maxRecDepth 100000
set_option linter.unusedVariables false
structure Alike (t s : Stt) : Prop where
  pn : t.pn = s.pn
  ps : t.ps = s.ps
  sn : t.sn = s.sn
  ss : t.ss = s.ss
  ac : t.ac = s.ac
  cl : t.cl = s.cl
/-- what a function answers that answers a state like s -/
def Ans (s : Stt) (w : World) (e : Ending) (w' : World) : Prop := ∃ t : Stt, e = .returned (.agg #[.slice t.pa t.pn t.pcap, .slice t.sa t.sn t.scap, .int .i64 t.ac, .int .i64 t.cl]) ∧ Below w.heap.size w w' ∧ OwnT w' w.heap.size t ∧ Alike t s
theorem StPost.ans {N : Nat} {F : Nat → Pc} {M : Nat} {G : Nat → Sd} {ac cl : Int} {w : World} {e : Ending} {w' : World} (s : Stt) (h : StPost N F M G ac cl w e w') (h1 : s.pn = N) (h2 : s.ps = F) (h3 : s.sn = M) (h4 : s.ss = G) (h5 : s.ac = ac) (h6 : s.cl = cl) : Ans s w e w' := by
  obtain ⟨pa, pcap, pb, sa, scap, sb, h, hb, ho⟩ := h
  exact ⟨_, h, hb, ho, h1.symm, h2.symm, h3.symm, h4.symm, h5.symm, h6.symm⟩
theorem okT {t s : Stt} {w w0 : World} {B : Nat} (h : OwnT w B t) (a : Alike t s) (hs : s.ok w0) : t.ok w := by
  obtain ⟨_, _, _, _, _, _, e1, e2, e3, e4⟩ := hs
  refine ⟨h.pc, h.pm, h.p.rd, h.sc, h.sm, h.s.rd, by rw [a.ac]; exact e1, by rw [a.cl]; exact e2, ?_, ?_⟩
  · rw [a.pn, a.ps]; exact e3
  · rw [a.sn, a.ss]; exact e4
theorem stt_grew {s : Stt} {w w' : World} (h : s.ok w) (hb : Below w.heap.size w w') : s.ok w' := ⟨h.1, h.2.1, h.2.2.1.grew pcC_ne hb, h.2.2.2.1, h.2.2.2.2.1, h.2.2.2.2.2.1.grew sdC_ne hb, h.2.2.2.2.2.2⟩
/-- block b is none of this state's -/
def Away (b : Nat) (u : Stt) : Prop := (u.pn ≠ 0 → b ≠ u.pb) ∧ (u.sn ≠ 0 → b ≠ u.sb)
theorem away_old {w : World} {C b : Nat} {u : Stt} (k : OwnT w C u) (hb : b < C) : Away b u :=
  ⟨fun h => by have := (k.p.lt h).1; omega, fun h => by have := (k.s.lt h).1; omega⟩
theorem away_new {w : World} {C b : Nat} {u : Stt} (k : OwnT w C u) (hb : w.heap.size ≤ b) : Away b u :=
  ⟨fun h => by have := (k.p.lt h).2; omega, fun h => by have := (k.s.lt h).2; omega⟩
def Apart (t u : Stt) : Prop := (t.pn ≠ 0 → Away t.pb u) ∧ (t.sn ≠ 0 → Away t.sb u)
theorem apart_old {w w' : World} {B C : Nat} {t u : Stt} (h : OwnT w B t) (k : OwnT w' C u) (hC : w.heap.size ≤ C) : Apart t u :=
  ⟨fun e => away_old k (by have := (h.p.lt e).2; omega), fun e => away_old k (by have := (h.s.lt e).2; omega)⟩
theorem apart_new {w w' : World} {B C : Nat} {t u : Stt} (h : OwnT w B t) (k : OwnT w' C u) (hC : w'.heap.size ≤ B) : Apart t u :=
  ⟨fun e => away_new k (by have := (h.p.lt e).1; omega), fun e => away_new k (by have := (h.s.lt e).1; omega)⟩
theorem BoxR.marked {w w' : World} {b t : Nat} {cs : Array Value} {u : Stt} (h : BoxR w b t cs) (ho : Only2 u.pb u.sb (nz u.pn) (nz u.sn) w w') (a : Away b u) : BoxR w' b t cs := h.only2 ho (fun e => a.1 (nz_t e)) (fun e => a.2 (nz_t e))
theorem Own.marked {k : IntKind} {w w' : World} {B b n : Nat} {ad : Option Addr} {f : Nat → Int} {u : Stt} (h : Own k w B b ad n f) (ho : Only2 u.pb u.sb (nz u.pn) (nz u.sn) w w') (a : Away b u) : Own k w' B b ad n f := h.same (ho.block b h.2.1 (fun e => a.1 (nz_t e)) (fun e => a.2 (nz_t e))) ho.size
theorem OwnT.marked {w w' : World} {B : Nat} {t u : Stt} (h : OwnT w B t) (ho : Only2 u.pb u.sb (nz u.pn) (nz u.sn) w w') (a : Apart t u) : OwnT w' B t :=
  h.only2 ho (fun e => ⟨fun x => (a.1 e).1 (nz_t x), fun x => (a.1 e).2 (nz_t x)⟩) (fun e => ⟨fun x => (a.2 e).1 (nz_t x), fun x => (a.2 e).2 (nz_t x)⟩)
theorem below_marked {w w1 w' : World} {B C : Nat} {u : Stt} (h : Below B w w1) (k : OwnT w1 C u) (ho : Only2 u.pb u.sb (nz u.pn) (nz u.sn) w1 w') (hB : B ≤ C) (hs : B ≤ w1.heap.size) : Below B w w' :=
  h.trans (ho.below hs (fun e => by have := (k.p.lt (nz_t e)).1; omega) (fun e => by have := (k.s.lt (nz_t e)).1; omega))
theorem stt_marked {s u : Stt} {w w1 w' : World} {C : Nat} (h : s.ok w) (hb : Below w.heap.size w w1) (k : OwnT w1 C u) (ho : Only2 u.pb u.sb (nz u.pn) (nz u.sn) w1 w') (hB : w.heap.size ≤ C) : s.ok w' :=
  stt_grew h (below_marked hb k ho hB hb.size)
/-- a region that draws its order, cut off from what follows; what it answers is one of many -/
theorem wp_cutT {β : Type} {P : Program} {c : Go.Code} {a : Act} {w : World} {K : Act → World → Prop} {Q : Exit → Act → World → Prop} (vs : β → List (Nat × Value)) (F : β → World → Prop)
    (h : c.wp P (Exit.then (fun a' u => ∃ x, a' = puts a (vs x) ∧ F x u) Q) a w) (hk : ∀ x u, F x u → K (puts a (vs x)) u) : c.wp P (Exit.then K Q) a w := by
  refine wp_mono h fun e a' u hq => ?_
  cases e
  case normal => obtain ⟨x, rfl, hf⟩ := hq; exact hk x u hf
  all_goals exact hq
theorem alike_okS {t s : Stt} (a : Alike t s) : okS t = okS s := by
  obtain ⟨_, _, _, _, _, _, _, _, _, _, _, _⟩ := t
  obtain ⟨_, _, _, _, _, _, _, _, _, _, _, _⟩ := s
  obtain ⟨e1, e2, e3, e4, e5, e6⟩ := a
  simp only at e1 e2 e3 e4 e5 e6
  subst e1 e2 e3 e4 e5 e6
  rfl
theorem alike_smS {t s t' s' : Stt} (a : Alike t s) (b : Alike t' s') : smS t t' = smS s s' := by unfold smS; rw [a.ac, a.cl, a.sn, a.ss, a.pn, a.ps, b.ac, b.cl, b.sn, b.ss, b.pn, b.ps]
theorem Alike.refl (s : Stt) : Alike s s := ⟨rfl, rfl, rfl, rfl, rfl, rfl⟩
theorem OwnT.onlyR {w w' : World} {B p : Nat} {t : Stt} (h : OwnT w B t) (ho : Only p w w') (a : Away p t) : OwnT w' B t := by
  refine ⟨h.p.same (fun hn => ?_) ho.size, h.s.same (fun hn => ?_) ho.size, h.ne, h.pc, h.pm, h.sc, h.sm⟩
  · exact ho.block _ (h.p.lt hn).2 (a.1 hn).symm
  · exact ho.block _ (h.s.lt hn).2 (a.2 hn).symm
theorem BoxR.onlyR {w w' : World} {b t p : Nat} {cs : Array Value} (h : BoxR w b t cs) (ho : Only p w w') (a : b ≠ p) : BoxR w' b t cs := (ho.block b h.lt a).trans h
theorem szS_le {p q : Nat} {x : Int} (h : ¬ x - (p : Int) - (q : Int) < 0) : szS p q x = x - p - q := by unfold szS; rw [if_neg h]
theorem szS_no {p q : Nat} {x : Int} (h : x - (p : Int) - (q : Int) < 0) : szS p q x = -1 := by unfold szS; rw [if_pos h]
end Go.Proofs.YtodfdfncdoliiadGreat
