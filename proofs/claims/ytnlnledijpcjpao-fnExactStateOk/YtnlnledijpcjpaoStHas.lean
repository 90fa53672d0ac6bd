/-
  Chapter 5, the program: hasSide. Written by tools/guf.gen.py. Own work.
-/
import Derived.Test.YtnlnledijpcjpaoState5
import Derived.Test.YtnlnledijpcjpaoPieceI1
namespace Go.Proofs.Ytnlnledijpcjpao
open Go.ChangeShapes Go.WideShapes Go.ChangeAt Go.RowKit
set_option maxRecDepth 100000
set_option linter.unusedVariables false
set_option linter.unusedSimpArgs false

theorem hasSide_any (s : Stt) (side : Int) (w : World) (hn2 : s.sn ≤ 1048577) : Calls Try.prog 38 #[(.agg #[.slice s.pa s.pn s.pcap, .slice s.sa s.sn s.scap, .int .i64 s.ac, .int .i64 s.cl]), .int .i64 side] w fun e w' => e = .returned (.bool (ib side 0 ((s.sn : Int) - 1))) ∧ Below w.heap.size w w' := by
  have hb0 := (Below.refl _ w).alloc (Nat.le_refl _) (.cells #[.slice s.pa s.pn s.pcap, .slice s.sa s.sn s.scap, .int .i64 s.ac, .int .i64 s.cl] 31)
  have x1 := boxR_new w 31 #[.slice s.pa s.pn s.pcap, .slice s.sa s.sn s.scap, .int .i64 s.ac, .int .i64 s.cl]
  generalize hW : w.alloc (.cells #[.slice s.pa s.pn s.pcap, .slice s.sa s.sn s.scap, .int .i64 s.ac, .int .i64 s.cl] 31) = W at hb0 x1
  have c1 := x1.cell 1
  simp at c1
  go_enter Try.func38, Try.ntmps38
  go_wp2_with fail
  refine (between_any _ _ _ _).mono ?_
  rintro e v ⟨rfl, rfl⟩
  go_wp2
  go_ret
  exact ⟨rfl, hb0⟩
end Go.Proofs.Ytnlnledijpcjpao
