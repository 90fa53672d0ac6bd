/-
  Chapter 5's PutState at states that are like another one. Own work.
-/
import Derived.Test.YtpdoefcdajcloapStLaw
import Derived.Test.YtpdoefcdajcloapStPutI
namespace Go.Proofs.Ytpdoefcdajcloap
open Go.ChangeShapes Go.WideShapes Go.ChangeAt Go.RowKit
set_option maxRecDepth 100000
set_option linter.unusedVariables false
section
variable {t s t' s' : Stt} {w w0 w0' : World} {B B' : Nat}
theorem alike_stA (a : Alike t s) : ∀ k, stA t k = stA s k
  | 0 => by unfold stA; rw [a.pn]
  | k + 1 => by unfold stA; rw [alike_stA a k, a.ps]
theorem alike_stB (a : Alike t s) : ∀ k, stB t k = stB s k
  | 0 => by unfold stB; rw [alike_stA a, a.pn, a.sn]
  | k + 1 => by unfold stB; rw [alike_stB a k, a.ss]
theorem alike_stL (a : Alike t s) : stL t = stL s := by unfold stL; rw [alike_stB a, a.sn, a.ac, a.cl]
theorem alike_ptN (a : Alike t s) : ptN t = ptN s := by unfold ptN; rw [alike_okS a, alike_stL a]
theorem alike_ptF (a : Alike t s) : ptF t = ptF s := by unfold ptF; rw [alike_stL a]
theorem specPutState_al (h : OwnT w B t) (a : Alike t s) (hs : s.ok w0) (hn : s.pn ≤ 1048576) (hn2 : s.sn ≤ 1048576) : Calls Try.prog 6 #[(.agg #[.slice t.pa t.pn t.pcap, .slice t.sa t.sn t.scap, .int .i64 t.ac, .int .i64 t.cl])] w fun e w' => ∃ q cap, e = .returned (.slice (some ⟨q, 0, none⟩) (ptN s) cap) ∧ Below w.heap.size w w' ∧ Own .u8 w' w.heap.size q (some ⟨q, 0, none⟩) (ptN s) (ptF s) := by
  rw [← alike_ptN a, ← alike_ptF a]; exact specPutState_any t w (okT h a hs) (by rw [a.pn]; omega) (by rw [a.sn]; omega)
theorem implPutState_al (h : OwnT w B t) (a : Alike t s) (hs : s.ok w0) (hn : s.pn ≤ 1048576) (hn2 : s.sn ≤ 1048576) : Calls Try.prog 8 #[(.agg #[.slice t.pa t.pn t.pcap, .slice t.sa t.sn t.scap, .int .i64 t.ac, .int .i64 t.cl])] w fun e w' => ∃ q cap, e = .returned (.slice (some ⟨q, 0, none⟩) (ptN s) cap) ∧ Below w.heap.size w w' ∧ Own .u8 w' w.heap.size q (some ⟨q, 0, none⟩) (ptN s) (ptF s) := by
  rw [← alike_ptN a, ← alike_ptF a]
  refine (implPutState_any t w (okT h a hs) (by rw [a.pn]; omega) (by rw [a.sn]; omega)).mono ?_
  rintro e w' ⟨q, cap, h1, _, h2, h3⟩
  exact ⟨q, cap, h1, h2, h3⟩
end
end Go.Proofs.Ytpdoefcdajcloap
