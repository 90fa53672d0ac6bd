/-
  Chapter 5's functions at states that are like another one. Own work.
-/
import Derived.Test.YtnlnledijpcjpabStLaw
import Derived.Test.YtnlnledijpcjpabState7
import Derived.Test.YtnlnledijpcjpabStOk
import Derived.Test.YtnlnledijpcjpabStSameS
import Derived.Test.YtnlnledijpcjpabStSameI
import Derived.Test.YtnlnledijpcjpabStNew
import Derived.Test.YtnlnledijpcjpabStAt
import Derived.Test.YtnlnledijpcjpabStField
namespace Go.Proofs.Ytnlnledijpcjpab
open Go.ChangeShapes Go.WideShapes Go.ChangeAt Go.RowKit
set_option maxRecDepth 100000
set_option linter.unusedVariables false
section
variable {t s t' s' : Stt} {w w0 w0' : World} {B B' : Nat}
theorem specStateOk_al (h : OwnT w B t) (a : Alike t s) (hs : s.ok w0) (hn : s.pn ≤ 1048576) (hn2 : s.sn ≤ 1048576) : Calls Try.prog 51 #[(.agg #[.slice t.pa t.pn t.pcap, .slice t.sa t.sn t.scap, .int .i64 t.ac, .int .i64 t.cl])] w fun e w' => e = .returned (.bool (okS s)) ∧ Below w.heap.size w w' := by
  rw [← alike_okS a]; exact specStateOk_any t w (okT h a hs) (by rw [a.pn]; omega) (by rw [a.sn]; omega)
theorem implStateOk_al (h : OwnT w B t) (a : Alike t s) (hs : s.ok w0) (hn : s.pn ≤ 1048576) (hn2 : s.sn ≤ 1048576) : Calls Try.prog 50 #[(.agg #[.slice t.pa t.pn t.pcap, .slice t.sa t.sn t.scap, .int .i64 t.ac, .int .i64 t.cl])] w fun e w' => e = .returned (.bool (okS s)) ∧ Below w.heap.size w w' := by
  rw [← alike_okS a]; exact implStateOk_any t w (okT h a hs) (by rw [a.pn]; omega) (by rw [a.sn]; omega)
theorem specSameState_al (h : OwnT w B t) (a : Alike t s) (hs : s.ok w0) (hn : s.pn ≤ 1048576) (hn2 : s.sn ≤ 1048576) (h' : OwnT w B' t') (a' : Alike t' s') (hs' : s'.ok w0') (hm : s'.pn ≤ 1048576) (hm2 : s'.sn ≤ 1048576) : Calls Try.prog 53 #[(.agg #[.slice t.pa t.pn t.pcap, .slice t.sa t.sn t.scap, .int .i64 t.ac, .int .i64 t.cl]), (.agg #[.slice t'.pa t'.pn t'.pcap, .slice t'.sa t'.sn t'.scap, .int .i64 t'.ac, .int .i64 t'.cl])] w fun e w' => e = .returned (.bool (smS s s')) ∧ Below w.heap.size w w' := by
  rw [← alike_smS a a']; exact specSameState_any t t' w (okT h a hs) (okT h' a' hs') (by rw [a.pn]; omega) (by rw [a.sn]; omega) (by rw [a'.pn]; omega) (by rw [a'.sn]; omega)
theorem implSameState_al (h : OwnT w B t) (a : Alike t s) (hs : s.ok w0) (hn : s.pn ≤ 1048576) (hn2 : s.sn ≤ 1048576) (h' : OwnT w B' t') (a' : Alike t' s') (hs' : s'.ok w0') (hm : s'.pn ≤ 1048576) (hm2 : s'.sn ≤ 1048576) : Calls Try.prog 52 #[(.agg #[.slice t.pa t.pn t.pcap, .slice t.sa t.sn t.scap, .int .i64 t.ac, .int .i64 t.cl]), (.agg #[.slice t'.pa t'.pn t'.pcap, .slice t'.sa t'.sn t'.scap, .int .i64 t'.ac, .int .i64 t'.cl])] w fun e w' => e = .returned (.bool (smS s s')) ∧ Below w.heap.size w w' := by
  rw [← alike_smS a a']; exact implSameState_any t t' w (okT h a hs) (okT h' a' hs') (by rw [a.pn]; omega) (by rw [a.sn]; omega) (by rw [a'.pn]; omega) (by rw [a'.sn]; omega)
theorem specPieceAt_al (id : Int) (h : OwnT w B t) (a : Alike t s) (hs : s.ok w0) (hn : s.pn ≤ 1048576) (hn2 : s.sn ≤ 1048576) : Calls Try.prog 66 #[(.agg #[.slice t.pa t.pn t.pcap, .slice t.sa t.sn t.scap, .int .i64 t.ac, .int .i64 t.cl]), .int .i64 id] w fun e w' => e = .returned (.int .i64 (paI s.pn s.ps id)) ∧ Below w.heap.size w w' := by
  rw [← a.pn, ← a.ps]; exact specPieceAt_any t id w (okT h a hs) (by rw [a.pn]; omega)
theorem implPieceAt_al (id : Int) (h : OwnT w B t) (a : Alike t s) (hs : s.ok w0) (hn : s.pn ≤ 1048576) (hn2 : s.sn ≤ 1048576) : Calls Try.prog 63 #[(.agg #[.slice t.pa t.pn t.pcap, .slice t.sa t.sn t.scap, .int .i64 t.ac, .int .i64 t.cl]), .int .i64 id] w fun e w' => e = .returned (.int .i64 (paI s.pn s.ps id)) ∧ Below w.heap.size w w' := by
  rw [← a.pn, ← a.ps]; exact implPieceAt_any t id w (okT h a hs) (by rw [a.pn]; omega)
/-- the answer of OnField, under names that are not opened -/
def onN (s : Stt) (side : Int) : Nat := (ofL s.pn s.ps side).length
def onF (s : Stt) (side : Int) : Nat → Int := fun j => (ofL s.pn s.ps side).getD j 0
theorem onN_le (s : Stt) (side : Int) : onN s side ≤ s.pn := ofL_len _ _ _
theorem specOnField_al (side : Int) (h : OwnT w B t) (a : Alike t s) (hs : s.ok w0) (hn : s.pn ≤ 1048576) (hn2 : s.sn ≤ 1048576) : Calls Try.prog 54 #[(.agg #[.slice t.pa t.pn t.pcap, .slice t.sa t.sn t.scap, .int .i64 t.ac, .int .i64 t.cl]), .int .i64 side] w fun e w' => ∃ q cap, e = .returned (.slice (some ⟨q, 0, none⟩) (onN s side) cap) ∧ Below w.heap.size w w' ∧ Own .i64 w' w.heap.size q (some ⟨q, 0, none⟩) (onN s side) (onF s side) := by
  unfold onN onF; rw [← a.pn, ← a.ps]; exact specOnField_any t side w (okT h a hs) (by rw [a.pn]; omega)
theorem implOnField_al (side : Int) (h : OwnT w B t) (a : Alike t s) (hs : s.ok w0) (hn : s.pn ≤ 1048576) (hn2 : s.sn ≤ 1048576) : Calls Try.prog 49 #[(.agg #[.slice t.pa t.pn t.pcap, .slice t.sa t.sn t.scap, .int .i64 t.ac, .int .i64 t.cl]), .int .i64 side] w fun e w' => ∃ q cap, e = .returned (.slice (some ⟨q, 0, none⟩) (onN s side) cap) ∧ Below w.heap.size w w' ∧ Own .i64 w' w.heap.size q (some ⟨q, 0, none⟩) (onN s side) (onF s side) := by
  unfold onN onF; rw [← a.pn, ← a.ps]; exact implOnField_any t side w (okT h a hs) (by rw [a.pn]; omega)
/-- a new state -/
def nwS (n : Int) : Stt := ⟨none, 0, 0, 0, zF, none, nwN n, 0, 0, nwD, 0, 0⟩
theorem nwN_le (n : Int) : nwN n ≤ 3 := by unfold nwN; split <;> omega
theorem specStateNew_al (n : Int) (w : World) : Calls Try.prog 134 #[.int .i64 n] w fun e w' => Ans (nwS n) w e w' := (specStateNew_any n w).mono fun _ _ h => h.ans (nwS n) rfl rfl rfl rfl rfl rfl
theorem implStateNew_al (n : Int) (w : World) : Calls Try.prog 47 #[.int .i64 n] w fun e w' => Ans (nwS n) w e w' := (implStateNew_any n w).mono fun _ _ h => h.ans (nwS n) rfl rfl rfl rfl rfl rfl
end
end Go.Proofs.Ytnlnledijpcjpab
