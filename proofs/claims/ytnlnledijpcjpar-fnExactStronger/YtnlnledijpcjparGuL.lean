/-
  Chapter 8: Holds, BentOf of both at states that are alike. Written by tools/gu.gen.py. Own work.
-/
import Derived.Test.YtnlnledijpcjparGuD
import Derived.Test.YtnlnledijpcjparGuH
import Derived.Test.YtnlnledijpcjparStLaw
namespace Go.Proofs.Ytnlnledijpcjpar
open Go.ChangeShapes Go.WideShapes Go.ChangeAt Go.RowKit
set_option maxRecDepth 100000
set_option linter.unusedVariables false
set_option linter.unusedSimpArgs false

theorem alike_cn {t s : Stt} (a : Alike t s) (f : Pc → Bool) : cnG f t.pn t.ps = cnG f s.pn s.ps := by rw [a.pn, a.ps]
theorem alike_bnG {t s : Stt} (a : Alike t s) (side : Int) : bnG t side = bnG s side := alike_cn a _
theorem alike_mnG {t s : Stt} (a : Alike t s) (side : Int) : mnG t side = mnG s side := alike_cn a _
theorem alike_hdG {t s : Stt} (a : Alike t s) (side : Int) (g : Gd) : hdG t side g = hdG s side g := by unfold hdG hdK; rw [alike_bnG a, alike_mnG a, a.sn, a.ss, a.ac]
theorem specBentOf_al {w0 w : World} {B : Nat} {t s : Stt} (side : Int) (h : OwnT w B t) (a : Alike t s) (hs : s.ok w0) (hn : s.pn ≤ 1048576) (hn2 : s.sn ≤ 1048576) : Calls Try.prog 16 #[(.agg #[.slice t.pa t.pn t.pcap, .slice t.sa t.sn t.scap, .int .i64 t.ac, .int .i64 t.cl]), .int .i64 side] w fun e w' => e = .returned (.int .i64 (bnG s side)) ∧ Below w.heap.size w w' := by
  rw [← alike_bnG a]; exact specBentOf_any t side w (okT h a hs) (by rw [a.pn]; omega)
theorem specHolds_al {w0 w : World} {B : Nat} {t s : Stt} (side : Int) (g : Gd) (h : OwnT w B t) (a : Alike t s) (hs : s.ok w0) (hn : s.pn ≤ 1048576) (hn2 : s.sn ≤ 1048576) : Calls Try.prog 12 #[(.agg #[.slice t.pa t.pn t.pcap, .slice t.sa t.sn t.scap, .int .i64 t.ac, .int .i64 t.cl]), .int .i64 side, (.agg #[.int .i64 g.kd, .int .i64 g.nn])] w fun e w' => e = .returned (.bool (hdG s side g)) ∧ Below w.heap.size w w' := by
  rw [← alike_hdG a]; exact specHolds_any t side g w (okT h a hs) (by rw [a.pn]; omega) (by rw [a.sn]; omega)
theorem implBentOf_al {w0 w : World} {B : Nat} {t s : Stt} (side : Int) (h : OwnT w B t) (a : Alike t s) (hs : s.ok w0) (hn : s.pn ≤ 1048576) (hn2 : s.sn ≤ 1048576) : Calls Try.prog 17 #[(.agg #[.slice t.pa t.pn t.pcap, .slice t.sa t.sn t.scap, .int .i64 t.ac, .int .i64 t.cl]), .int .i64 side] w fun e w' => e = .returned (.int .i64 (bnG s side)) ∧ Below w.heap.size w w' := by
  rw [← alike_bnG a]; exact implBentOf_any t side w (okT h a hs) (by rw [a.pn]; omega)
theorem implHolds_al {w0 w : World} {B : Nat} {t s : Stt} (side : Int) (g : Gd) (h : OwnT w B t) (a : Alike t s) (hs : s.ok w0) (hn : s.pn ≤ 1048576) (hn2 : s.sn ≤ 1048576) : Calls Try.prog 14 #[(.agg #[.slice t.pa t.pn t.pcap, .slice t.sa t.sn t.scap, .int .i64 t.ac, .int .i64 t.cl]), .int .i64 side, (.agg #[.int .i64 g.kd, .int .i64 g.nn])] w fun e w' => e = .returned (.bool (hdG s side g)) ∧ Below w.heap.size w w' := by
  rw [← alike_hdG a]; exact implHolds_any t side g w (okT h a hs) (by rw [a.pn]; omega) (by rw [a.sn]; omega)
end Go.Proofs.Ytnlnledijpcjpar
