/-
  Chapter 5: what FnStateBytes needs of states that were read. Own work.
-/
import Derived.Test.YtnlnledijpcjpabGetGI
import Derived.Test.YtnlnledijpcjpabStBack
import Derived.Test.YtnlnledijpcjpabDrawTD
import Derived.Test.YtnlnledijpcjpabStSameI
namespace Go.Proofs.Ytnlnledijpcjpab
open Go.ChangeShapes Go.WideShapes Go.ChangeAt Go.RowKit
set_option maxRecDepth 100000
set_option linter.unusedVariables false
theorem got_ok {n : Nat} {f : Nat → Int} {w : World} {B : Nat} {t : Stt} (hu : U8 n f) (o : OwnT w B t) (a : Alike t (gsS n f)) : t.ok w := by
  have z : (Lit.int .i64 0).wf = true := wf_i64 ⟨by decide, by decide⟩
  have key : (Lit.int .i64 (gsS n f).ac).wf = true ∧ (Lit.int .i64 (gsS n f).cl).wf = true ∧ (∀ i, ((gsS n f).ps i).wf) ∧ (∀ i, ((gsS n f).ss i).wf) := by
    unfold gsS
    split
    · exact ⟨gnL_wf hu _ _, gnL_wf hu _ _, fun i => rawP_wf hu _, fun i => gtF_wf hu _ _⟩
    · refine ⟨z, z, fun i => ?_, fun i => ⟨z, z⟩⟩
      intro x hx
      simp only [gsZ, zF, zP, List.mem_cons, List.not_mem_nil, or_false] at hx
      rcases hx with rfl | rfl | rfl | rfl | rfl | rfl | rfl | rfl | rfl | rfl | rfl <;> exact z
  exact ⟨o.pc, o.pm, o.p.rd, o.sc, o.sm, o.s.rd, by rw [a.ac]; exact key.1, by rw [a.cl]; exact key.2.1, fun i _ => by rw [a.ps]; exact key.2.2.1 i, fun i _ => by rw [a.ss]; exact key.2.2.2 i⟩
theorem got_le {n : Nat} {f : Nat → Int} {t : Stt} (a : Alike t (gsS n f)) : t.pn ≤ 8 ∧ t.sn ≤ 3 := by
  have := gsS_le n f
  rw [a.pn, a.sn]
  exact this
theorem got_yes {n : Nat} {f : Nat → Int} {t : Stt} (a : Alike t (gsS n f)) (h : gsOk n f = true) : Alike t (gsR n f) := by
  unfold gsS at a
  rwa [if_pos h] at a
theorem got_okS {n : Nat} {f : Nat → Int} {t : Stt} (a : Alike t (gsS n f)) (h : gsOk n f = true) : okS t = true := by
  rw [alike_okS (got_yes a h)]
  unfold gsOk at h
  simp only [Bool.and_eq_true] at h
  exact h.1.2
theorem got_bytes {n : Nat} {f : Nat → Int} {t : Stt} (hu : U8 n f) (a : Alike t (gsS n f)) (h : gsOk n f = true) : ptN t = n ∧ ∀ i, i < n → ptF t i = f i := by
  rw [alike_ptN (got_yes a h), alike_ptF (got_yes a h)]
  unfold gsOk at h
  simp only [Bool.and_eq_true, decide_eq_true_eq] at h
  exact (gs_back hu (gsP_iff.1 h.1.1.1)).2 ⟨h.1.1.2, h.1.2, h.2⟩
theorem got_same {s t : Stt} (h : okS s = true) (a : Alike t (gsS (ptN s) (ptF s))) : smS t s = true := by
  have k := gs_there h
  rw [alike_smS (got_yes a k.1) (Alike.refl s)]
  exact k.2
theorem ptN_no {s : Stt} (h : okS s = false) : ptN s = 0 := by unfold ptN; rw [if_neg (by rw [h]; decide)]
theorem implStateOk_as {s : Stt} {w : World} {b : Bool} (hok : s.ok w) (hn : s.pn ≤ 1048577) (hn2 : s.sn ≤ 1048577) (hb : okS s = b) : Calls Try.prog 50 #[(.agg #[.slice s.pa s.pn s.pcap, .slice s.sa s.sn s.scap, .int .i64 s.ac, .int .i64 s.cl])] w fun e w' => e = .returned (.bool b) ∧ Below w.heap.size w w' := by
  rw [← hb]; exact implStateOk_any s w hok hn hn2
theorem implSameState_as {s t : Stt} {w : World} {b : Bool} (hs : s.ok w) (ht : t.ok w) (hn : s.pn ≤ 1048577) (hn2 : s.sn ≤ 1048577) (hm : t.pn ≤ 1048577) (hm2 : t.sn ≤ 1048577) (hb : smS s t = b) : Calls Try.prog 52 #[(.agg #[.slice s.pa s.pn s.pcap, .slice s.sa s.sn s.scap, .int .i64 s.ac, .int .i64 s.cl]), (.agg #[.slice t.pa t.pn t.pcap, .slice t.sa t.sn t.scap, .int .i64 t.ac, .int .i64 t.cl])] w fun e w' => e = .returned (.bool b) ∧ Below w.heap.size w w' := by
  rw [← hb]; exact implSameState_any s t w hs ht hn hn2 hm hm2
end Go.Proofs.Ytnlnledijpcjpab
