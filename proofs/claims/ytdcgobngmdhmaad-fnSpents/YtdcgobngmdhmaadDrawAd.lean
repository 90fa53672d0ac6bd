/-
  Chapter 9: the draw DrawAmount. Written by tools/drawad.gen.py. Own work.
-/
import Derived.Test.YtdcgobngmdhmaadDrawA3
import Derived.Test.YtdcgobngmdhmaadGDrawT32
namespace Go.Proofs.Ytdcgobngmdhmaad
open Go.ChangeShapes Go.WideShapes Go.ChangeAt Go.RowKit
set_option maxRecDepth 100000
set_option linter.unusedVariables false
set_option linter.unusedSimpArgs false

theorem RowA.okA {w : World} {B : Nat} {t : Ac} (h : RowA w B t) (hw : t.wf) : ∃ lb, ({ t with lb := lb } : Ac).ok w := by
  have hi : ∀ x ∈ [t.kd, t.nn, t.pi, t.si, t.zo], (Lit.int .i64 x).wf = true := fun x hx => by
    simp only [List.mem_cons, List.mem_nil_iff, or_false] at hx
    rcases hx with rfl | rfl | rfl | rfl | rfl
    · exact wf_i64 hw.1.1
    · exact wf_i64 hw.1.2.1
    · exact wf_i64 hw.1.2.2.1
    · exact wf_i64 hw.1.2.2.2.1
    · exact wf_i64 hw.1.2.2.2.2
  by_cases hn : t.ln = 0
  · obtain ⟨_, _, hv, h1, h2⟩ := row_form h
    simp only [Value.slice.injEq, true_and] at hv
    obtain ⟨_, hv2⟩ := hv
    exact ⟨0, by show t.ln ≤ t.lcap; omega, by show t.lcap ≤ maxLen; omega, .inl hn, hi, hw.2⟩
  · obtain ⟨lb, h1, h2, h3⟩ := h.own hn
    exact ⟨lb, h1, h2, h3.rd, hi, hw.2⟩
set_option maxHeartbeats 400000 in
theorem l1Amount_any (p : Nat) (a : Option Addr) (len cap : Nat) (w : World) {B : Nat} (hc : Code w a len B) (hB : B ≤ p) (hcur : Cur w p a len cap) :
    Calls Try.prog 16 #[.pointer (some ⟨p, 0, none⟩)] w fun e w' => ∃ x : Int, inI64 x ∧ e = .returned (.int .i64 x) ∧ Only p w w' ∧ Cur w' p a len cap := by
  go_enter Try.func16, Try.ntmps16
  go_wp2_with fail
  refine (l1Int_new p a len cap [0, 1, 2, 3, 5, 9, 10, 2147483646, 2147483647] 3 w hc hB hcur (by decide) (by decide)).mono ?_
  rintro e w2 ⟨x, hx, rfl, ho2, hk2⟩
  go_wp2
  go_ret
  exact ⟨x, list_in _ (by decide) x hx, rfl, ho2, hk2⟩
end Go.Proofs.Ytdcgobngmdhmaad
