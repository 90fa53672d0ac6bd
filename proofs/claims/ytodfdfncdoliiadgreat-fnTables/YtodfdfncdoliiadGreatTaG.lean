/-
  Chapter 11: the specification's Install (inOk, insF), Drop (dpF). Written by tools/tab.gen.py. Own work.
-/
import Derived.Test.YtodfdfncdoliiadGreatGSpA5
import Derived.Deep.RegionHeld
import Derived.Deep.MidRow
namespace Go.Proofs.YtodfdfncdoliiadGreat
open Go.ChangeShapes Go.WideShapes Go.ChangeAt Go.RowKit
set_option maxRecDepth 100000
set_option linter.unusedVariables false
set_option linter.unusedSimpArgs false

/-- before which one this Id goes -/
def insK (f : Nat → Ef) (id : Int) : Nat → Nat
  | 0 => 0
  | n + 1 => if insK f id n = n ∧ (f n).id < id then n + 1 else insK f id n
theorem insK_le (f : Nat → Ef) (id : Int) : ∀ n, insK f id n ≤ n
  | 0 => Nat.le_refl _
  | n + 1 => by have := insK_le f id n; simp only [insK]; split <;> omega
theorem insK_full {f : Nat → Ef} {id : Int} : ∀ {n : Nat}, (∀ j, j < n → (f j).id < id) → insK f id n = n
  | 0, _ => rfl
  | n + 1, h => by
    have h1 := insK_full (n := n) (fun j hj => h j (by omega))
    simp only [insK]
    rw [if_pos ⟨h1, h n (by omega)⟩]
theorem insK_eq {f : Nat → Ef} {id : Int} {K : Nat} (h : ∀ j, j < K → (f j).id < id) (hK : ¬ (f K).id < id) : ∀ {n : Nat}, K ≤ n → insK f id n = K
  | 0, hn => by have : K = 0 := by omega
                subst this; rfl
  | n + 1, hn => by
    by_cases he : K = n + 1
    · subst he; exact insK_full h
    · have h1 := insK_eq h hK (n := n) (by omega)
      simp only [insK]
      rw [h1, if_neg ?_]
      rintro ⟨h2, h3⟩
      subst h2
      exact hK h3
def insF (K : Nat) (f : Nat → Ef) (e : Ef) : Nat → Ef := fun i => if i < K then f i else if i = K then e else f (i - 1)
def inOk (n : Nat) (f : Nat → Ef) (e : Ef) : Bool := decide (eaN f e.id n < 0) && okTb (n + 1) (insF (insK f e.id n) f e)
def inN (n : Nat) (f : Nat → Ef) (e : Ef) : Nat := if inOk n f e = true then n + 1 else n
def inF (n : Nat) (f : Nat → Ef) (e : Ef) : Nat → Ef := if inOk n f e = true then insF (insK f e.id n) f e else f
theorem insF_ok {n K : Nat} {f : Nat → Ef} {x : Ef} {w : World} (h : ∀ i, i < n → (f i).okW w ∧ (f i).ac.ln ≤ 1048577) (hx : x.okW w ∧ x.ac.ln ≤ 1048577) (hK : K ≤ n) : ∀ i, i < n + 1 → (insF K f x i).okW w ∧ (insF K f x i).ac.ln ≤ 1048577 := fun i hi => by
  unfold insF
  by_cases h1 : i < K
  · rw [if_pos h1]; exact h i (by omega)
  · by_cases h2 : i = K
    · rw [if_neg h1, if_pos h2]; exact hx
    · rw [if_neg h1, if_neg h2]; exact h (i - 1) (by omega)
def dpF (k : Nat) (f : Nat → Ef) : Nat → Ef := fun i => if i < k then f i else f (i + 1)
theorem okTb_alike {n : Nat} {f g : Nat → Ef} (h : ∀ i, i < n → AlikeF (g i) (f i)) : okTb n g = okTb n f := by
  have e : ∀ i, i < n → goodAt g i = goodAt f i := fun i hi => by
    unfold goodAt
    rw [alike_okEf (h i hi), (h i hi).id]
    by_cases h0 : 0 < i
    · rw [(h (i - 1) (by omega)).id]
    · simp [h0]
  unfold okTb
  have : (List.range n).all (goodAt g) = (List.range n).all (goodAt f) := by
    rw [Bool.eq_iff_iff, List.all_eq_true, List.all_eq_true]
    constructor
    · intro q i hi; rw [← e i (List.mem_range.1 hi)]; exact q i hi
    · intro q i hi; rw [e i (List.mem_range.1 hi)]; exact q i hi
  rw [this]
theorem Tb.okW.upto {p : Option Addr} {n cap b : Nat} {f : Nat → Ef} {w : World} (h : Tb.okW ⟨p, n, cap, b, f⟩ w) {k : Nat} (hk : k ≤ n) : Tb.okW ⟨p, k, cap, b, f⟩ w :=
  ⟨Nat.le_trans hk h.1, h.2.1, h.2.2.1.first hk, fun i hi => h.2.2.2 i (Nat.lt_of_lt_of_le hi hk)⟩
theorem Tb.okW.from {b o n cap : Nat} {f : Nat → Ef} {w : World} (h : Tb.okW ⟨some ⟨b, o, none⟩, n, cap, b, f⟩ w) {k : Nat} (hk : k ≤ n) {p : Option Addr} (hp : k < n → p = some ⟨b, o + k * 22, none⟩) : Tb.okW ⟨p, n - k, cap - k, b, fun i => f (k + i)⟩ w := by
  obtain ⟨h1, h2, h3, h4⟩ := h
  dsimp only at h1 h2 h3 h4
  refine ⟨by show n - k ≤ cap - k; omega, by show cap - k ≤ maxLen; omega, ?_, fun i hi => h4 (k + i) (by dsimp only at hi; omega)⟩
  dsimp only
  by_cases hkn : k < n
  · rcases h3 with h3 | ⟨o1, e, h3⟩
    · omega
    · simp only [Option.some.injEq, Addr.mk.injEq, and_true, true_and] at e
      subst e
      refine .inr ⟨o + k * 22, hp hkn, fun i hi j v hv => ?_⟩
      have := h3 (k + i) (by omega) j v hv
      rw [show o + k * 22 + i * 22 + j = o + (k + i) * 22 + j by omega]
      exact this
  · exact .inl (by omega)
theorem BuildT.okW {w w0 : World} {B : Nat} {v : Value} {k : Nat} {g f : Nat → Ef} (h : BuildT w B v k g f) (hf : ∀ i, i < k → (f i).okW w0 ∧ (f i).ac.ln ≤ 1048577) {b cap : Nat} (hv : v = .slice (some ⟨b, 0, none⟩) k cap) : Tb.okW ⟨some ⟨b, 0, none⟩, k, cap, b, g⟩ w := by
  obtain ⟨b', cap', e, ho⟩ := h.tb
  rw [hv] at e
  simp only [Value.slice.injEq, Option.some.injEq, Addr.mk.injEq, and_true, true_and] at e
  obtain ⟨rfl, rfl⟩ := e
  refine ⟨ho.1, ho.2.1, ho.2.2.1.rd, fun i hi => ?_⟩
  have ha := (h.2.2.1 i hi).2.2
  exact ⟨⟨okT9 (h.2.2.1 i hi).1 ha.ac (hf i hi).1.1, by rw [ha.le]; exact (hf i hi).1.2⟩, by rw [ha.ac.ln]; exact (hf i hi).2⟩
/-- the answer: a list of the call's own, of N effects like F's -/
def AnsT (w : World) (B : Nat) (q : Tb) (N : Nat) (F : Nat → Ef) : Prop := OwnTb w B q ∧ q.n = N ∧ ∀ i, i < N → AlikeF (q.f i) (F i)
theorem BuildT.ans {w : World} {B : Nat} {v : Value} {k : Nat} {g f : Nat → Ef} (h : BuildT w B v k g f) : ∃ q : Tb, v = .slice q.p q.n q.cap ∧ AnsT w B q k f := by
  obtain ⟨b, cap, rfl, ho⟩ := h.tb
  exact ⟨⟨some ⟨b, 0, none⟩, k, cap, b, g⟩, rfl, ho, rfl, fun i hi => (h.2.2.1 i hi).2.2⟩
set_option maxHeartbeats 8000000 in
theorem specInstall_any (t : Tb) (x : Ef) (w : World) (hok : t.okW w) (hn : t.n ≤ 1048576) (hx : x.okW w) (hxl : x.ac.ln ≤ 1048577) :
    Calls Tryz.prog 40 #[.slice t.p t.n t.cap, (.agg #[.int .i64 x.id, .int .i64 x.si, .int .i64 x.sr, .int .i64 x.cl, .int .i64 x.pt.kd, .int .i64 x.pt.wh, .int .i64 x.pt.sr, .int .i64 x.pt.tr, .int .i64 x.pt.pi, .int .i64 x.pt.le, .int .i64 x.pt.zo, .int .i64 x.gd.kd, .int .i64 x.gd.nn, .int .i64 x.ac.kd, .int .i64 x.ac.nn, .int .i64 x.ac.pi, .int .i64 x.ac.si, .int .i64 x.ac.zo, .bool x.ac.be, .slice x.ac.la x.ac.ln x.ac.lcap, .int .i64 x.un, .int .i64 x.le])] w fun e w' => ∃ q : Tb, e = .returned (.tuple #[.slice q.p q.n q.cap, .bool (inOk t.n t.f x)]) ∧ Below w.heap.size w w' ∧ AnsT w' w.heap.size q (inN t.n t.f x) (inF t.n t.f x) := by
  have m_ : Tryz.prog.follows Departure.mixedOrders = true := by kernel_rfl
  have hnm := hok.le
  obtain ⟨i0, hi, hz0, hz1, hz2⟩ := info_parts Tryz.infoEf
  obtain ⟨p, n, cap, b, f⟩ := t
  dsimp only at hn hnm ⊢
  have bx := boxR_new w 32 #[.int .i64 x.id, .int .i64 x.si, .int .i64 x.sr, .int .i64 x.cl, .int .i64 x.pt.kd, .int .i64 x.pt.wh, .int .i64 x.pt.sr, .int .i64 x.pt.tr, .int .i64 x.pt.pi, .int .i64 x.pt.le, .int .i64 x.pt.zo, .int .i64 x.gd.kd, .int .i64 x.gd.nn, .int .i64 x.ac.kd, .int .i64 x.ac.nn, .int .i64 x.ac.pi, .int .i64 x.ac.si, .int .i64 x.ac.zo, .bool x.ac.be, .slice x.ac.la x.ac.ln x.ac.lcap, .int .i64 x.un, .int .i64 x.le]
  have hb1 := below_new2'' w (.cells #[.int .i64 x.id, .int .i64 x.si, .int .i64 x.sr, .int .i64 x.cl, .int .i64 x.pt.kd, .int .i64 x.pt.wh, .int .i64 x.pt.sr, .int .i64 x.pt.tr, .int .i64 x.pt.pi, .int .i64 x.pt.le, .int .i64 x.pt.zo, .int .i64 x.gd.kd, .int .i64 x.gd.nn, .int .i64 x.ac.kd, .int .i64 x.ac.nn, .int .i64 x.ac.pi, .int .i64 x.ac.si, .int .i64 x.ac.zo, .bool x.ac.be, .slice x.ac.la x.ac.ln x.ac.lcap, .int .i64 x.un, .int .i64 x.le] 32)
  have hwl : w.heap.size < (w.alloc (.cells #[.int .i64 x.id, .int .i64 x.si, .int .i64 x.sr, .int .i64 x.cl, .int .i64 x.pt.kd, .int .i64 x.pt.wh, .int .i64 x.pt.sr, .int .i64 x.pt.tr, .int .i64 x.pt.pi, .int .i64 x.pt.le, .int .i64 x.pt.zo, .int .i64 x.gd.kd, .int .i64 x.gd.nn, .int .i64 x.ac.kd, .int .i64 x.ac.nn, .int .i64 x.ac.pi, .int .i64 x.ac.si, .int .i64 x.ac.zo, .bool x.ac.be, .slice x.ac.la x.ac.ln x.ac.lcap, .int .i64 x.un, .int .i64 x.le] 32)).heap.size := by simp
  go_enter Tryz.func40, Tryz.ntmps40
  go_wp2
  generalize w.alloc (.cells #[.int .i64 x.id, .int .i64 x.si, .int .i64 x.sr, .int .i64 x.cl, .int .i64 x.pt.kd, .int .i64 x.pt.wh, .int .i64 x.pt.sr, .int .i64 x.pt.tr, .int .i64 x.pt.pi, .int .i64 x.pt.le, .int .i64 x.pt.zo, .int .i64 x.gd.kd, .int .i64 x.gd.nn, .int .i64 x.ac.kd, .int .i64 x.ac.nn, .int .i64 x.ac.pi, .int .i64 x.ac.si, .int .i64 x.ac.zo, .bool x.ac.be, .slice x.ac.la x.ac.ln x.ac.lcap, .int .i64 x.un, .int .i64 x.le] 32) = W0 at hb1 bx hwl ⊢
  go_loopw [6] (fun i wr => ∃ k : Nat, k ≤ n ∧ i = .int .i64 k ∧ Below w.heap.size w wr ∧ BoxR wr w.heap.size 32 #[.int .i64 x.id, .int .i64 x.si, .int .i64 x.sr, .int .i64 x.cl, .int .i64 x.pt.kd, .int .i64 x.pt.wh, .int .i64 x.pt.sr, .int .i64 x.pt.tr, .int .i64 x.pt.pi, .int .i64 x.pt.le, .int .i64 x.pt.zo, .int .i64 x.gd.kd, .int .i64 x.gd.nn, .int .i64 x.ac.kd, .int .i64 x.ac.nn, .int .i64 x.ac.pi, .int .i64 x.ac.si, .int .i64 x.ac.zo, .bool x.ac.be, .slice x.ac.la x.ac.ln x.ac.lcap, .int .i64 x.un, .int .i64 x.le] ∧ ∀ j, j < k → (f j).id < x.id) (fun i _ => n - (intOf i).toNat)
  case atStart => exact ⟨0, Nat.zero_le _, rfl, hb1, bx, fun j hj => by omega⟩
  case round =>
    clear hb1 bx hwl
    obtain ⟨k, hk, rfl, hb0, bx, hg⟩ := hrel
    have hokr := hok.grew hb0
    have cx : wr.cell? ⟨w.heap.size, 0, none⟩ = some (.int .i64 x.id) := by have := bx.cell 0; simpa using this
    have hwr := bx.lt
    by_cases hlt : k < n
    · rcases hokr.2.2.1 with h3 | ⟨o1, hp, h3⟩
      · dsimp only at h3; omega
      dsimp only at hp h3
      subst hp
      have c0 : wr.cell? ⟨b, o1 + k * 22, none⟩ = some (.int .i64 (f k).id) := h3 k hlt 0 _ rfl
      have y1 : (0 : Int) ≤ (k : Int) := by omega
      have y2 : (k : Int) < (n : Int) := by omega
      clear h3
      by_cases hid : (f k).id < x.id
      · have HG : Hid (∀ j, j < k + 1 → (f j).id < x.id) := fun j hj => by
          by_cases hjk : j = k
          · subst hjk; exact hid
          · exact hg j (by omega)
        go_wp2_with fail
        have hq : Below wr.heap.size wr wr.drew := (Below.refl _ wr).drew
        refine wp_region_held_drew (S := fun u : World => Below wr.heap.size wr u) (by kernel_rfl) hq (fun hHeld => ?_)
        refine wpAnyH_take (i := 0) (oi := ⟨some 8, _, _, _, _, _⟩) (v := .int .i64 k) rfl (by kernel_rfl) (by kernel_rfl) (by kernel_rfl) (fun _ _ _ h => h) (Or.inl ⟨by kernel_rfl, fun u hSu => by clear hSu; go_simp⟩) hHeld ?_
        try simp only [Act.put, List.setIfInBounds_toArray, List.set_cons_zero, List.set_cons_succ]
        refine wpAnyH_take (i := 1) (oi := ⟨some 9, _, _, _, _, _⟩) (v := .slice (some ⟨b, o1, none⟩) n cap) rfl (by kernel_rfl) (by kernel_rfl) (by kernel_rfl) (fun _ _ _ h => h) (Or.inl ⟨by kernel_rfl, fun u hSu => by clear hSu; go_simp⟩) hHeld ?_
        try simp only [Act.put, List.setIfInBounds_toArray, List.set_cons_zero, List.set_cons_succ]
        refine wpAnyH_take (i := 2) (oi := ⟨some 10, _, _, _, _, _⟩) (v := .int .i64 n) rfl (by kernel_rfl) (by kernel_rfl) (by kernel_rfl) (fun _ _ _ h => h) (Or.inl ⟨by kernel_rfl, fun u hSu => by clear hSu; go_simp⟩) hHeld ?_
        try simp only [Act.put, List.setIfInBounds_toArray, List.set_cons_zero, List.set_cons_succ]
        refine wpAnyH_take (i := 3) (oi := ⟨some 11, _, _, _, _, _⟩) (v := .bool true) rfl (by kernel_rfl) (by kernel_rfl) (by kernel_rfl) (fun _ _ _ h => h) (Or.inl ⟨by kernel_rfl, fun u hSu => by clear hSu; go_simp; first | done | omega | (simp; omega)⟩) hHeld ?_
        try simp only [Act.put, List.setIfInBounds_toArray, List.set_cons_zero, List.set_cons_succ]
        refine wpAnyH_take (i := 4) (oi := ⟨some 12, _, _, _, _, _⟩) (v := .bool true) rfl (by kernel_rfl) (by kernel_rfl) (by kernel_rfl) (fun _ _ _ h => h) (Or.inl ⟨by kernel_rfl, fun u hSu => by clear hSu; go_simp⟩) hHeld ?_
        try simp only [Act.put, List.setIfInBounds_toArray, List.set_cons_zero, List.set_cons_succ]
        refine wpAnyH_take (i := 5) (oi := ⟨some 13, _, _, _, _, _⟩) (v := .slice (some ⟨b, o1, none⟩) n cap) rfl (by kernel_rfl) (by kernel_rfl) (by kernel_rfl) (fun _ _ _ h => h) (Or.inl ⟨by kernel_rfl, fun u hSu => by clear hSu; go_simp⟩) hHeld ?_
        try simp only [Act.put, List.setIfInBounds_toArray, List.set_cons_zero, List.set_cons_succ]
        refine wpAnyH_take (i := 6) (oi := ⟨some 14, _, _, _, _, _⟩) (v := .int .i64 k) rfl (by kernel_rfl) (by kernel_rfl) (by kernel_rfl) (fun _ _ _ h => h) (Or.inl ⟨by kernel_rfl, fun u hSu => by clear hSu; go_simp⟩) hHeld ?_
        try simp only [Act.put, List.setIfInBounds_toArray, List.set_cons_zero, List.set_cons_succ]
        refine wpAnyH_take (i := 7) (oi := ⟨some 15, _, _, _, _, _⟩) (v := .pointer (some ⟨b, o1 + k * 22, none⟩)) rfl (by kernel_rfl) (by kernel_rfl) (by kernel_rfl) (fun _ _ _ h => h) (Or.inl ⟨by kernel_rfl, fun u hSu => by clear hSu; go_simp⟩) hHeld ?_
        try simp only [Act.put, List.setIfInBounds_toArray, List.set_cons_zero, List.set_cons_succ]
        refine wpAnyH_take (i := 8) (oi := ⟨some 16, _, _, _, _, _⟩) (v := .pointer (some ⟨b, o1 + k * 22, none⟩)) rfl (by kernel_rfl) (by kernel_rfl) (by kernel_rfl) (fun _ _ _ h => h) (Or.inl ⟨by kernel_rfl, fun u hSu => by clear hSu; go_simp⟩) hHeld ?_
        try simp only [Act.put, List.setIfInBounds_toArray, List.set_cons_zero, List.set_cons_succ]
        refine wpAnyH_take (i := 9) (oi := ⟨some 17, _, _, _, _, _⟩) (v := .int .i64 (f k).id) rfl (by kernel_rfl) (by kernel_rfl) (by kernel_rfl) (fun _ _ _ h => h) (Or.inl ⟨by kernel_rfl, fun u hSu => by have hcu := cell_below c0 hSu; clear hSu; go_simp⟩) hHeld ?_
        try simp only [Act.put, List.setIfInBounds_toArray, List.set_cons_zero, List.set_cons_succ]
        refine wpAnyH_take (i := 10) (oi := ⟨some 18, _, _, _, _, _⟩) (v := .pointer (some ⟨w.heap.size, 0, none⟩)) rfl (by kernel_rfl) (by kernel_rfl) (by kernel_rfl) (fun _ _ _ h => h) (Or.inl ⟨by kernel_rfl, fun u hSu => by clear hSu; go_simp⟩) hHeld ?_
        try simp only [Act.put, List.setIfInBounds_toArray, List.set_cons_zero, List.set_cons_succ]
        refine wpAnyH_take (i := 11) (oi := ⟨some 19, _, _, _, _, _⟩) (v := .int .i64 x.id) rfl (by kernel_rfl) (by kernel_rfl) (by kernel_rfl) (fun _ _ _ h => h) (Or.inl ⟨by kernel_rfl, fun u hSu => by have hcu := cell_below cx hSu; clear hSu; go_simp⟩) hHeld ?_
        try simp only [Act.put, List.setIfInBounds_toArray, List.set_cons_zero, List.set_cons_succ]
        refine wpAnyH_take (i := 12) (oi := ⟨some 20, _, _, _, _, _⟩) (v := .bool true) rfl (by kernel_rfl) (by kernel_rfl) (by kernel_rfl) (fun _ _ _ h => h) (Or.inl ⟨by kernel_rfl, fun u hSu => by clear hSu; go_simp; first | done | simp [hid] | (simp; omega)⟩) hHeld ?_
        try simp only [Act.put, List.setIfInBounds_toArray, List.set_cons_zero, List.set_cons_succ]
        refine wpAnyH_take (i := 13) (oi := ⟨some 21, _, _, _, _, _⟩) (v := .bool true) rfl (by kernel_rfl) (by kernel_rfl) (by kernel_rfl) (fun _ _ _ h => h) (Or.inl ⟨by kernel_rfl, fun u hSu => by clear hSu; go_simp⟩) hHeld ?_
        try simp only [Act.put, List.setIfInBounds_toArray, List.set_cons_zero, List.set_cons_succ]
        refine wpAnyH_done (by kernel_rfl) ?_ _
        clear hHeld
        have hB := below_app hb0 hq hb0.size
        have bx' := bx.grew hq
        clear hq c0 cx bx hb0
        go_wp2
        go_roundw
        case rel => exact ⟨k + 1, by omega, by go_num, hB, bx', HG.out⟩
        case measure => simp [intOf]; omega
      · have HK : Hid (insK f x.id n = k) := insK_eq hg hid hk
        go_wp2_with fail
        have hq : Below wr.heap.size wr wr.drew := (Below.refl _ wr).drew
        refine wp_region_held_drew (S := fun u : World => Below wr.heap.size wr u) (by kernel_rfl) hq (fun hHeld => ?_)
        refine wpAnyH_take (i := 0) (oi := ⟨some 8, _, _, _, _, _⟩) (v := .int .i64 k) rfl (by kernel_rfl) (by kernel_rfl) (by kernel_rfl) (fun _ _ _ h => h) (Or.inl ⟨by kernel_rfl, fun u hSu => by clear hSu; go_simp⟩) hHeld ?_
        try simp only [Act.put, List.setIfInBounds_toArray, List.set_cons_zero, List.set_cons_succ]
        refine wpAnyH_take (i := 1) (oi := ⟨some 9, _, _, _, _, _⟩) (v := .slice (some ⟨b, o1, none⟩) n cap) rfl (by kernel_rfl) (by kernel_rfl) (by kernel_rfl) (fun _ _ _ h => h) (Or.inl ⟨by kernel_rfl, fun u hSu => by clear hSu; go_simp⟩) hHeld ?_
        try simp only [Act.put, List.setIfInBounds_toArray, List.set_cons_zero, List.set_cons_succ]
        refine wpAnyH_take (i := 2) (oi := ⟨some 10, _, _, _, _, _⟩) (v := .int .i64 n) rfl (by kernel_rfl) (by kernel_rfl) (by kernel_rfl) (fun _ _ _ h => h) (Or.inl ⟨by kernel_rfl, fun u hSu => by clear hSu; go_simp⟩) hHeld ?_
        try simp only [Act.put, List.setIfInBounds_toArray, List.set_cons_zero, List.set_cons_succ]
        refine wpAnyH_take (i := 3) (oi := ⟨some 11, _, _, _, _, _⟩) (v := .bool true) rfl (by kernel_rfl) (by kernel_rfl) (by kernel_rfl) (fun _ _ _ h => h) (Or.inl ⟨by kernel_rfl, fun u hSu => by clear hSu; go_simp; first | done | omega | (simp; omega)⟩) hHeld ?_
        try simp only [Act.put, List.setIfInBounds_toArray, List.set_cons_zero, List.set_cons_succ]
        refine wpAnyH_take (i := 4) (oi := ⟨some 12, _, _, _, _, _⟩) (v := .bool true) rfl (by kernel_rfl) (by kernel_rfl) (by kernel_rfl) (fun _ _ _ h => h) (Or.inl ⟨by kernel_rfl, fun u hSu => by clear hSu; go_simp⟩) hHeld ?_
        try simp only [Act.put, List.setIfInBounds_toArray, List.set_cons_zero, List.set_cons_succ]
        refine wpAnyH_take (i := 5) (oi := ⟨some 13, _, _, _, _, _⟩) (v := .slice (some ⟨b, o1, none⟩) n cap) rfl (by kernel_rfl) (by kernel_rfl) (by kernel_rfl) (fun _ _ _ h => h) (Or.inl ⟨by kernel_rfl, fun u hSu => by clear hSu; go_simp⟩) hHeld ?_
        try simp only [Act.put, List.setIfInBounds_toArray, List.set_cons_zero, List.set_cons_succ]
        refine wpAnyH_take (i := 6) (oi := ⟨some 14, _, _, _, _, _⟩) (v := .int .i64 k) rfl (by kernel_rfl) (by kernel_rfl) (by kernel_rfl) (fun _ _ _ h => h) (Or.inl ⟨by kernel_rfl, fun u hSu => by clear hSu; go_simp⟩) hHeld ?_
        try simp only [Act.put, List.setIfInBounds_toArray, List.set_cons_zero, List.set_cons_succ]
        refine wpAnyH_take (i := 7) (oi := ⟨some 15, _, _, _, _, _⟩) (v := .pointer (some ⟨b, o1 + k * 22, none⟩)) rfl (by kernel_rfl) (by kernel_rfl) (by kernel_rfl) (fun _ _ _ h => h) (Or.inl ⟨by kernel_rfl, fun u hSu => by clear hSu; go_simp⟩) hHeld ?_
        try simp only [Act.put, List.setIfInBounds_toArray, List.set_cons_zero, List.set_cons_succ]
        refine wpAnyH_take (i := 8) (oi := ⟨some 16, _, _, _, _, _⟩) (v := .pointer (some ⟨b, o1 + k * 22, none⟩)) rfl (by kernel_rfl) (by kernel_rfl) (by kernel_rfl) (fun _ _ _ h => h) (Or.inl ⟨by kernel_rfl, fun u hSu => by clear hSu; go_simp⟩) hHeld ?_
        try simp only [Act.put, List.setIfInBounds_toArray, List.set_cons_zero, List.set_cons_succ]
        refine wpAnyH_take (i := 9) (oi := ⟨some 17, _, _, _, _, _⟩) (v := .int .i64 (f k).id) rfl (by kernel_rfl) (by kernel_rfl) (by kernel_rfl) (fun _ _ _ h => h) (Or.inl ⟨by kernel_rfl, fun u hSu => by have hcu := cell_below c0 hSu; clear hSu; go_simp⟩) hHeld ?_
        try simp only [Act.put, List.setIfInBounds_toArray, List.set_cons_zero, List.set_cons_succ]
        refine wpAnyH_take (i := 10) (oi := ⟨some 18, _, _, _, _, _⟩) (v := .pointer (some ⟨w.heap.size, 0, none⟩)) rfl (by kernel_rfl) (by kernel_rfl) (by kernel_rfl) (fun _ _ _ h => h) (Or.inl ⟨by kernel_rfl, fun u hSu => by clear hSu; go_simp⟩) hHeld ?_
        try simp only [Act.put, List.setIfInBounds_toArray, List.set_cons_zero, List.set_cons_succ]
        refine wpAnyH_take (i := 11) (oi := ⟨some 19, _, _, _, _, _⟩) (v := .int .i64 x.id) rfl (by kernel_rfl) (by kernel_rfl) (by kernel_rfl) (fun _ _ _ h => h) (Or.inl ⟨by kernel_rfl, fun u hSu => by have hcu := cell_below cx hSu; clear hSu; go_simp⟩) hHeld ?_
        try simp only [Act.put, List.setIfInBounds_toArray, List.set_cons_zero, List.set_cons_succ]
        refine wpAnyH_take (i := 12) (oi := ⟨some 20, _, _, _, _, _⟩) (v := .bool false) rfl (by kernel_rfl) (by kernel_rfl) (by kernel_rfl) (fun _ _ _ h => h) (Or.inl ⟨by kernel_rfl, fun u hSu => by clear hSu; go_simp; first | done | simp [hid] | (simp; omega)⟩) hHeld ?_
        try simp only [Act.put, List.setIfInBounds_toArray, List.set_cons_zero, List.set_cons_succ]
        refine wpAnyH_take (i := 13) (oi := ⟨some 21, _, _, _, _, _⟩) (v := .bool false) rfl (by kernel_rfl) (by kernel_rfl) (by kernel_rfl) (fun _ _ _ h => h) (Or.inl ⟨by kernel_rfl, fun u hSu => by clear hSu; go_simp⟩) hHeld ?_
        try simp only [Act.put, List.setIfInBounds_toArray, List.set_cons_zero, List.set_cons_succ]
        refine wpAnyH_done (by kernel_rfl) ?_ _
        clear hHeld
        have hB := below_app hb0 hq hb0.size
        have bx' := bx.grew hq
        clear hq c0 cx bx hb0
        have hokr2 := hok.grew hB
        have y5 : (k : Int) ≤ (cap : Int) := by have := hokr2.1; dsimp only at this; omega
        go_wp2_with fail
        refine (l11Copy_build ⟨some ⟨b, o1, none⟩, k, cap, b, f⟩ _ (hokr2.upto (k := k) (by omega)) (by dsimp only; omega)).mono ?_
        rintro e u1 ⟨v1, g1, rfl, hb1, B1⟩
        dsimp only at B1
        have bne : v1.ownBlock ≠ some w.heap.size := fun e0 => by have h1 := (B1.1.lt _ e0).1; have h2 := bx'.lt; simp at h1 h2; omega
        replace B1 := B1.down hB.size
        have hB1 := below_app hB hb1 hB.size
        replace bx' := bx'.grew hb1
        clear hb1
        have hx1 := efw_grew hx hB1
        go_wp2_with (refine wpList_load_row rfl 32 _ rfl (w.heap.size) (by rfl) _ _ _ _ bx' Tryz.underlying32 rfl (by kernel_rfl) ?_)
        refine (l10Copy_any x _ hx1 hxl).mono ?_
        rintro e u2 ⟨y, rfl, hb2, oy, ky⟩
        have hown2 := owns_kept9 B1.1 hb2
        have hbv := below_app hB1 hb2 hB1.size
        have hvl := hown2.lt
        go_wp2_with (at_builtin; refine wpList_append_own_at _ rfl (.tmp 28) (.tmp 31) 56 rfl w.heap.size 32 i0 (.agg #[.int .i64 0, .int .i64 0, .int .i64 0, .int .i64 0, .int .i64 0, .int .i64 0, .int .i64 0, .int .i64 0, .int .i64 0, .int .i64 0, .int .i64 0, .int .i64 0, .int .i64 0, .int .i64 0, .int .i64 0, .int .i64 0, .int .i64 0, .int .i64 0, .bool false, .slice none 0 0, .int .i64 0, .int .i64 0]) 22 192 Tryz.underlying56 hi hz0 hz1 hz2 rfl (by decide) _ _ _ rfl (hown2.alloc _) ⟨u2.heap.size, 0, none⟩ 1 1 (efC y) rfl rfl (cells_new _ _ _) (fun u hu => efC_one 1 (fun _ => y) u (by simpa [valsE] using hu)) (by unfold maxLen; omega) (by omega) (by have := hbv.size; simp; omega) ?_)
        intro v3 u3 hown4 hgr4 hnil4 hat4
        have B3 := B1.snoc (x := x) (hb2.alloc (by have := hb2.size; omega) (.cells #[.int .i64 y.id, .int .i64 y.si, .int .i64 y.sr, .int .i64 y.cl, .int .i64 y.pt.kd, .int .i64 y.pt.wh, .int .i64 y.pt.sr, .int .i64 y.pt.tr, .int .i64 y.pt.pi, .int .i64 y.pt.le, .int .i64 y.pt.zo, .int .i64 y.gd.kd, .int .i64 y.gd.nn, .int .i64 y.ac.kd, .int .i64 y.ac.nn, .int .i64 y.ac.pi, .int .i64 y.ac.si, .int .i64 y.ac.zo, .bool y.ac.be, .slice y.ac.la y.ac.ln y.ac.lcap, .int .i64 y.un, .int .i64 y.le] 32)) hB1.size (OwnF.grew oy (below_new2'' u2 _)) ky hown4 hgr4 (fun e => by first | exact hnil4 e | exact B1.2.1 (hnil4.1 e).1) (by rw [World.size_alloc]; exact hat4)
        have hB3 : Below w.heap.size w u3 := (hbv.alloc hbv.size _).grown hgr4 (by have := hbv.size; simp; omega) (fun q hq => (hvl q hq).1)
        have hs2_ := bx'.lt
        replace bx' := ((bx'.grew hb2).alloc (.cells #[.int .i64 y.id, .int .i64 y.si, .int .i64 y.sr, .int .i64 y.cl, .int .i64 y.pt.kd, .int .i64 y.pt.wh, .int .i64 y.pt.sr, .int .i64 y.pt.tr, .int .i64 y.pt.pi, .int .i64 y.pt.le, .int .i64 y.pt.zo, .int .i64 y.gd.kd, .int .i64 y.gd.nn, .int .i64 y.ac.kd, .int .i64 y.ac.nn, .int .i64 y.ac.pi, .int .i64 y.ac.si, .int .i64 y.ac.zo, .bool y.ac.be, .slice y.ac.la y.ac.ln y.ac.lcap, .int .i64 y.un, .int .i64 y.le] 32)).grownS hgr4 (fun e0 => bne e0.symm)
        have bne2 : v3.ownBlock ≠ some w.heap.size := by
          rcases hat4 with e0 | e0
          · rw [e0]; exact bne
          · rw [e0]; intro e1; simp only [Option.some.injEq, World.size_alloc] at e1; have := hb2.size; omega
        clear bne
        have bne := bne2
        clear bne2 hs2_ hgr4 hown4 hnil4 hat4 hown2 hvl hbv
        have hokr3 := hok.grew hB3
        clear hB1 hb2 oy ky B1 hx1
        have y7 : ¬ (cap = k) := by have := hokr3.1; dsimp only at this; omega
        go_wp2_with fail
        refine (l11Copy_build ⟨_, n - k, cap - k, b, fun i => f (k + i)⟩ _ (hokr3.from (k := k) (by omega) (fun _ => rfl)) (by dsimp only; omega)).mono ?_
        rintro e u4 ⟨v5, g5, rfl, hb5, B5⟩
        dsimp only at B5
        obtain ⟨b5, cap5, rfl, ho5⟩ := B5.tb
        have hown2 := owns_kept9 B3.1 hb5
        have hbv := below_app hB3 hb5 hB3.size
        have hvl := hown2.lt
        go_wp2_with (at_builtin; refine wpList_append_own_at _ rfl (.tmp 33) (.tmp 37) 56 rfl w.heap.size 32 i0 (.agg #[.int .i64 0, .int .i64 0, .int .i64 0, .int .i64 0, .int .i64 0, .int .i64 0, .int .i64 0, .int .i64 0, .int .i64 0, .int .i64 0, .int .i64 0, .int .i64 0, .int .i64 0, .int .i64 0, .int .i64 0, .int .i64 0, .int .i64 0, .int .i64 0, .bool false, .slice none 0 0, .int .i64 0, .int .i64 0]) 22 192 Tryz.underlying56 hi hz0 hz1 hz2 rfl (by decide) _ _ _ rfl hown2 ⟨b5, 0, none⟩ (n - k) cap5 (valsE efC (n - k) g5) rfl (valsE_len efC_len _ _) (RdE.newsE efC_len ho5.2.2.1.rd) (efC_one _ _) (by unfold maxLen; omega) (by omega) (by have := hbv.size; simp; omega) ?_)
        intro v6 u6 hown4 hgr4 hnil4 hat4
        have B6 := BuildT.cat (m := (n - k)) B3 hb5 hB3.size (fun i hi => ⟨(B5.2.2.1 i hi).1, (B5.2.2.1 i hi).2.2⟩) B5.2.2.2 hown4 hgr4 (fun e => by first | exact hnil4 e | exact B3.2.1 (hnil4.1 e).1 | exact B3.2.1 (hnil4.1 e)) hat4
        have hB6 : Below w.heap.size w u6 := hbv.grown hgr4 (by have := hbv.size; omega) (fun q hq => (hvl q hq).1)
        replace bx' := (bx'.grew hb5).grownS hgr4 (fun e0 => bne e0.symm)
        clear hown4 hgr4 hnil4 hat4 hown2 hvl hbv ho5 B5 hb5 B3 hB3 hokr3 bne hokr2 hB hokr hwr
        have hNN : k + 1 + (n - k) = n + 1 := by omega
        rw [hNN] at B6
        replace B6 := B6.congr (g' := _) (f' := insF k f x) (fun i hi => rfl) (fun i hi => by
          unfold insF
          by_cases h1 : i < k
          · rw [if_pos (show i < k + 1 by omega), if_pos h1, if_pos h1]
          · by_cases h2 : i = k
            · subst h2; rw [if_pos (show i < i + 1 by omega), if_neg h1, if_neg h1, if_pos rfl]
            · rw [if_neg (show ¬ i < k + 1 by omega), if_neg h1, if_neg h2]; congr 1; omega)
        replace B6 : ∃ g6, BuildT u6 w.heap.size v6 (n + 1) g6 (insF k f x) := ⟨_, B6⟩
        obtain ⟨g6, B6⟩ := B6
        obtain ⟨b6, cap6, rfl, _⟩ := B6.tb
        have hokA := hok.grew hB6
        have cx : u6.cell? ⟨w.heap.size, 0, none⟩ = some (.int .i64 x.id) := by have := bx'.cell 0; simpa using this
        have hxok := hx
        go_wp2_with fail
        refine (specEffectAt_any ⟨some ⟨b, o1, none⟩, n, cap, b, f⟩ x.id _ hokA).mono ?_
        rintro e u7 ⟨rfl, hb7⟩
        dsimp only
        replace B6 := B6.grew hb7
        replace hB6 := below_app hB6 hb7 hB6.size
        have hokB := hok.grew hB6
        clear cx bx' hokA hb7
        have hsrc : ∀ i, i < n + 1 → (insF k f x i).okW w ∧ (insF k f x i).ac.ln ≤ 1048577 := insF_ok hok.2.2.2 ⟨hx, hxl⟩ (by omega)
        by_cases he : eaN f x.id n < 0
        · have he' : ¬ (0 ≤ eaN f x.id n) := by omega
          have HI : inOk n f x = okTb (n + 1) (insF k f x) := by unfold inOk; rw [HK.out]; simp [he]
          generalize eaN f x.id n = E at he he' ⊢
          go_wp2_with fail
          refine (specTableOk_any ⟨some ⟨b6, 0, none⟩, n + 1, cap6, b6, g6⟩ _ (B6.okW hsrc rfl)).mono ?_
          rintro e u8 ⟨rfl, hb8⟩
          dsimp only
          rw [okTb_alike (fun i hi => (B6.2.2.1 i hi).2.2)]
          replace B6 := B6.grew hb8
          replace hB6 := below_app hB6 hb8 hB6.size
          replace hokB := hok.grew hB6
          clear hb8
          cases ho : okTb (n + 1) (insF k f x)
          case false =>
            rw [ho] at HI
            have HN : Hid (inN n f x = n) := by show _ = _; unfold inN; rw [HI]; simp
            have HF : Hid (inF n f x = f) := by show _ = _; unfold inF; rw [HI]; simp
            go_wp2_with fail
            refine (l11Copy_build ⟨some ⟨b, o1, none⟩, n, cap, b, f⟩ _ hokB (by dsimp only; omega)).mono ?_
            rintro e u9 ⟨v9, g9, rfl, hb9, B9⟩
            dsimp only at B9
            replace B9 := B9.down hB6.size
            obtain ⟨q, rfl, aq⟩ := B9.ans
            go_wp2
            go_ret2
            rw [HN.out, HF.out, HI]
            exact ⟨q, rfl, below_app hB6 hb9 hB6.size, aq⟩
          case true =>
            rw [ho] at HI
            have HN : Hid (inN n f x = n + 1) := by show _ = _; unfold inN; rw [HI]; simp
            have HF : Hid (inF n f x = insF k f x) := by show _ = _; unfold inF; rw [HI, HK.out]; simp
            obtain ⟨q, hq, aq⟩ := B6.ans
            go_wp2
            go_ret2
            rw [HN.out, HF.out, HI]
            exact ⟨q, by rw [← hq]; rfl, hB6, aq⟩
        · have HI : inOk n f x = false := by unfold inOk; simp [he]
          have he' : 0 ≤ eaN f x.id n := by omega
          generalize eaN f x.id n = E at he he' ⊢
          have HN : Hid (inN n f x = n) := by show _ = _; unfold inN; rw [HI]; simp
          have HF : Hid (inF n f x = f) := by show _ = _; unfold inF; rw [HI]; simp
          go_wp2_with fail
          refine (l11Copy_build ⟨some ⟨b, o1, none⟩, n, cap, b, f⟩ _ hokB (by dsimp only; omega)).mono ?_
          rintro e u9 ⟨v9, g9, rfl, hb9, B9⟩
          dsimp only at B9
          replace B9 := B9.down hB6.size
          obtain ⟨q, rfl, aq⟩ := B9.ans
          go_wp2
          go_ret2
          rw [HN.out, HF.out, HI]
          exact ⟨q, rfl, below_app hB6 hb9 hB6.size, aq⟩
    · obtain rfl : k = n := by omega
      have HK : Hid (insK f x.id k = k) := insK_full hg
      go_wp2_with fail
      have hq : Below wr.heap.size wr wr.drew := (Below.refl _ wr).drew
      refine wp_region_held_drew (S := fun u : World => Below wr.heap.size wr u) (by kernel_rfl) hq (fun hHeld => ?_)
      refine wpAnyH_take (i := 0) (oi := ⟨some 8, _, _, _, _, _⟩) (v := .int .i64 k) rfl (by kernel_rfl) (by kernel_rfl) (by kernel_rfl) (fun _ _ _ h => h) (Or.inl ⟨by kernel_rfl, fun u hSu => by clear hSu; go_simp⟩) hHeld ?_
      try simp only [Act.put, List.setIfInBounds_toArray, List.set_cons_zero, List.set_cons_succ]
      refine wpAnyH_take (i := 1) (oi := ⟨some 9, _, _, _, _, _⟩) (v := .slice p k cap) rfl (by kernel_rfl) (by kernel_rfl) (by kernel_rfl) (fun _ _ _ h => h) (Or.inl ⟨by kernel_rfl, fun u hSu => by clear hSu; go_simp⟩) hHeld ?_
      try simp only [Act.put, List.setIfInBounds_toArray, List.set_cons_zero, List.set_cons_succ]
      refine wpAnyH_take (i := 2) (oi := ⟨some 10, _, _, _, _, _⟩) (v := .int .i64 k) rfl (by kernel_rfl) (by kernel_rfl) (by kernel_rfl) (fun _ _ _ h => h) (Or.inl ⟨by kernel_rfl, fun u hSu => by clear hSu; go_simp⟩) hHeld ?_
      try simp only [Act.put, List.setIfInBounds_toArray, List.set_cons_zero, List.set_cons_succ]
      refine wpAnyH_take (i := 3) (oi := ⟨some 11, _, _, _, _, _⟩) (v := .bool false) rfl (by kernel_rfl) (by kernel_rfl) (by kernel_rfl) (fun _ _ _ h => h) (Or.inl ⟨by kernel_rfl, fun u hSu => by clear hSu; go_simp; first | done | omega | (simp; omega)⟩) hHeld ?_
      try simp only [Act.put, List.setIfInBounds_toArray, List.set_cons_zero, List.set_cons_succ]
      refine wpAnyH_take (i := 4) (oi := ⟨some 12, _, _, _, _, _⟩) (v := .bool false) rfl (by kernel_rfl) (by kernel_rfl) (by kernel_rfl) (fun _ _ _ h => h) (Or.inl ⟨by kernel_rfl, fun u hSu => by clear hSu; go_simp⟩) hHeld ?_
      try simp only [Act.put, List.setIfInBounds_toArray, List.set_cons_zero, List.set_cons_succ]
      refine wpAnyH_take (i := 5) (oi := ⟨some 13, _, _, _, _, _⟩) (v := undef) rfl (by kernel_rfl) (by kernel_rfl) (by kernel_rfl) (fun _ _ _ h => h) (Or.inr ⟨by kernel_rfl, rfl⟩) hHeld ?_
      try simp only [Act.put, List.setIfInBounds_toArray, List.set_cons_zero, List.set_cons_succ]
      refine wpAnyH_take (i := 6) (oi := ⟨some 14, _, _, _, _, _⟩) (v := undef) rfl (by kernel_rfl) (by kernel_rfl) (by kernel_rfl) (fun _ _ _ h => h) (Or.inr ⟨by kernel_rfl, rfl⟩) hHeld ?_
      try simp only [Act.put, List.setIfInBounds_toArray, List.set_cons_zero, List.set_cons_succ]
      refine wpAnyH_take (i := 7) (oi := ⟨some 15, _, _, _, _, _⟩) (v := undef) rfl (by kernel_rfl) (by kernel_rfl) (by kernel_rfl) (fun _ _ _ h => h) (Or.inr ⟨by kernel_rfl, rfl⟩) hHeld ?_
      try simp only [Act.put, List.setIfInBounds_toArray, List.set_cons_zero, List.set_cons_succ]
      refine wpAnyH_take (i := 8) (oi := ⟨some 16, _, _, _, _, _⟩) (v := undef) rfl (by kernel_rfl) (by kernel_rfl) (by kernel_rfl) (fun _ _ _ h => h) (Or.inr ⟨by kernel_rfl, rfl⟩) hHeld ?_
      try simp only [Act.put, List.setIfInBounds_toArray, List.set_cons_zero, List.set_cons_succ]
      refine wpAnyH_take (i := 9) (oi := ⟨some 17, _, _, _, _, _⟩) (v := undef) rfl (by kernel_rfl) (by kernel_rfl) (by kernel_rfl) (fun _ _ _ h => h) (Or.inr ⟨by kernel_rfl, rfl⟩) hHeld ?_
      try simp only [Act.put, List.setIfInBounds_toArray, List.set_cons_zero, List.set_cons_succ]
      refine wpAnyH_take (i := 10) (oi := ⟨some 18, _, _, _, _, _⟩) (v := undef) rfl (by kernel_rfl) (by kernel_rfl) (by kernel_rfl) (fun _ _ _ h => h) (Or.inr ⟨by kernel_rfl, rfl⟩) hHeld ?_
      try simp only [Act.put, List.setIfInBounds_toArray, List.set_cons_zero, List.set_cons_succ]
      refine wpAnyH_take (i := 11) (oi := ⟨some 19, _, _, _, _, _⟩) (v := undef) rfl (by kernel_rfl) (by kernel_rfl) (by kernel_rfl) (fun _ _ _ h => h) (Or.inr ⟨by kernel_rfl, rfl⟩) hHeld ?_
      try simp only [Act.put, List.setIfInBounds_toArray, List.set_cons_zero, List.set_cons_succ]
      refine wpAnyH_take (i := 12) (oi := ⟨some 20, _, _, _, _, _⟩) (v := undef) rfl (by kernel_rfl) (by kernel_rfl) (by kernel_rfl) (fun _ _ _ h => h) (Or.inr ⟨by kernel_rfl, rfl⟩) hHeld ?_
      try simp only [Act.put, List.setIfInBounds_toArray, List.set_cons_zero, List.set_cons_succ]
      refine wpAnyH_take (i := 13) (oi := ⟨some 21, _, _, _, _, _⟩) (v := .bool false) rfl (by kernel_rfl) (by kernel_rfl) (by kernel_rfl) (fun _ _ _ h => h) (Or.inl ⟨by kernel_rfl, fun u hSu => by clear hSu; go_simp⟩) hHeld ?_
      try simp only [Act.put, List.setIfInBounds_toArray, List.set_cons_zero, List.set_cons_succ]
      refine wpAnyH_done (by kernel_rfl) ?_ _
      clear hHeld
      have hB := below_app hb0 hq hb0.size
      have bx' := bx.grew hq
      clear hq cx bx hb0
      have hokr2 := hok.grew hB
      by_cases y7 : k = cap
      · subst y7
        have y5 : (k : Int) ≤ (k : Int) := by have := hokr2.1; dsimp only at this; omega
        go_wp2_with fail
        refine (l11Copy_build ⟨p, k, k, b, f⟩ _ (hokr2.upto (k := k) (by omega)) (by dsimp only; omega)).mono ?_
        rintro e u1 ⟨v1, g1, rfl, hb1, B1⟩
        dsimp only at B1
        have bne : v1.ownBlock ≠ some w.heap.size := fun e0 => by have h1 := (B1.1.lt _ e0).1; have h2 := bx'.lt; simp at h1 h2; omega
        replace B1 := B1.down hB.size
        have hB1 := below_app hB hb1 hB.size
        replace bx' := bx'.grew hb1
        clear hb1
        have hx1 := efw_grew hx hB1
        go_wp2_with (refine wpList_load_row rfl 32 _ rfl (w.heap.size) (by rfl) _ _ _ _ bx' Tryz.underlying32 rfl (by kernel_rfl) ?_)
        refine (l10Copy_any x _ hx1 hxl).mono ?_
        rintro e u2 ⟨y, rfl, hb2, oy, ky⟩
        have hown2 := owns_kept9 B1.1 hb2
        have hbv := below_app hB1 hb2 hB1.size
        have hvl := hown2.lt
        go_wp2_with (at_builtin; refine wpList_append_own_at _ rfl (.tmp 28) (.tmp 31) 56 rfl w.heap.size 32 i0 (.agg #[.int .i64 0, .int .i64 0, .int .i64 0, .int .i64 0, .int .i64 0, .int .i64 0, .int .i64 0, .int .i64 0, .int .i64 0, .int .i64 0, .int .i64 0, .int .i64 0, .int .i64 0, .int .i64 0, .int .i64 0, .int .i64 0, .int .i64 0, .int .i64 0, .bool false, .slice none 0 0, .int .i64 0, .int .i64 0]) 22 192 Tryz.underlying56 hi hz0 hz1 hz2 rfl (by decide) _ _ _ rfl (hown2.alloc _) ⟨u2.heap.size, 0, none⟩ 1 1 (efC y) rfl rfl (cells_new _ _ _) (fun u hu => efC_one 1 (fun _ => y) u (by simpa [valsE] using hu)) (by unfold maxLen; omega) (by omega) (by have := hbv.size; simp; omega) ?_)
        intro v3 u3 hown4 hgr4 hnil4 hat4
        have B3 := B1.snoc (x := x) (hb2.alloc (by have := hb2.size; omega) (.cells #[.int .i64 y.id, .int .i64 y.si, .int .i64 y.sr, .int .i64 y.cl, .int .i64 y.pt.kd, .int .i64 y.pt.wh, .int .i64 y.pt.sr, .int .i64 y.pt.tr, .int .i64 y.pt.pi, .int .i64 y.pt.le, .int .i64 y.pt.zo, .int .i64 y.gd.kd, .int .i64 y.gd.nn, .int .i64 y.ac.kd, .int .i64 y.ac.nn, .int .i64 y.ac.pi, .int .i64 y.ac.si, .int .i64 y.ac.zo, .bool y.ac.be, .slice y.ac.la y.ac.ln y.ac.lcap, .int .i64 y.un, .int .i64 y.le] 32)) hB1.size (OwnF.grew oy (below_new2'' u2 _)) ky hown4 hgr4 (fun e => by first | exact hnil4 e | exact B1.2.1 (hnil4.1 e).1) (by rw [World.size_alloc]; exact hat4)
        have hB3 : Below w.heap.size w u3 := (hbv.alloc hbv.size _).grown hgr4 (by have := hbv.size; simp; omega) (fun q hq => (hvl q hq).1)
        have hs2_ := bx'.lt
        replace bx' := ((bx'.grew hb2).alloc (.cells #[.int .i64 y.id, .int .i64 y.si, .int .i64 y.sr, .int .i64 y.cl, .int .i64 y.pt.kd, .int .i64 y.pt.wh, .int .i64 y.pt.sr, .int .i64 y.pt.tr, .int .i64 y.pt.pi, .int .i64 y.pt.le, .int .i64 y.pt.zo, .int .i64 y.gd.kd, .int .i64 y.gd.nn, .int .i64 y.ac.kd, .int .i64 y.ac.nn, .int .i64 y.ac.pi, .int .i64 y.ac.si, .int .i64 y.ac.zo, .bool y.ac.be, .slice y.ac.la y.ac.ln y.ac.lcap, .int .i64 y.un, .int .i64 y.le] 32)).grownS hgr4 (fun e0 => bne e0.symm)
        have bne2 : v3.ownBlock ≠ some w.heap.size := by
          rcases hat4 with e0 | e0
          · rw [e0]; exact bne
          · rw [e0]; intro e1; simp only [Option.some.injEq, World.size_alloc] at e1; have := hb2.size; omega
        clear bne
        have bne := bne2
        clear bne2 hs2_ hgr4 hown4 hnil4 hat4 hown2 hvl hbv
        have hokr3 := hok.grew hB3
        clear hB1 hb2 oy ky B1 hx1
        go_wp2_with fail
        refine (l11Copy_build ⟨_, 0, _, b, f⟩ _ ⟨Nat.zero_le _, (by dsimp only; have := hokr3.2.1; dsimp only at this; omega), .inl rfl, fun i hi => absurd hi (Nat.not_lt_zero i)⟩ (Nat.zero_le _)).mono ?_
        rintro e u4 ⟨v5, g5, rfl, hb5, B5⟩
        dsimp only at B5
        obtain ⟨b5, cap5, rfl, ho5⟩ := B5.tb
        have hown2 := owns_kept9 B3.1 hb5
        have hbv := below_app hB3 hb5 hB3.size
        have hvl := hown2.lt
        go_wp2_with (at_builtin; refine wpList_append_own_at _ rfl (.tmp 33) (.tmp 37) 56 rfl w.heap.size 32 i0 (.agg #[.int .i64 0, .int .i64 0, .int .i64 0, .int .i64 0, .int .i64 0, .int .i64 0, .int .i64 0, .int .i64 0, .int .i64 0, .int .i64 0, .int .i64 0, .int .i64 0, .int .i64 0, .int .i64 0, .int .i64 0, .int .i64 0, .int .i64 0, .int .i64 0, .bool false, .slice none 0 0, .int .i64 0, .int .i64 0]) 22 192 Tryz.underlying56 hi hz0 hz1 hz2 rfl (by decide) _ _ _ rfl hown2 ⟨b5, 0, none⟩ 0 cap5 (valsE efC 0 g5) rfl (valsE_len efC_len _ _) (RdE.newsE efC_len ho5.2.2.1.rd) (efC_one _ _) (by unfold maxLen; omega) (by omega) (by have := hbv.size; simp; omega) ?_)
        intro v6 u6 hown4 hgr4 hnil4 hat4
        have B6 := BuildT.cat (m := 0) B3 hb5 hB3.size (fun i hi => ⟨(B5.2.2.1 i hi).1, (B5.2.2.1 i hi).2.2⟩) B5.2.2.2 hown4 hgr4 (fun e => by first | exact hnil4 e | exact B3.2.1 (hnil4.1 e).1 | exact B3.2.1 (hnil4.1 e)) hat4
        have hB6 : Below w.heap.size w u6 := hbv.grown hgr4 (by have := hbv.size; omega) (fun q hq => (hvl q hq).1)
        replace bx' := (bx'.grew hb5).grownS hgr4 (fun e0 => bne e0.symm)
        clear hown4 hgr4 hnil4 hat4 hown2 hvl hbv ho5 B5 hb5 B3 hB3 hokr3 bne hokr2 hB hokr hwr
        have hNN : k + 1 + 0 = k + 1 := by omega
        rw [hNN] at B6
        replace B6 := B6.congr (g' := _) (f' := insF k f x) (fun i hi => rfl) (fun i hi => by
          unfold insF
          by_cases h1 : i < k
          · rw [if_pos (show i < k + 1 by omega), if_pos h1, if_pos h1]
          · by_cases h2 : i = k
            · subst h2; rw [if_pos (show i < i + 1 by omega), if_neg h1, if_neg h1, if_pos rfl]
            · rw [if_neg (show ¬ i < k + 1 by omega), if_neg h1, if_neg h2]; omega)
        replace B6 : ∃ g6, BuildT u6 w.heap.size v6 (k + 1) g6 (insF k f x) := ⟨_, B6⟩
        obtain ⟨g6, B6⟩ := B6
        obtain ⟨b6, cap6, rfl, _⟩ := B6.tb
        have hokA := hok.grew hB6
        have cx : u6.cell? ⟨w.heap.size, 0, none⟩ = some (.int .i64 x.id) := by have := bx'.cell 0; simpa using this
        have hxok := hx
        go_wp2_with fail
        refine (specEffectAt_any ⟨p, k, k, b, f⟩ x.id _ hokA).mono ?_
        rintro e u7 ⟨rfl, hb7⟩
        dsimp only
        replace B6 := B6.grew hb7
        replace hB6 := below_app hB6 hb7 hB6.size
        have hokB := hok.grew hB6
        clear cx bx' hokA hb7
        have hsrc : ∀ i, i < k + 1 → (insF k f x i).okW w ∧ (insF k f x i).ac.ln ≤ 1048577 := insF_ok hok.2.2.2 ⟨hx, hxl⟩ (by omega)
        by_cases he : eaN f x.id k < 0
        · have he' : ¬ (0 ≤ eaN f x.id k) := by omega
          have HI : inOk k f x = okTb (k + 1) (insF k f x) := by unfold inOk; rw [HK.out]; simp [he]
          generalize eaN f x.id k = E at he he' ⊢
          go_wp2_with fail
          refine (specTableOk_any ⟨some ⟨b6, 0, none⟩, k + 1, cap6, b6, g6⟩ _ (B6.okW hsrc rfl)).mono ?_
          rintro e u8 ⟨rfl, hb8⟩
          dsimp only
          rw [okTb_alike (fun i hi => (B6.2.2.1 i hi).2.2)]
          replace B6 := B6.grew hb8
          replace hB6 := below_app hB6 hb8 hB6.size
          replace hokB := hok.grew hB6
          clear hb8
          cases ho : okTb (k + 1) (insF k f x)
          case false =>
            rw [ho] at HI
            have HN : Hid (inN k f x = k) := by show _ = _; unfold inN; rw [HI]; simp
            have HF : Hid (inF k f x = f) := by show _ = _; unfold inF; rw [HI]; simp
            go_wp2_with fail
            refine (l11Copy_build ⟨p, k, k, b, f⟩ _ hokB (by dsimp only; omega)).mono ?_
            rintro e u9 ⟨v9, g9, rfl, hb9, B9⟩
            dsimp only at B9
            replace B9 := B9.down hB6.size
            obtain ⟨q, rfl, aq⟩ := B9.ans
            go_wp2
            go_ret2
            rw [HN.out, HF.out, HI]
            exact ⟨q, rfl, below_app hB6 hb9 hB6.size, aq⟩
          case true =>
            rw [ho] at HI
            have HN : Hid (inN k f x = k + 1) := by show _ = _; unfold inN; rw [HI]; simp
            have HF : Hid (inF k f x = insF k f x) := by show _ = _; unfold inF; rw [HI, HK.out]; simp
            obtain ⟨q, hq, aq⟩ := B6.ans
            go_wp2
            go_ret2
            rw [HN.out, HF.out, HI]
            exact ⟨q, by rw [← hq]; rfl, hB6, aq⟩
        · have HI : inOk k f x = false := by unfold inOk; simp [he]
          have he' : 0 ≤ eaN f x.id k := by omega
          generalize eaN f x.id k = E at he he' ⊢
          have HN : Hid (inN k f x = k) := by show _ = _; unfold inN; rw [HI]; simp
          have HF : Hid (inF k f x = f) := by show _ = _; unfold inF; rw [HI]; simp
          go_wp2_with fail
          refine (l11Copy_build ⟨p, k, k, b, f⟩ _ hokB (by dsimp only; omega)).mono ?_
          rintro e u9 ⟨v9, g9, rfl, hb9, B9⟩
          dsimp only at B9
          replace B9 := B9.down hB6.size
          obtain ⟨q, rfl, aq⟩ := B9.ans
          go_wp2
          go_ret2
          rw [HN.out, HF.out, HI]
          exact ⟨q, rfl, below_app hB6 hb9 hB6.size, aq⟩
      · have y8 : ¬ (cap = k) := fun h => y7 h.symm
        have y5 : (k : Int) ≤ (cap : Int) := by have := hokr2.1; dsimp only at this; omega
        go_wp2_with fail
        refine (l11Copy_build ⟨p, k, cap, b, f⟩ _ (hokr2.upto (k := k) (by omega)) (by dsimp only; omega)).mono ?_
        rintro e u1 ⟨v1, g1, rfl, hb1, B1⟩
        dsimp only at B1
        have bne : v1.ownBlock ≠ some w.heap.size := fun e0 => by have h1 := (B1.1.lt _ e0).1; have h2 := bx'.lt; simp at h1 h2; omega
        replace B1 := B1.down hB.size
        have hB1 := below_app hB hb1 hB.size
        replace bx' := bx'.grew hb1
        clear hb1
        have hx1 := efw_grew hx hB1
        go_wp2_with (refine wpList_load_row rfl 32 _ rfl (w.heap.size) (by rfl) _ _ _ _ bx' Tryz.underlying32 rfl (by kernel_rfl) ?_)
        refine (l10Copy_any x _ hx1 hxl).mono ?_
        rintro e u2 ⟨y, rfl, hb2, oy, ky⟩
        have hown2 := owns_kept9 B1.1 hb2
        have hbv := below_app hB1 hb2 hB1.size
        have hvl := hown2.lt
        go_wp2_with (at_builtin; refine wpList_append_own_at _ rfl (.tmp 28) (.tmp 31) 56 rfl w.heap.size 32 i0 (.agg #[.int .i64 0, .int .i64 0, .int .i64 0, .int .i64 0, .int .i64 0, .int .i64 0, .int .i64 0, .int .i64 0, .int .i64 0, .int .i64 0, .int .i64 0, .int .i64 0, .int .i64 0, .int .i64 0, .int .i64 0, .int .i64 0, .int .i64 0, .int .i64 0, .bool false, .slice none 0 0, .int .i64 0, .int .i64 0]) 22 192 Tryz.underlying56 hi hz0 hz1 hz2 rfl (by decide) _ _ _ rfl (hown2.alloc _) ⟨u2.heap.size, 0, none⟩ 1 1 (efC y) rfl rfl (cells_new _ _ _) (fun u hu => efC_one 1 (fun _ => y) u (by simpa [valsE] using hu)) (by unfold maxLen; omega) (by omega) (by have := hbv.size; simp; omega) ?_)
        intro v3 u3 hown4 hgr4 hnil4 hat4
        have B3 := B1.snoc (x := x) (hb2.alloc (by have := hb2.size; omega) (.cells #[.int .i64 y.id, .int .i64 y.si, .int .i64 y.sr, .int .i64 y.cl, .int .i64 y.pt.kd, .int .i64 y.pt.wh, .int .i64 y.pt.sr, .int .i64 y.pt.tr, .int .i64 y.pt.pi, .int .i64 y.pt.le, .int .i64 y.pt.zo, .int .i64 y.gd.kd, .int .i64 y.gd.nn, .int .i64 y.ac.kd, .int .i64 y.ac.nn, .int .i64 y.ac.pi, .int .i64 y.ac.si, .int .i64 y.ac.zo, .bool y.ac.be, .slice y.ac.la y.ac.ln y.ac.lcap, .int .i64 y.un, .int .i64 y.le] 32)) hB1.size (OwnF.grew oy (below_new2'' u2 _)) ky hown4 hgr4 (fun e => by first | exact hnil4 e | exact B1.2.1 (hnil4.1 e).1) (by rw [World.size_alloc]; exact hat4)
        have hB3 : Below w.heap.size w u3 := (hbv.alloc hbv.size _).grown hgr4 (by have := hbv.size; simp; omega) (fun q hq => (hvl q hq).1)
        have hs2_ := bx'.lt
        replace bx' := ((bx'.grew hb2).alloc (.cells #[.int .i64 y.id, .int .i64 y.si, .int .i64 y.sr, .int .i64 y.cl, .int .i64 y.pt.kd, .int .i64 y.pt.wh, .int .i64 y.pt.sr, .int .i64 y.pt.tr, .int .i64 y.pt.pi, .int .i64 y.pt.le, .int .i64 y.pt.zo, .int .i64 y.gd.kd, .int .i64 y.gd.nn, .int .i64 y.ac.kd, .int .i64 y.ac.nn, .int .i64 y.ac.pi, .int .i64 y.ac.si, .int .i64 y.ac.zo, .bool y.ac.be, .slice y.ac.la y.ac.ln y.ac.lcap, .int .i64 y.un, .int .i64 y.le] 32)).grownS hgr4 (fun e0 => bne e0.symm)
        have bne2 : v3.ownBlock ≠ some w.heap.size := by
          rcases hat4 with e0 | e0
          · rw [e0]; exact bne
          · rw [e0]; intro e1; simp only [Option.some.injEq, World.size_alloc] at e1; have := hb2.size; omega
        clear bne
        have bne := bne2
        clear bne2 hs2_ hgr4 hown4 hnil4 hat4 hown2 hvl hbv
        have hokr3 := hok.grew hB3
        clear hB1 hb2 oy ky B1 hx1
        go_wp2_with fail
        refine (l11Copy_build ⟨_, 0, _, b, f⟩ _ ⟨Nat.zero_le _, (by dsimp only; have := hokr3.2.1; dsimp only at this; omega), .inl rfl, fun i hi => absurd hi (Nat.not_lt_zero i)⟩ (Nat.zero_le _)).mono ?_
        rintro e u4 ⟨v5, g5, rfl, hb5, B5⟩
        dsimp only at B5
        obtain ⟨b5, cap5, rfl, ho5⟩ := B5.tb
        have hown2 := owns_kept9 B3.1 hb5
        have hbv := below_app hB3 hb5 hB3.size
        have hvl := hown2.lt
        go_wp2_with (at_builtin; refine wpList_append_own_at _ rfl (.tmp 33) (.tmp 37) 56 rfl w.heap.size 32 i0 (.agg #[.int .i64 0, .int .i64 0, .int .i64 0, .int .i64 0, .int .i64 0, .int .i64 0, .int .i64 0, .int .i64 0, .int .i64 0, .int .i64 0, .int .i64 0, .int .i64 0, .int .i64 0, .int .i64 0, .int .i64 0, .int .i64 0, .int .i64 0, .int .i64 0, .bool false, .slice none 0 0, .int .i64 0, .int .i64 0]) 22 192 Tryz.underlying56 hi hz0 hz1 hz2 rfl (by decide) _ _ _ rfl hown2 ⟨b5, 0, none⟩ 0 cap5 (valsE efC 0 g5) rfl (valsE_len efC_len _ _) (RdE.newsE efC_len ho5.2.2.1.rd) (efC_one _ _) (by unfold maxLen; omega) (by omega) (by have := hbv.size; simp; omega) ?_)
        intro v6 u6 hown4 hgr4 hnil4 hat4
        have B6 := BuildT.cat (m := 0) B3 hb5 hB3.size (fun i hi => ⟨(B5.2.2.1 i hi).1, (B5.2.2.1 i hi).2.2⟩) B5.2.2.2 hown4 hgr4 (fun e => by first | exact hnil4 e | exact B3.2.1 (hnil4.1 e).1 | exact B3.2.1 (hnil4.1 e)) hat4
        have hB6 : Below w.heap.size w u6 := hbv.grown hgr4 (by have := hbv.size; omega) (fun q hq => (hvl q hq).1)
        replace bx' := (bx'.grew hb5).grownS hgr4 (fun e0 => bne e0.symm)
        clear hown4 hgr4 hnil4 hat4 hown2 hvl hbv ho5 B5 hb5 B3 hB3 hokr3 bne hokr2 hB hokr hwr
        have hNN : k + 1 + 0 = k + 1 := by omega
        rw [hNN] at B6
        replace B6 := B6.congr (g' := _) (f' := insF k f x) (fun i hi => rfl) (fun i hi => by
          unfold insF
          by_cases h1 : i < k
          · rw [if_pos (show i < k + 1 by omega), if_pos h1, if_pos h1]
          · by_cases h2 : i = k
            · subst h2; rw [if_pos (show i < i + 1 by omega), if_neg h1, if_neg h1, if_pos rfl]
            · rw [if_neg (show ¬ i < k + 1 by omega), if_neg h1, if_neg h2]; omega)
        replace B6 : ∃ g6, BuildT u6 w.heap.size v6 (k + 1) g6 (insF k f x) := ⟨_, B6⟩
        obtain ⟨g6, B6⟩ := B6
        obtain ⟨b6, cap6, rfl, _⟩ := B6.tb
        have hokA := hok.grew hB6
        have cx : u6.cell? ⟨w.heap.size, 0, none⟩ = some (.int .i64 x.id) := by have := bx'.cell 0; simpa using this
        have hxok := hx
        go_wp2_with fail
        refine (specEffectAt_any ⟨p, k, cap, b, f⟩ x.id _ hokA).mono ?_
        rintro e u7 ⟨rfl, hb7⟩
        dsimp only
        replace B6 := B6.grew hb7
        replace hB6 := below_app hB6 hb7 hB6.size
        have hokB := hok.grew hB6
        clear cx bx' hokA hb7
        have hsrc : ∀ i, i < k + 1 → (insF k f x i).okW w ∧ (insF k f x i).ac.ln ≤ 1048577 := insF_ok hok.2.2.2 ⟨hx, hxl⟩ (by omega)
        by_cases he : eaN f x.id k < 0
        · have he' : ¬ (0 ≤ eaN f x.id k) := by omega
          have HI : inOk k f x = okTb (k + 1) (insF k f x) := by unfold inOk; rw [HK.out]; simp [he]
          generalize eaN f x.id k = E at he he' ⊢
          go_wp2_with fail
          refine (specTableOk_any ⟨some ⟨b6, 0, none⟩, k + 1, cap6, b6, g6⟩ _ (B6.okW hsrc rfl)).mono ?_
          rintro e u8 ⟨rfl, hb8⟩
          dsimp only
          rw [okTb_alike (fun i hi => (B6.2.2.1 i hi).2.2)]
          replace B6 := B6.grew hb8
          replace hB6 := below_app hB6 hb8 hB6.size
          replace hokB := hok.grew hB6
          clear hb8
          cases ho : okTb (k + 1) (insF k f x)
          case false =>
            rw [ho] at HI
            have HN : Hid (inN k f x = k) := by show _ = _; unfold inN; rw [HI]; simp
            have HF : Hid (inF k f x = f) := by show _ = _; unfold inF; rw [HI]; simp
            go_wp2_with fail
            refine (l11Copy_build ⟨p, k, cap, b, f⟩ _ hokB (by dsimp only; omega)).mono ?_
            rintro e u9 ⟨v9, g9, rfl, hb9, B9⟩
            dsimp only at B9
            replace B9 := B9.down hB6.size
            obtain ⟨q, rfl, aq⟩ := B9.ans
            go_wp2
            go_ret2
            rw [HN.out, HF.out, HI]
            exact ⟨q, rfl, below_app hB6 hb9 hB6.size, aq⟩
          case true =>
            rw [ho] at HI
            have HN : Hid (inN k f x = k + 1) := by show _ = _; unfold inN; rw [HI]; simp
            have HF : Hid (inF k f x = insF k f x) := by show _ = _; unfold inF; rw [HI, HK.out]; simp
            obtain ⟨q, hq, aq⟩ := B6.ans
            go_wp2
            go_ret2
            rw [HN.out, HF.out, HI]
            exact ⟨q, by rw [← hq]; rfl, hB6, aq⟩
        · have HI : inOk k f x = false := by unfold inOk; simp [he]
          have he' : 0 ≤ eaN f x.id k := by omega
          generalize eaN f x.id k = E at he he' ⊢
          have HN : Hid (inN k f x = k) := by show _ = _; unfold inN; rw [HI]; simp
          have HF : Hid (inF k f x = f) := by show _ = _; unfold inF; rw [HI]; simp
          go_wp2_with fail
          refine (l11Copy_build ⟨p, k, cap, b, f⟩ _ hokB (by dsimp only; omega)).mono ?_
          rintro e u9 ⟨v9, g9, rfl, hb9, B9⟩
          dsimp only at B9
          replace B9 := B9.down hB6.size
          obtain ⟨q, rfl, aq⟩ := B9.ans
          go_wp2
          go_ret2
          rw [HN.out, HF.out, HI]
          exact ⟨q, rfl, below_app hB6 hb9 hB6.size, aq⟩
end Go.Proofs.YtodfdfncdoliiadGreat
