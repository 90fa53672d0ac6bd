/-
  Contracts of chapter 2's PutList: the specification's. Contracts of chapter 2's PutList: the program's. Own work.
-/
import Derived.Test.YtnlnledijpcjpabBytesA
import Derived.Deep.RegionLaw
namespace Go.Proofs.Ytnlnledijpcjpab
open Go.ChangeShapes Go.WideShapes Go.ChangeAt Go.RowKit
set_option maxRecDepth 100000

/-- a list's bytes: how many, and four bytes of each -/
def encL (m : Nat) (g : Nat → Int) : Nat → Int := fun i => if i = 0 then (m : Int) else enc (g ((i - 1) / 4)) ((i - 1) % 4)
theorem encL_step (n m k : Nat) (f g : Nat → Int) : ∀ i, i < n + 1 + 4 * k + 4 → cat (n + 1 + 4 * k) (cat n f (encL m g)) (enc (g k)) i = cat n f (encL m g) i := by
  intro i hi
  unfold cat
  by_cases h : i < n + 1 + 4 * k
  · rw [if_pos h]
  · rw [if_neg h, if_neg (by omega)]
    unfold encL
    rw [if_neg (by omega), show (i - n - 1) / 4 = k by omega, show (i - n - 1) % 4 = i - (n + 1 + 4 * k) by omega]
theorem encL_head (n m : Nat) (f g : Nat → Int) : ∀ i, i < n + 1 → cat n f (fun _ => (m : Int)) i = cat n f (encL m g) i := by
  intro i hi
  unfold cat
  by_cases h : i < n
  · rw [if_pos h, if_pos h]
  · rw [if_neg h, if_neg h, show i - n = 0 by omega]; rfl
theorem vals1 (k : IntKind) (f : Nat → Int) : vals k 1 f = [.int k (f 0)] := rfl

end Go.Proofs.Ytnlnledijpcjpab
namespace Go.Proofs.Ytnlnledijpcjpab
open Go.ChangeShapes Go.WideShapes Go.ChangeAt Go.RowKit
set_option maxRecDepth 100000

/-- a call of a function of one argument, met by its contract, as one step of a region that draws its order -/
theorem step_call1 {P : Program} {ops : Array Oper} {o : Oper} {a : Act} {w : World} {K : Act → World → Prop} {Q : Exit → Act → World → Prop} {E : Prop} (hgd : o.guard = none) (F : FuncId) (x : Operand) (t : TypeId)
    (ho : o.op = .call { callee := .value (.func F), args := #[x], argTypes := #[t] }) (v : Value) (hx : a.eval x = v) (hcf : (callFunc F #[v]).run P w = .ok (.enter F #[v]) w) {R : Ending → World → Prop} (hc : Calls P F #[v] w R)
    (h : ∀ e w', R e w' → ∃ r, e = .returned r ∧ K (a.put o.dst r) w') : if Region.wanted o (yielded ops a.tmps) = true then Oper.wp P o a w K Q else E := by
  have hw : Region.wanted o (yielded ops a.tmps) = true := by simp [Region.wanted, hgd]
  rw [if_pos hw]
  have hrun : (execOp a.eval o).run P w = .ok (.enter F #[v]) w := by
    have hF : a.eval (.func F) = .func (.func F) #[] #[] := rfl
    simp [execOp, ho, resolve, invoke, hx, hF, Deferred.ofValue, hcf]
  unfold Oper.wp
  rw [hrun, Oper.upon_enter]
  refine hc.mono ?_
  intro e w' hR
  obtain ⟨r, rfl, hk⟩ := h e w' hR
  exact hk
theorem numBytes_in (v : Value) (w : World) : (callFunc 90 #[v]).run Try.prog w = .ok (.enter 90 #[v]) w := by kernel_rfl
theorem row_put {k : IntKind} {w : World} {g : Nat} {t : TypeId} {n : Nat} {f : Nat → Int} (h : w.heap[g]? = some (.cells (vals k n f).toArray t (0, 0))) (j : Nat) (x : Int) (hj : j < n) :
    (w.setCell ⟨g, j, none⟩ (.int k x)).heap[g]? = some (.cells (vals k n (fun i => if i = j then x else f i)).toArray t (0, 0)) := by
  rw [heap_setCell_same w g j _ t _ h]
  congr 2
  apply Array.ext'
  rw [Array.toList_setIfInBounds]
  refine vals_ext (by simp [vals_len]) (fun i hi => ?_)
  show ((vals k n f).set j (.int k x))[i]? = some (.int k (if i = j then x else f i))
  by_cases hij : i = j
  · subst hij; rw [if_pos rfl, List.getElem?_set_self (by rw [vals_len]; exact hi)]
  · rw [if_neg hij, List.getElem?_set_ne (by omega), vals_get, if_pos hi]
theorem encL_put (m k : Nat) (l : Nat → Int) : ∀ i, i < 1 + 4 * m → spl (til (1 + 4 * k) (encL m l) (fun _ => 0)) (1 + 4 * k) 4 (enc (l k)) i = til (1 + 4 * (k + 1)) (encL m l) (fun _ => 0) i := by
  intro i hi
  unfold spl til
  by_cases h : 1 + 4 * k ≤ i ∧ i < 1 + 4 * k + 4
  · rw [if_pos h, if_pos (by omega)]
    unfold encL
    rw [if_neg (by omega), show (i - 1) / 4 = k by omega, show (i - 1) % 4 = i - (1 + 4 * k) by omega]
  · rw [if_neg h]
    by_cases h2 : i < 1 + 4 * k
    · rw [if_pos h2, if_pos (by omega)]
    · rw [if_neg h2, if_neg (by omega)]
theorem encL_first (m : Nat) (l : Nat → Int) : ∀ i, i < 1 + 4 * m → (if i = 0 then (m : Int) else (0 : Int)) = til (1 + 4 * 0) (encL m l) (fun _ => 0) i := by
  intro i _
  unfold til
  by_cases h : i = 0
  · subst h; rw [if_pos rfl, if_pos (by omega)]; rfl
  · rw [if_neg h, if_neg (by omega)]

set_option maxHeartbeats 1000000 in
theorem joined1_any (q : Nat) (a1 : Option Addr) (b1 n1 c1 : Nat) (f1 : Nat → Int) (w : World) (hq : q < w.heap.size) (hs : n1 ≤ 140737488351232)
    (h0 : w.cell? ⟨q, 0, none⟩ = some (.slice a1 n1 c1)) (r1 : Rd .u8 w b1 a1 n1 f1) :
    Calls Try.prog 88 #[.slice (some ⟨q, 0, none⟩) 1 1] w fun e w' => e = .returned (.slice (some ⟨w.heap.size, 0, none⟩) n1 n1) ∧ Below w.heap.size w w' ∧ Own .u8 w' w.heap.size w.heap.size (some ⟨w.heap.size, 0, none⟩) n1 f1 := by
  obtain ⟨i0, hi, hz0, hz1, hz2⟩ := info_parts Try.infoU8
  go_enter Try.func88, Try.ntmps88
  go_wp2
  go_loop [3, 12] (fun t i => (i = .int .i64 0 ∧ t = .int .i64 0) ∨ (i = .int .i64 1 ∧ t = .int .i64 n1)) (fun _ i => 1 - (intOf i).toNat)
  case atStart => exact .inl ⟨rfl, rfl⟩
  case round =>
    rcases hrel with ⟨rfl, rfl⟩ | ⟨rfl, rfl⟩
    · go_wp2
      go_round
      case rel => exact .inr ⟨rfl, by go_num⟩
      case measure => simp [intOf]
    · go_wp2_with (at_make; refine wpList_make_full _ rfl _ _ 22 rfl w.heap.size 5 i0 (.int .u8 0) 1 Try.underlying22 hi hz0 hz1 _ _ _ _ n1 rfl rfl rfl rfl (by rw [hz2]; omega) (by unfold maxLen; omega) (Nat.le_refl _) ?_)
      intro w1 hown hgr
      rw [made_vals] at hown
      have hrow := row_made hown
      have HR : Hid (w1.heap[w.heap.size]? = some (.cells (vals .u8 n1 (fun _ => 0)).toArray 5 (0, 0))) := hrow
      have hb1 : Below w.heap.size w w1 := (Below.refl _ _).grown hgr (Nat.le_refl _) (by simp)
      clear hown hgr hrow
      go_wp2
      go_loopw [7, 25] (fun t i wr => Below w.heap.size w wr ∧ ((i = .int .i64 0 ∧ t = .int .i64 0 ∧ Hid (wr.heap[w.heap.size]? = some (.cells (vals .u8 n1 (fun _ => 0)).toArray 5 (0, 0)))) ∨
        (i = .int .i64 1 ∧ t = .int .i64 n1 ∧ Hid (wr.heap[w.heap.size]? = some (.cells (vals .u8 n1 (spl (fun _ => 0) 0 n1 f1)).toArray 5 (0, 0)))))) (fun _ i _ => 1 - (intOf i).toNat)
      case atStart => exact ⟨hb1, .inl ⟨rfl, rfl, HR⟩⟩
      case round =>
        obtain ⟨hb, hrel⟩ := hrel
        have g0 := (hb.cell (p := ⟨q, 0, none⟩) hq).trans h0
        rcases hrel with ⟨rfl, rfl, hr⟩ | ⟨rfl, rfl, hr⟩
        · have hsrc := (r1.grew hb).src
          go_wp2_with (refine wpList_copy_splice rfl (.tmp 32) (.tmp 33) 22 22 rfl 5 Try.underlying22 sizeU8 _ _ _ _ _ _ rfl rfl w.heap.size 0 (vals .u8 n1 (fun _ => 0)) 5 hr.out (vals .u8 n1 f1) ?_ ?_ ?_ (vals_one _ _ _) w.heap.size w hb (Nat.le_refl _) ?_)
          · rw [vals_len]; exact (Nat.min_self _).symm
          · rw [vals_len]; exact fun h => hsrc h
          · rw [vals_len, vals_len]; omega
          intro w2 hr2 hb2
          rw [vals_spl _ _ _ _ _ _ (by omega)] at hr2
          rw [vals_len]
          clear hsrc hr hb g0 HR hb1
          go_wp2
          go_roundw
          case rel => exact ⟨hb2, .inr ⟨rfl, by go_num, hr2⟩⟩
          case measure => simp [intOf]
        · go_wp2
          go_ret
          exact ⟨rfl, hb, (own_row hr.out (Nat.le_refl _)).congr (fun i hi => by unfold spl; rw [if_pos (by omega), Nat.sub_zero])⟩
/-- how many bytes PutList answers, and which -/
def plN (n m : Nat) : Nat := if m ≤ 255 then n + (1 + 4 * m) else n
def plF (n m : Nat) (f g : Nat → Int) : Nat → Int := if m ≤ 255 then cat n f (encL m g) else f
theorem plN_le (n m : Nat) : plN n m ≤ n + 1021 := by unfold plN; split <;> omega
end Go.Proofs.Ytnlnledijpcjpab
