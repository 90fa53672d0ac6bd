/-
  Contracts of chapter 3's specification: Has, SetOf. Own work.
-/
import Derived.Test.YtdncgoippljlfaaSets
import Derived.Test.YtdncgoippljlfaaRowLaw
import Derived.Deep.RegionLaw
namespace Go.Proofs.Ytdncgoippljlfaa
open Go.ChangeShapes Go.WideShapes Go.ChangeAt Go.RowKit

def hs (n : Nat) (f : Nat → Int) (x : Int) : Bool := (lst n f).contains x
theorem hs_yes {n : Nat} {f : Nat → Int} {x : Int} {i : Nat} (hi : i < n) (h : f i = x) : hs n f x = true := by
  unfold hs
  rw [List.contains_iff_mem]
  exact mem_lst.2 ⟨i, hi, h⟩
theorem hs_no {n : Nat} {f : Nat → Int} {x : Int} (h : ∀ i, i < n → f i ≠ x) : hs n f x = false := by
  cases e : hs n f x with
  | false => rfl
  | true =>
    unfold hs at e
    rw [List.contains_iff_mem] at e
    obtain ⟨i, hi, hx⟩ := mem_lst.1 e
    exact absurd hx (h i hi)
theorem ret_bool {a b : Bool} (h : a = b) : Ending.returned (.bool a) = .returned (.bool b) := by rw [h]
set_option maxHeartbeats 400000 in
theorem specHas_any (a : Option Addr) (b n c : Nat) (x : Int) (f : Nat → Int) (w : World) (hn : n ≤ 9223372036854775807) (h : Rd .i64 w b a n f) :
    Calls Try.prog 67 #[.slice a n c, .int .i64 x] w fun e w' => e = .returned (.bool (hs n f x)) ∧ w' = w := by
  go_enter Try.func67, Try.ntmps67
  go_wp2
  go_loop [5] (fun i => ∃ k : Nat, k ≤ n ∧ i = .int .i64 k ∧ Hid (∀ j, j < k → f j ≠ x)) (fun i => n - (intOf i).toNat)
  case atStart => exact ⟨0, Nat.zero_le _, rfl, fun j hj => by omega⟩
  case round =>
    obtain ⟨k, hk, rfl, hall⟩ := hrel
    by_cases hlt : k < n
    · rcases h with h3 | ⟨o1, rfl, h3⟩
      · omega
      have e1 := h3 k hlt
      clear h3
      by_cases he : f k = x
      · have e2 : (f k == x) = true := by simpa using he
        have HY : Hid (hs n f x = true) := hs_yes hlt he
        clear he
        go_wp2
        go_ret
        exact ⟨ret_bool HY.out.symm, rfl⟩
      · have e2 : (f k == x) = false := by simpa using he
        have hall2 : Hid (∀ j, j < k + 1 → f j ≠ x) := fun j hj => by
          by_cases e : j = k
          · subst e; exact he
          · exact hall j (by omega)
        clear he hall
        go_wp2
        go_round
        case rel => exact ⟨k + 1, by omega, by go_num, hall2⟩
        case measure => simp [intOf]; omega
    · have HN : Hid (hs n f x = false) := hs_no (fun i hi => hall i (by omega))
      clear hall h
      go_wp2
      go_ret
      exact ⟨ret_bool HN.out.symm, rfl⟩
/-- an append as one step of a region that draws its order -/
theorem step_append {P : Program} {ops : Array Oper} {o : Oper} {a : Act} {w : World} {K : Act → World → Prop} {Q : Exit → Act → World → Prop} {E : Prop} (hgd : o.guard = none) (s x : Operand) (t : TypeId)
    (ho : o.op = .call { callee := .builtin .append, args := #[s, x], argTypes := #[t, t] })
    (base : Nat) (e : TypeId) (i : TypeInfo) (z : Value) (bytes : Nat) (ht : P.underlying t = some (.slice e)) (hi : P.info? e = some i) (hz : i.zero = some z)
    (hsize : i.size = 1) (hby : i.bytes = bytes) (hzs : z.cells.size = 1)
    (v : Value) (n : Nat) (xs : List Value) (hs : a.eval s = v) (hown : w.ownsRow base e 1 v n xs)
    (ad : Addr) (m c : Nat) (news : List Value) (hx : a.eval x = .slice (some ad) m c) (hl : news.length = m) (hnews : ∀ j u, news[j]? = some u → w.cell? (ad.add j) = some u) (h1 : ∀ u ∈ news, u.oneCell' = true)
    (h63 : n + m ≤ maxLen) (hbytes : (n + m) * bytes ≤ 140737488355328) (hbase : base ≤ w.heap.size)
    (h : ∀ v' w', w'.ownsRow base e 1 v' (n + m) (xs ++ news) → w.grownBy w' v.ownBlock → (v' = .slice none 0 0 ↔ v = .slice none 0 0 ∧ m = 0) → K (a.put o.dst v') w') : if Region.wanted o (yielded ops a.tmps) = true then Oper.wp P o a w K Q else E := by
  have hw : Region.wanted o (yielded ops a.tmps) = true := by simp [Region.wanted, hgd]
  rw [if_pos hw]
  exact wp_append_own w s x t ho base e i z 1 bytes ht hi hz hsize hby hzs (by decide) v n xs hs hown ad m c news hx (by rw [Nat.mul_one]; exact hl) hnews h1 h63 hbytes hbase h
def stN (n : Nat) (f : Nat → Int) : Nat := (setL (lst n f)).length
def stF (n : Nat) (f : Nat → Int) : Nat → Int := el (setL (lst n f))
theorem stN_le (n : Nat) (f : Nat → Int) : stN n f ≤ n := by
  have := setL_len (lst n f)
  rw [lst_len] at this
  exact this
end Go.Proofs.Ytdncgoippljlfaa
