/-
  Chapter 4: the specification's PutPiece. Own work.
-/
import Derived.Test.YtnlnledijpcjpabPieceOk
import Derived.Test.YtnlnledijpcjpabPiece3
import Derived.Test.YtnlnledijpcjpabBytesA
import Derived.Test.YtnlnledijpcjpabRegs
import Derived.BigQuiet
namespace Go.Proofs.Ytnlnledijpcjpab
open Go.ChangeShapes Go.WideShapes Go.ChangeAt Go.RowKit
set_option maxRecDepth 100000

def bt (b : Bool) : Int := if b then 1 else 0
theorem l4Bit_any (b : Bool) (w : World) : Calls Try.prog 131 #[.bool b] w fun e w' => e = .returned (.int .i64 (bt b)) ∧ w' = w := by
  cases b
  all_goals
    go_enter Try.func131, Try.ntmps131
    go_wp2
    go_ret
    exact ⟨rfl, rfl⟩
/-- a piece's numbers, in the order in which they are written -/
def pcl (p : Pc) : List Int := [p.id, p.ow, p.si, p.zo, p.st, p.po, p.to, p.tr, p.pl, p.mi, p.ma, bt p.de, bt p.be]
/-- the bytes of numbers -/
def encM (L : List Int) : Nat → Int := fun i => enc (L.getD (i / 4) 0) (i % 4)
theorem encM_step (n k : Nat) (f : Nat → Int) (L : List Int) : ∀ i, i < n + 4 * k + 4 → cat (n + 4 * k) (cat n f (encM L)) (enc (L.getD k 0)) i = cat n f (encM L) i := by
  intro i hi
  unfold cat
  by_cases h1 : i < n + 4 * k
  · rw [if_pos h1]
  · rw [if_neg h1, if_neg (by omega)]
    unfold encM
    rw [show (i - n) / 4 = k by omega, show (i - n) % 4 = i - (n + 4 * k) by omega]
def ppN (n : Nat) (p : Pc) : Nat := if okP p = true then n + 52 else n
def ppF (n : Nat) (f : Nat → Int) (p : Pc) : Nat → Int := if okP p = true then cat n f (encM (pcl p)) else f
theorem ppN_le (n : Nat) (p : Pc) : ppN n p ≤ n + 52 := by unfold ppN; split <;> omega

set_option maxHeartbeats 4000000 in
theorem specPutPiece_any (ad : Addr) (b n c : Nat) (f : Nat → Int) (p : Pc) (w : World) (hn : n ≤ 100000000) (h : Rd .u8 w b (some ad) n f) :
    Calls Try.prog 94 #[.slice (some ad) n c, (.agg #[.int .i64 p.id, .int .i64 p.ow, .int .i64 p.si, .int .i64 p.zo, .int .i64 p.st, .int .i64 p.po, .int .i64 p.to, .int .i64 p.tr, .int .i64 p.pl, .int .i64 p.mi, .int .i64 p.ma, .bool p.de, .bool p.be])] w fun e w' => ∃ g cap, e = .returned (.slice (some ⟨g, 0, none⟩) (ppN n p) cap) ∧ Below w.heap.size w w' ∧ Own .u8 w' w.heap.size g (some ⟨g, 0, none⟩) (ppN n p) (ppF n f p) := by
  obtain ⟨i0, hi, hz0, hz1, hz2⟩ := info_parts Try.infoU8
  have hb1 : Below w.heap.size w (w.alloc (.cells #[.int .i64 p.id, .int .i64 p.ow, .int .i64 p.si, .int .i64 p.zo, .int .i64 p.st, .int .i64 p.po, .int .i64 p.to, .int .i64 p.tr, .int .i64 p.pl, .int .i64 p.mi, .int .i64 p.ma, .bool p.de, .bool p.be] 31)) := (Below.refl _ w).alloc (Nat.le_refl _) _
  have hb2 := hb1.alloc hb1.size (.cells #[] 5)
  have hown0 : ((w.alloc (.cells #[.int .i64 p.id, .int .i64 p.ow, .int .i64 p.si, .int .i64 p.zo, .int .i64 p.st, .int .i64 p.po, .int .i64 p.to, .int .i64 p.tr, .int .i64 p.pl, .int .i64 p.mi, .int .i64 p.ma, .bool p.de, .bool p.be] 31)).alloc (.cells #[] 5)).ownsRow w.heap.size 5 1 (.slice (some ⟨w.heap.size + 1, 0, none⟩) 0 0) 0 [] := by
    have h : ((w.alloc (.cells #[.int .i64 p.id, .int .i64 p.ow, .int .i64 p.si, .int .i64 p.zo, .int .i64 p.st, .int .i64 p.po, .int .i64 p.to, .int .i64 p.tr, .int .i64 p.pl, .int .i64 p.mi, .int .i64 p.ma, .bool p.de, .bool p.be] 31)).alloc (.cells #[] 5)).ownsRow w.heap.size 5 1 (.slice (some ⟨(w.alloc (.cells #[.int .i64 p.id, .int .i64 p.ow, .int .i64 p.si, .int .i64 p.zo, .int .i64 p.st, .int .i64 p.po, .int .i64 p.to, .int .i64 p.tr, .int .i64 p.pl, .int .i64 p.mi, .int .i64 p.ma, .bool p.de, .bool p.be] 31)).heap.size, 0, none⟩) 0 0) 0 [] := World.ownsRow_lit _ #[] 0 hb1.size (by decide) rfl
    rw [World.size_alloc] at h
    exact h
  have bx := (box_new w 31 p).alloc (.cells #[] 5)
  have hnews := (h.grew hb2).news
  go_enter Try.func94, Try.ntmps94
  go_wp2_with (at_builtin; refine wpList_append_own _ rfl (.tmp 8) (.tmp 9) 22 rfl w.heap.size 5 i0 (.int .u8 0) 1 1 Try.underlying22 hi hz0 hz1 hz2 rfl (by decide) _ _ _ rfl hown0 ad n c (vals .u8 n f) rfl (by rw [vals_len, Nat.mul_one]) hnews (vals_one _ _ _) (by unfold maxLen; omega) (by omega) hb2.size ?_)
  intro v1 w1 hown1 hgr1 hnil1
  have hB1 : Below w.heap.size w w1 := hb2.grown hgr1 hb2.size (by intro k hk; simp [Value.ownBlock] at hk; omega)
  have bx1 : BoxP w1 w.heap.size 31 p := (hgr1.block w.heap.size bx.lt (by simp [Value.ownBlock])).trans bx
  have hnil : v1 ≠ .slice none 0 0 := hnil1
  obtain ⟨g1, cap1, rfl, ho1⟩ := own_of hown1 hnil
  obtain ⟨k0, k1, k2, k3, k4, k5, k6, k7, k8, k9, k10, k11, k12⟩ := bx1.cells
  clear hown0 hgr1 hnews hown1 hnil1 hnil hb1 hb2 bx h
  go_wp2_with fail
  refine (specPieceOk_any p w1).mono ?_
  rintro e w2 ⟨rfl, hb2⟩
  have hB2 := below_app hB1 hb2 hB1.size
  have bx2 := bx1.grew hb2
  have ho2 := ho1.grew hb2
  clear k0 k1 k2 k3 k4 k5 k6 k7 k8 k9 k10 k11 k12 hB1 bx1 ho1 hb2
  cases hok : okP p with
  | false =>
    have HN : Hid (ppN n p = n ∧ ppF n f p = f) := by constructor <;> simp [ppN, ppF, hok]
    go_wp2
    go_ret
    exact ⟨g1, cap1, by rw [HN.out.1]; rfl, hB2, by rw [HN.out.1, HN.out.2]; exact ho2⟩
  | true =>
    have HN : Hid (ppN n p = n + 52 ∧ ppF n f p = cat n f (encM (pcl p))) := by constructor <;> simp [ppN, ppF, hok]
    obtain ⟨k0, k1, k2, k3, k4, k5, k6, k7, k8, k9, k10, k11, k12⟩ := bx2.cells
    go_wp2_with fail
    refine wp_region_tail_lit 28 (by kernel_rfl) (by kernel_rfl) (by decide) (by intro c d v a w h; cases d <;> exact h) ?_
    simp only [List.take_succ_cons, List.take_zero, List.drop_succ_cons, List.drop_zero]
    repeat (go_big_quiet_step ((go_at_call 131; refine Calls.quiet_of_same (l4Bit_any _ _))))
    refine wpQuiet_nil ?_
    rintro _ ⟨nq, rfl⟩
    have hb3 : Below w2.heap.size w2 ((w2.drewN nq).alloc (.cells ((pcl p).map (Value.int .i64)).toArray 3)) := (below_drewN (Below.refl _ w2) nq).alloc (Nat.le_refl _) _
    have hcl : ∀ k, k < 13 → ((w2.drewN nq).alloc (.cells ((pcl p).map (Value.int .i64)).toArray 3)).cell? ⟨w2.heap.size, k, none⟩ = some (.int .i64 ((pcl p).getD k 0)) := fun k hk => by
      have := cell_of_row _ w2.heap.size k _ 3 (0, 0) (heap_alloc_new (w2.drewN nq) (.cells ((pcl p).map (Value.int .i64)).toArray 3))
      rw [this]
      have hl : k < (pcl p).length := hk
      simp [hl]
    have hsz3 := hb3.size
    have ho3 := ho2.grew hb3
    have hB3 := below_app hB2 hb3 hB2.size
    have hl3 : w2.heap.size < ((w2.drewN nq).alloc (.cells ((pcl p).map (Value.int .i64)).toArray 3)).heap.size := by simp
    obtain ⟨W3, hW3⟩ : ∃ W3, (w2.drewN nq).alloc (.cells ((pcl p).map (Value.int .i64)).toArray 3) = W3 := ⟨_, rfl⟩
    have hW3' : Hid ((w2.drewN nq).alloc (.cells #[.int .i64 p.id, .int .i64 p.ow, .int .i64 p.si, .int .i64 p.zo, .int .i64 p.st, .int .i64 p.po, .int .i64 p.to, .int .i64 p.tr, .int .i64 p.pl, .int .i64 p.mi, .int .i64 p.ma, .int .i64 (bt p.de), .int .i64 (bt p.be)] 3) = W3) := hW3
    rw [hW3] at hcl ho3 hB3 hl3 hb3 hsz3
    clear k0 k1 k2 k3 k4 k5 k6 k7 k8 k9 k10 k11 k12 ho2 bx2 hW3
    go_wp2
    go_loopw [5, 7] (fun v i wr => ∃ k g cap : Nat, k ≤ 13 ∧ i = .int .i64 k ∧ v = .slice (some ⟨g, 0, none⟩) (n + 4 * k) cap ∧ Own .u8 wr w.heap.size g (some ⟨g, 0, none⟩) (n + 4 * k) (cat n f (encM (pcl p))) ∧ Below W3.heap.size W3 wr) (fun _ i _ => 13 - (intOf i).toNat)
    case atStart =>
      rw [hW3'.out]
      exact ⟨0, g1, cap1, Nat.zero_le _, rfl, rfl, ho3.congr (fun i hi => by unfold cat; rw [if_pos (by omega)]), Below.refl _ _⟩
    case round =>
      obtain ⟨k, g, cap, hk, rfl, rfl, ho, hb⟩ := hrel
      by_cases hlt : k < 13
      · have e1 : wr.cell? ⟨w2.heap.size, k, none⟩ = some (.int .i64 ((pcl p).getD k 0)) := (hb.cell (p := ⟨w2.heap.size, k, none⟩) hl3).trans (hcl k hlt)
        obtain ⟨x, hx⟩ : ∃ x, (pcl p).getD k 0 = x := ⟨_, rfl⟩
        rw [hx] at e1
        have HS : Hid (∀ i, i < n + 4 * k + 4 → cat (n + 4 * k) (cat n f (encM (pcl p))) (enc x) i = cat n f (encM (pcl p)) i) := by rw [← hx]; exact encM_step n k f (pcl p)
        have hwr := below_app hB3 hb (by have := hB3.size; omega)
        have hwz := hwr.size
        clear hx hcl
        go_wp2_with fail
        refine (specPutNum_any x _ g (n + 4 * k) cap _ wr (by omega) ho.rd).mono ?_
        rintro e w5 ⟨g5, cap5, rfl, hb5, ho5⟩
        have ho6 : Own .u8 w5 w.heap.size g5 (some ⟨g5, 0, none⟩) (n + 4 * (k + 1)) (cat n f (encM (pcl p))) := ⟨by have := ho5.1; omega, ho5.2.1, ho5.2.2.1.congr HS.out, ho5.2.2.2⟩
        have hb6 := below_app hb hb5 hb.size
        clear ho ho5 hb hb5 e1 HS hwr
        go_wp2
        go_roundw
        case rel => first | exact ⟨k + 1, g5, cap5, by omega, by go_num, rfl, ho6, hb6⟩ | ((repeat apply Exists.intro); exact ⟨⟨k + 1, g5, cap5, by omega, by go_num, rfl, ho6, hb6⟩, rfl⟩)
        case measure => simp [intOf]; omega
      · obtain rfl : k = 13 := by omega
        clear hcl
        go_wp2
        go_ret
        exact ⟨g, cap, by rw [HN.out.1]; rfl, below_app hB3 hb (by have := hB3.size; omega), by rw [HN.out.1, HN.out.2]; exact ho⟩
end Go.Proofs.Ytnlnledijpcjpab
