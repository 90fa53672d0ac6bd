/-
  Contracts of the draws of bytes (l1Bytes) and of 'same', which holds two slices of bytes against each other. Own work.
-/
import Derived.Test.YtnlnledijpcjpabCurs
import Derived.Test.YtnlnledijpcjpabBytesA
import Derived.Laws.BytesArg
namespace Go.Proofs.Ytnlnledijpcjpab
open Go.ChangeShapes Go.WideShapes Go.ChangeAt Go.RowKit
set_option maxRecDepth 100000

def strOf (n : Nat) (f : Nat → Int) : ByteArray := strOfNums ((List.range n).map f)
theorem vals_map (n : Nat) (f : Nat → Int) : vals .u8 n f = ((List.range n).map f).map (Value.int .u8) := by
  unfold vals; rw [List.map_map]; rfl
theorem conv_str (w : World) (src dst e : TypeId) (hs : Try.prog.underlying src = some (.slice e)) (he : Try.prog.underlying e = some (.int .u8)) (hd : Try.prog.underlying dst = some .string) (b : Nat) (ad : Addr) (n c : Nat) (f : Nat → Int) (h : Rd .u8 w b (some ad) n f) :
    (convert src dst (.slice (some ad) n c)).run Try.prog w = .ok (.string (strOf n f)) w := by
  have hl : (loadCells ad n).run Try.prog w = .ok (((List.range n).map f).map (Value.int .u8)).toArray w := by
    have := run_loadCells_list (P := Try.prog) w ad (vals .u8 n f) h.news
    rw [vals_len, vals_map] at this
    exact this
  rw [run_convert_bytes_string w src dst e _ n c hs he hd, run_bytesToString w _ n c _ hl, foldl_push_bytes]
  simp [strOf, strOfNums, ByteArray.empty, ByteArray.emptyWithCapacity]
  rfl
set_option maxHeartbeats 400000 in
theorem same_any (ad1 ad2 : Addr) (b1 b2 n c1 c2 : Nat) (f : Nat → Int) (w : World) (h1 : Rd .u8 w b1 (some ad1) n f) (h2 : Rd .u8 w b2 (some ad2) n f) :
    Calls Try.prog 43 #[.slice (some ad1) n c1, .slice (some ad2) n c2] w fun e w' => e = .returned (.bool true) ∧ w' = w := by
  have e1 := conv_str w 22 9 5 Try.underlying22 Try.underlying5 Try.underlying9 b1 ad1 n c1 f h1
  have e2 := conv_str w 22 9 5 Try.underlying22 Try.underlying5 Try.underlying9 b2 ad2 n c2 f h2
  clear h1 h2
  go_enter Try.func43, Try.ntmps43
  go_wp2
  go_ret
  exact ⟨rfl, rfl⟩
theorem Rd.first {k : IntKind} {w : World} {b : Nat} {a : Option Addr} {n m : Nat} {f : Nat → Int} (h : Rd k w b a n f) (hm : m ≤ n) : Rd k w b a m f := by
  rcases h with h | ⟨off, ha, hc⟩
  · exact .inl (by omega)
  · exact .inr ⟨off, ha, fun i hi => hc i (by omega)⟩
theorem Rd.off {k : IntKind} {w : World} {b off : Nat} {n i m : Nat} {f : Nat → Int} (h : Rd k w b (some ⟨b, off, none⟩) n f) (hm : i + m ≤ n) : Rd k w b (some ⟨b, off + i, none⟩) m (fun j => f (i + j)) := by
  by_cases h0 : m = 0
  · exact .inl h0
  rcases h with h | ⟨off', ha, hc⟩
  · omega
  · simp only [Option.some.injEq, Addr.mk.injEq, and_true, true_and] at ha
    subst ha
    exact .inr ⟨off + i, rfl, fun j hj => by rw [Nat.add_assoc]; exact hc (i + j) (by omega)⟩
theorem Only.grown {p : Nat} {a w w' : World} {row : Option Nat} (h : Only p a w) (hg : w.grownBy w' row) (hr : ∀ k, row = some k → a.heap.size ≤ k) : Only p a w' :=
  ⟨hg.os.trans h.os, hg.tape.trans h.tape, hg.output.trans h.output, Nat.le_trans h.size hg.size, fun k hk hp => (hg.block k (Nat.lt_of_lt_of_le hk h.size) (fun e => by have := hr k e.symm; omega)).trans (h.block k hk hp)⟩
theorem owns_only {w w' : World} {p B : Nat} {e : TypeId} {v : Value} {n : Nat} {xs : List Value} (h : w.ownsRow B e 1 v n xs) (ho : Only p w w') (hp : p < B) : w'.ownsRow B e 1 v n xs :=
  h.kept (row := some p) ⟨ho.os, ho.tape, ho.output, ho.size, fun k hk hne => ho.block k hk (fun e => hne (by rw [e]))⟩ (by
    cases hv : v.ownBlock with
    | none => exact .inl rfl
    | some k => have := (h.lt k hv).1; exact .inr (by simp; omega))
theorem Only.kept {p : Nat} {w w' : World} (h : Below w.heap.size w w') : Only p w w' := ⟨h.os, h.tape, h.output, h.size, fun k hk _ => h.block k hk⟩
theorem Cur.same {w w' : World} {p : Nat} {a : Option Addr} {len cap : Nat} (hcur : Cur w p a len cap) (e : w'.heap[p]? = w.heap[p]?) (hs : w.heap.size ≤ w'.heap.size) : Cur w' p a len cap := by
  obtain ⟨hp, c0, ⟨i, hi, c1⟩, ⟨x, c2⟩, hfz⟩ := hcur
  exact ⟨Nat.lt_of_lt_of_le hp hs, (World.cell?_of_block (w := w) (a := ⟨p, 0, none⟩) e).trans c0, ⟨i, hi, (World.cell?_of_block (w := w) (a := ⟨p, 1, none⟩) e).trans c1⟩, ⟨x, (World.cell?_of_block (w := w) (a := ⟨p, 2, none⟩) e).trans c2⟩, fun j => (World.frozen?_of_block (w := w) (a := ⟨p, j, none⟩) e).trans (hfz j)⟩

set_option maxHeartbeats 1000000 in
theorem l1Bytes_any (p : Nat) (a : Option Addr) (len cap n : Nat) (w : World) {B : Nat} (hc : Code w a len B) (hB : B ≤ p) (hcur : Cur w p a len cap) (hn : n ≤ 1000) :
    Calls Try.prog 87 #[.pointer (some ⟨p, 0, none⟩), .int .i64 n] w fun e w' => ∃ q c f, e = .returned (.slice (some ⟨q, 0, none⟩) n c) ∧ n ≤ c ∧ U8 n f ∧ Own .u8 w' w.heap.size q (some ⟨q, 0, none⟩) n f ∧ Only p w w' ∧ Cur w' p a len cap := by
  obtain ⟨i0, hi, hz0, hz1, hz2⟩ := info_parts Try.infoU8
  have ho0 : Only p w (w.alloc (.cells #[] 5)) := (Only.refl _ _).alloc _
  have ho1 : Only w.heap.size w (w.alloc (.cells #[] 5)) := (Only.refl _ _).alloc _
  have hown0 : (w.alloc (.cells #[] 5)).ownsRow w.heap.size 5 1 (.slice (some ⟨w.heap.size, 0, none⟩) 0 0) 0 [] := World.ownsRow_lit w #[] 0 (Nat.le_refl _) (by decide) rfl
  have hcur0 := hcur.only ho1 (Nat.ne_of_lt hcur.1)
  have hp : p < w.heap.size := hcur.1
  clear hcur ho1
  go_enter Try.func87, Try.ntmps87
  go_wp2
  go_loopw [5, 6] (fun v i wr => ∃ k : Nat, ∃ f : Nat → Int, k ≤ n ∧ i = .int .i64 k ∧ U8 k f ∧ wr.ownsRow w.heap.size 5 1 v k (vals .u8 k f) ∧ v ≠ .slice none 0 0 ∧ Only p w wr ∧ Cur wr p a len cap) (fun _ i _ => n - (intOf i).toNat)
  case atStart => exact ⟨0, fun _ => 0, Nat.zero_le _, rfl, fun i hi => by omega, hown0, by simp, ho0, hcur0⟩
  case round =>
    clear hown0 ho0 hcur0
    obtain ⟨k, f, hk, rfl, hu, hown, hnil, ho, hcu⟩ := hrel
    by_cases hlt : k < n
    · have hcc := hc.only ho hB
      go_wp2_with fail
      refine (l1Byte_any p a len cap wr hcc hB hcu).mono ?_
      rintro e w3 ⟨x, hx0, hx1, rfl, ho3, hcu3⟩
      have hoo := ho.trans ho3
      have hown3 := owns_only hown ho3 hp
      have hs3 : w.heap.size ≤ w3.heap.size := hoo.size
      clear hown ho ho3 hcu hcc
      go_wp2_with (at_builtin; refine wpList_append_own _ rfl (.tmp 13) (.tmp 17) 22 rfl w.heap.size 5 i0 (.int .u8 0) 1 1 Try.underlying22 hi hz0 hz1 hz2 rfl (by decide) _ _ _ rfl (hown3.alloc _) ⟨w3.heap.size, 0, none⟩ 1 1 [_] rfl rfl (cells_new _ _ _) (by intro u hu; simp at hu; subst hu; rfl) (by unfold maxLen; omega) (by omega) (by simp; omega) ?_)
      intro v4 w4 hown4 hgr4 hnil4
      have ho4 : Only p w w4 := (hoo.alloc _).grown hgr4 (fun k hk => (hown3.lt k hk).1)
      have hown5 : w4.ownsRow w.heap.size 5 1 v4 (k + 1) (vals .u8 (k + 1) (fun j => if j = k then x else f j)) := by
        rw [vals_one_snoc', vals_congr (g := f) (fun i hi => by rw [if_neg (by omega)]), if_pos rfl]
        exact hown4
      have hu5 : U8 (k + 1) (fun j => if j = k then x else f j) := fun i hi => by
        show 0 ≤ (if i = k then x else f i) ∧ (if i = k then x else f i) ≤ 255
        split
        · exact ⟨hx0, hx1⟩
        · exact hu i (by omega)
      have hcu4 : Cur w4 p a len cap := hcu3.same ((hgr4.block p (by simp; have := hcu3.1; omega) (fun e => by have := (hown3.lt p e.symm).1; omega)).trans (Below.heap_alloc w3 _ p hcu3.1)) (by have := hgr4.size; simp at this; omega)
      have hnil5 : v4 ≠ .slice none 0 0 := hnil4
      clear hown4 hgr4 hown3 hnil4 hnil hcu3 hoo
      go_wp2
      go_roundw
      case rel => first | exact ⟨k + 1, _, by omega, by go_num, hu5, hown5, hnil5, ho4, hcu4⟩ | ((repeat apply Exists.intro); exact ⟨⟨k + 1, _, by omega, by go_num, hu5, hown5, hnil5, ho4, hcu4⟩, rfl⟩)
      case measure => simp [intOf]; omega
    · obtain rfl : k = n := by omega
      obtain ⟨q, cp, rfl, hcp, hoq⟩ := own_of_cap hown hnil
      clear hown hnil
      go_wp2
      go_ret
      exact ⟨q, cp, f, rfl, hcp, hu, hoq, ho, hcu⟩
end Go.Proofs.Ytnlnledijpcjpab
