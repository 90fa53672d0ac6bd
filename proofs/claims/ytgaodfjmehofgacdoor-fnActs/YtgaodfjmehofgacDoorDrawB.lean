/-
  Contracts of the draws of bytes (l1Bytes) and of 'same', which holds two slices of bytes against each other. Own work.
-/
import Derived.Test.YtgaodfjmehofgacDoorCurs
import Derived.Test.YtgaodfjmehofgacDoorBytesA
import Derived.Laws.BytesArg
namespace Go.Proofs.YtgaodfjmehofgacDoor
open Go.ChangeShapes Go.WideShapes Go.ChangeAt Go.RowKit
set_option maxRecDepth 100000

def strOf (n : Nat) (f : Nat → Int) : ByteArray := strOfNums ((List.range n).map f)
theorem vals_map (n : Nat) (f : Nat → Int) : vals .u8 n f = ((List.range n).map f).map (Value.int .u8) := by
  unfold vals; rw [List.map_map]; rfl
theorem conv_str (w : World) (src dst e : TypeId) (hs : Tryd.prog.underlying src = some (.slice e)) (he : Tryd.prog.underlying e = some (.int .u8)) (hd : Tryd.prog.underlying dst = some .string) (b : Nat) (ad : Addr) (n c : Nat) (f : Nat → Int) (h : Rd .u8 w b (some ad) n f) :
    (convert src dst (.slice (some ad) n c)).run Tryd.prog w = .ok (.string (strOf n f)) w := by
  have hl : (loadCells ad n).run Tryd.prog w = .ok (((List.range n).map f).map (Value.int .u8)).toArray w := by
    have := run_loadCells_list (P := Tryd.prog) w ad (vals .u8 n f) h.news
    rw [vals_len, vals_map] at this
    exact this
  rw [run_convert_bytes_string w src dst e _ n c hs he hd, run_bytesToString w _ n c _ hl, foldl_push_bytes]
  simp [strOf, strOfNums, ByteArray.empty, ByteArray.emptyWithCapacity]
  rfl
theorem Rd.first {k : IntKind} {w : World} {b : Nat} {a : Option Addr} {n m : Nat} {f : Nat → Int} (h : Rd k w b a n f) (hm : m ≤ n) : Rd k w b a m f := by
  rcases h with h | ⟨off, ha, hc⟩
  · exact .inl (by omega)
  · exact .inr ⟨off, ha, fun i hi => hc i (by omega)⟩
theorem Rd.off {k : IntKind} {w : World} {b off : Nat} {n i m : Nat} {f : Nat → Int} (h : Rd k w b (some ⟨b, off, none⟩) n f) (hm : i + m ≤ n) : Rd k w b (some ⟨b, off + i, none⟩) m (fun j => f (i + j)) := by
  by_cases h0 : m = 0
  · exact .inl h0
  rcases h with h | ⟨off', ha, hc⟩
  · omega
  · simp only [Option.some.injEq, Addr.mk.injEq, and_true, true_and] at ha
    subst ha
    exact .inr ⟨off + i, rfl, fun j hj => by rw [Nat.add_assoc]; exact hc (i + j) (by omega)⟩
theorem Only.grown {p : Nat} {a w w' : World} {row : Option Nat} (h : Only p a w) (hg : w.grownBy w' row) (hr : ∀ k, row = some k → a.heap.size ≤ k) : Only p a w' :=
  ⟨hg.os.trans h.os, hg.tape.trans h.tape, hg.output.trans h.output, Nat.le_trans h.size hg.size, fun k hk hp => (hg.block k (Nat.lt_of_lt_of_le hk h.size) (fun e => by have := hr k e.symm; omega)).trans (h.block k hk hp)⟩
theorem owns_only {w w' : World} {p B : Nat} {e : TypeId} {v : Value} {n : Nat} {xs : List Value} (h : w.ownsRow B e 1 v n xs) (ho : Only p w w') (hp : p < B) : w'.ownsRow B e 1 v n xs :=
  h.kept (row := some p) ⟨ho.os, ho.tape, ho.output, ho.size, fun k hk hne => ho.block k hk (fun e => hne (by rw [e]))⟩ (by
    cases hv : v.ownBlock with
    | none => exact .inl rfl
    | some k => have := (h.lt k hv).1; exact .inr (by simp; omega))
theorem Only.kept {p : Nat} {w w' : World} (h : Below w.heap.size w w') : Only p w w' := ⟨h.os, h.tape, h.output, h.size, fun k hk _ => h.block k hk⟩
theorem Cur.same {w w' : World} {p : Nat} {a : Option Addr} {len cap : Nat} (hcur : Cur w p a len cap) (e : w'.heap[p]? = w.heap[p]?) (hs : w.heap.size ≤ w'.heap.size) : Cur w' p a len cap := by
  obtain ⟨hp, c0, ⟨i, hi, c1⟩, ⟨x, c2⟩, hfz⟩ := hcur
  exact ⟨Nat.lt_of_lt_of_le hp hs, (World.cell?_of_block (w := w) (a := ⟨p, 0, none⟩) e).trans c0, ⟨i, hi, (World.cell?_of_block (w := w) (a := ⟨p, 1, none⟩) e).trans c1⟩, ⟨x, (World.cell?_of_block (w := w) (a := ⟨p, 2, none⟩) e).trans c2⟩, fun j => (World.frozen?_of_block (w := w) (a := ⟨p, j, none⟩) e).trans (hfz j)⟩

end Go.Proofs.YtgaodfjmehofgacDoor
