/-
  Chapter 4: the specification's GetPiece. Own work.
-/
import Derived.Test.YtnlnledijpcjpabPiece4
import Derived.Test.YtnlnledijpcjpabBytesA
namespace Go.Proofs.Ytnlnledijpcjpab
open Go.ChangeShapes Go.WideShapes Go.ChangeAt Go.RowKit
set_option maxRecDepth 100000

/-- the numbers from a place on -/
def gnL (n : Nat) (f : Nat → Int) (at' : Int) : Nat → Int := fun j => gnum n f (at' + 4 * (j : Int))
/-- whether thirteen numbers are there -/
def gnOk (n : Nat) (f : Nat → Int) (at' : Int) : Bool := (List.range 13).all (fun j => gok n f (at' + 4 * (j : Int)))
theorem gnOk_no {n : Nat} {f : Nat → Int} {at' : Int} {k : Nat} (hk : k < 13) (h : gok n f (at' + 4 * (k : Int)) = false) : gnOk n f at' = false := by
  unfold gnOk
  rw [List.all_eq_false]
  exact ⟨k, List.mem_range.2 hk, by simp [h]⟩
theorem gnOk_yes {n : Nat} {f : Nat → Int} {at' : Int} (h : ∀ k : Nat, k < 13 → gok n f (at' + 4 * (k : Int)) = true) : gnOk n f at' = true := by
  unfold gnOk
  rw [List.all_eq_true]
  exact fun k hk => h k (List.mem_range.1 hk)
def NumsPost (n : Nat) (f : Nat → Int) (at' : Int) (w : World) (e : Ending) (w' : World) : Prop :=
  Below w.heap.size w w' ∧ ((gnOk n f at' = true ∧ ∃ q cap, e = .returned (.tuple #[.slice (some ⟨q, 0, none⟩) 13 cap, .int .i64 (at' + 52), .bool true]) ∧ Own .i64 w' w.heap.size q (some ⟨q, 0, none⟩) 13 (gnL n f at')) ∨
    (gnOk n f at' = false ∧ ∃ q N cap, e = .returned (.tuple #[.slice (some ⟨q, 0, none⟩) N cap, .int .i64 0, .bool false])))
theorem row_grew' {W W' : World} {base : Nat} {e : TypeId} {v : Value} {n : Nat} {xs : List Value} (h : W.ownsRow base e 1 v n xs) (hb : Below W.heap.size W W') : W'.ownsRow base e 1 v n xs := by
  refine ⟨h.1, ?_⟩
  rcases h.2 with h' | ⟨g, cap, cur, rfl, h1, h2, h3⟩
  · exact .inl h'
  · exact .inr ⟨g, cap, cur, rfl, h1, (hb.block g (Array.getElem?_eq_some_iff.1 h2).1).trans h2, h3⟩
theorem gok_rng' {n : Nat} {f : Nat → Int} {at' : Int} (h : gok n f at' = true) : 0 ≤ at' ∧ at' ≤ (n : Int) - 4 := by
  unfold gok at h
  rw [Bool.and_eq_true, decide_eq_true_eq] at h
  exact h.1
set_option maxHeartbeats 2000000 in
theorem l4Nums_any (a : Option Addr) (b n c : Nat) (at' : Int) (f : Nat → Int) (w : World) (hn : n ≤ 100000000) (hu : U8 n f) (h : Rd .u8 w b a n f) :
    Calls Try.prog 95 #[.slice a n c, .int .i64 at', .int .i64 13] w fun e w' => NumsPost n f at' w e w' := by
  obtain ⟨i0, hi, hz0, hz1, hz2⟩ := info_parts Try.infoInt
  go_enter Try.func95, Try.ntmps95
  go_wp2
  go_loopw [9, 10, 11] (fun v x i wr => ∃ k : Nat, k ≤ 13 ∧ i = .int .i64 k ∧ x = .int .i64 (at' + 4 * (k : Int)) ∧ wr.ownsRow w.heap.size 3 1 v k (vals .i64 k (gnL n f at')) ∧ v ≠ .slice none 0 0 ∧ Below w.heap.size w wr ∧ Hid (∀ j, j < k → gok n f (at' + 4 * (j : Int)) = true)) (fun _ _ i _ => 13 - (intOf i).toNat)
  case atStart => exact ⟨0, Nat.zero_le _, rfl, by simp, World.ownsRow_lit w #[] 0 (Nat.le_refl _) (by decide) rfl, by simp, (Below.refl _ _).alloc (Nat.le_refl _) _, fun j hj => by omega⟩
  case round =>
    obtain ⟨k, hk, rfl, rfl, hown, hnil, hb, hall⟩ := hrel
    by_cases hlt : k < 13
    · obtain ⟨y, hy⟩ : ∃ y, at' + 4 * (k : Int) = y := ⟨_, rfl⟩
      rw [hy]
      cases hg : gok n f y with
      | false =>
        have HN : Hid (gnOk n f at' = false) := gnOk_no hlt (by rw [hy]; exact hg)
        go_wp2_with fail
        refine (specGetNum_any a b n c y f _ (by omega) hu (h.grew hb)).mono ?_
        rintro e w1 ⟨rfl, hb1⟩
        rw [hg]
        obtain ⟨q, cap, rfl, ho⟩ := own_of hown hnil
        clear hall hown hnil
        go_wp2
        go_ret3
        exact ⟨below_app hb hb1 hb.size, .inr ⟨HN.out, q, k, cap, rfl⟩⟩
      | true =>
        have hrg := gok_rng' hg
        have hnx := gnext_ok' hg
        have HA : Hid (∀ j, j < k + 1 → gok n f (at' + 4 * (j : Int)) = true) := fun j hj => by
          by_cases e : j = k
          · subst e; rw [hy]; exact hg
          · exact hall j (by omega)
        have HV : Hid (vals .i64 (k + 1) (gnL n f at') = vals .i64 k (gnL n f at') ++ [.int .i64 (gnum n f y)]) := show _ = _ by rw [vals_one_snoc']; unfold gnL; rw [hy]
        have HY : Hid (y + 4 = at' + 4 * ((k + 1 : Nat) : Int)) := show _ = _ by rw [← hy]; push_cast; omega
        clear hall hy
        go_wp2_with fail
        refine (specGetNum_any a b n c y f _ (by omega) hu (h.grew hb)).mono ?_
        rintro e w1 ⟨rfl, hb1⟩
        rw [hg, hnx]
        have hb2 := below_app hb hb1 hb.size
        have hown1 : w1.ownsRow w.heap.size 3 1 _ k (vals .i64 k (gnL n f at')) := row_grew' hown hb1
        clear hg hnx hown hb hb1
        go_wp2_with (at_builtin; refine wpList_append_own _ rfl (.tmp 32) (.tmp 34) 24 rfl w.heap.size 3 i0 (.int .i64 0) 1 8 Try.underlying24 hi hz0 hz1 hz2 rfl (by decide) _ _ _ rfl (hown1.alloc _) ⟨w1.heap.size, 0, none⟩ 1 1 [_] rfl rfl (cells_new _ [_] _) (by intro u hu; simp at hu; subst hu; rfl) (by unfold maxLen; omega) (by omega) (by have := hb2.size; simp; omega) ?_)
        intro v4 w4 hown4 hgr4 hnil4
        have hb4 : Below w.heap.size w w4 := (hb2.alloc hb2.size _).grown hgr4 (by have := hb2.size; simp; omega) (fun k hk => (hown1.lt k hk).1)
        have hown5 : w4.ownsRow w.heap.size 3 1 v4 (k + 1) (vals .i64 (k + 1) (gnL n f at')) := by rw [HV.out]; exact hown4
        have hnil5 : v4 ≠ .slice none 0 0 := hnil4
        clear hown4 hgr4 hnil4 hown1 hnil hb2 HV
        go_wp2
        go_roundw
        case rel => first | exact ⟨k + 1, by omega, by go_num, by rw [HY.out], hown5, hnil5, hb4, HA⟩ | ((repeat apply Exists.intro); exact ⟨⟨k + 1, by omega, by go_num, by rw [HY.out], hown5, hnil5, hb4, HA⟩, rfl⟩)
        case measure => simp [intOf]; omega
    · obtain rfl : k = 13 := by omega
      have HN : Hid (gnOk n f at' = true) := gnOk_yes hall.out
      obtain ⟨q, cap, rfl, ho⟩ := own_of hown hnil
      clear hall hown hnil
      go_wp2
      go_ret3
      exact ⟨hb, .inl ⟨HN.out, q, cap, rfl, ho⟩⟩
/-- the piece that the numbers would be -/
def rawP (n : Nat) (f : Nat → Int) (at' : Int) : Pc := ⟨gnL n f at' 0, gnL n f at' 1, gnL n f at' 2, gnL n f at' 3, gnL n f at' 4, gnL n f at' 5, gnL n f at' 6, gnL n f at' 7, gnL n f at' 8, gnL n f at' 9, gnL n f at' 10, gnL n f at' 11 == 1, gnL n f at' 12 == 1⟩
def zeroP : Pc := ⟨0, 0, 0, 0, 0, 0, 0, 0, 0, 0, 0, false, false⟩
def gpOk (n : Nat) (f : Nat → Int) (at' : Int) : Bool := gnOk n f at' && ib (gnL n f at' 11) 0 1 && ib (gnL n f at' 12) 0 1 && okP (rawP n f at')
def gpP (n : Nat) (f : Nat → Int) (at' : Int) : Pc := if gpOk n f at' = true then rawP n f at' else zeroP
def gpX (n : Nat) (f : Nat → Int) (at' : Int) : Int := if gpOk n f at' = true then at' + 52 else 0
theorem results_row2 {P : Program} {fn : Func} {p u v : Tmp} {ty : TypeId} (h : fn.results = #[.cell p ty, .tmp u, .tmp v]) (tmps : Array Value) (w : World) (g : Nat) (t : TypeId) (cs : Array Value) (fr : Nat × Nat) (d : TypeDesc)
    (hp : tmps.getD p undef = .pointer (some ⟨g, 0, none⟩)) (hg : w.heap[g]? = some (.cells cs t fr))
    (hu : P.underlying ty = some d) (hd : (match d with | .struct _ | .array _ _ => true | _ => false) = true) (hi : (P.info? ty).map (·.size) = some cs.size) :
    (results fn tmps).run P w = .ok (.tuple #[.agg cs, tmps.getD u undef, tmps.getD v undef]) w := by
  have hp' : tmps[p]?.getD undef = .pointer (some ⟨g, 0, none⟩) := by simpa using hp
  simp [results, h, hp', asAddr, run_loadVar_row w g t ty cs fr d hg hu hd hi]
theorem gp_bad {n : Nat} {f : Nat → Int} {at' : Int} (h : gpOk n f at' = false) : Ending.returned (.tuple #[(.agg #[.int .i64 zeroP.id, .int .i64 zeroP.ow, .int .i64 zeroP.si, .int .i64 zeroP.zo, .int .i64 zeroP.st, .int .i64 zeroP.po, .int .i64 zeroP.to, .int .i64 zeroP.tr, .int .i64 zeroP.pl, .int .i64 zeroP.mi, .int .i64 zeroP.ma, .bool zeroP.de, .bool zeroP.be]), .int .i64 0, .bool false]) = .returned (.tuple #[(.agg #[.int .i64 (gpP n f at').id, .int .i64 (gpP n f at').ow, .int .i64 (gpP n f at').si, .int .i64 (gpP n f at').zo, .int .i64 (gpP n f at').st, .int .i64 (gpP n f at').po, .int .i64 (gpP n f at').to, .int .i64 (gpP n f at').tr, .int .i64 (gpP n f at').pl, .int .i64 (gpP n f at').mi, .int .i64 (gpP n f at').ma, .bool (gpP n f at').de, .bool (gpP n f at').be]), .int .i64 (gpX n f at'), .bool (gpOk n f at')]) := by
  unfold gpP gpX
  rw [h]
  rfl
theorem gp_good {n : Nat} {f : Nat → Int} {at' : Int} (h : gpOk n f at' = true) : Ending.returned (.tuple #[(.agg #[.int .i64 (rawP n f at').id, .int .i64 (rawP n f at').ow, .int .i64 (rawP n f at').si, .int .i64 (rawP n f at').zo, .int .i64 (rawP n f at').st, .int .i64 (rawP n f at').po, .int .i64 (rawP n f at').to, .int .i64 (rawP n f at').tr, .int .i64 (rawP n f at').pl, .int .i64 (rawP n f at').mi, .int .i64 (rawP n f at').ma, .bool (rawP n f at').de, .bool (rawP n f at').be]), .int .i64 (at' + 52), .bool true]) = .returned (.tuple #[(.agg #[.int .i64 (gpP n f at').id, .int .i64 (gpP n f at').ow, .int .i64 (gpP n f at').si, .int .i64 (gpP n f at').zo, .int .i64 (gpP n f at').st, .int .i64 (gpP n f at').po, .int .i64 (gpP n f at').to, .int .i64 (gpP n f at').tr, .int .i64 (gpP n f at').pl, .int .i64 (gpP n f at').mi, .int .i64 (gpP n f at').ma, .bool (gpP n f at').de, .bool (gpP n f at').be]), .int .i64 (gpX n f at'), .bool (gpOk n f at')]) := by
  unfold gpP gpX
  rw [h]
  rfl
end Go.Proofs.Ytnlnledijpcjpab
