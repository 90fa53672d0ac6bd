/-
  Chapter 5: the draw l5Any: a state that may be bent. Own work.
-/
import Derived.Test.YtodfdfncdoliiadGDrawT12
import Derived.Deep.RegionLaw
namespace Go.Proofs.Ytodfdfncdoliiad
open Go.ChangeShapes Go.WideShapes Go.ChangeAt Go.RowKit
set_option maxRecDepth 100000
set_option linter.unusedVariables false
set_option linter.unusedSimpArgs false
theorem step_appendE2 {P : Program} {ops : Array Oper} {o : Oper} {a : Act} {w : World} {K : Act → World → Prop} {Q : Exit → Act → World → Prop} {E : Prop} (hgd : o.guard = none) (s x : Operand) (t : TypeId)
    (ho : o.op = .call { callee := .builtin .append, args := #[s, x], argTypes := #[t, t] })
    (base : Nat) (e : TypeId) (i : TypeInfo) (z : Value) (size bytes : Nat) (ht : P.underlying t = some (.slice e)) (hi : P.info? e = some i) (hz : i.zero = some z)
    (hsize : i.size = size) (hby : i.bytes = bytes) (hzs : z.cells.size = size) (hsz : 0 < size)
    (v : Value) (n : Nat) (xs : List Value) (hs : a.eval s = v) (hown : w.ownsRow base e size v n xs)
    (ad : Addr) (m c : Nat) (news : List Value) (hx : a.eval x = .slice (some ad) m c) (hl : news.length = m * size) (hnews : ∀ j u, news[j]? = some u → w.cell? (ad.add j) = some u) (h1 : ∀ u ∈ news, u.oneCell' = true)
    (h63 : n + m ≤ maxLen) (hbytes : (n + m) * bytes ≤ 140737488355328) (hbase : base ≤ w.heap.size)
    (h : ∀ v' w', w'.ownsRow base e size v' (n + m) (xs ++ news) → w.grownBy w' v.ownBlock → (v' = .slice none 0 0 ↔ v = .slice none 0 0 ∧ m = 0) → K (a.put o.dst v') w') : if Region.wanted o (yielded ops a.tmps) = true then Oper.wp P o a w K Q else E := by
  have hw : Region.wanted o (yielded ops a.tmps) = true := by simp [Region.wanted, hgd]
  rw [if_pos hw]
  exact wp_append_own w s x t ho base e i z size bytes ht hi hz hsize hby hzs hsz v n xs hs hown ad m c news hx hl hnews h1 h63 hbytes hbase h
/-- what may be drawn: few pieces, few sides, numbers within an int -/
structure anS (s : Stt) : Prop where
  pn : 1 ≤ s.pn ∧ s.pn ≤ 11
  sn : 1 ≤ s.sn ∧ s.sn ≤ 3
  ac : inI64 s.ac
  cl : inI64 s.cl
  ps : ∀ j, j < s.pn → (s.ps j).wf
  ss : ∀ j, j < s.sn → (s.ss j).wf
theorem okSd_wf {x : Sd} (h : okSd x = true) : x.wf := by
  unfold okSd ib at h
  simp only [Bool.and_eq_true, decide_eq_true_eq] at h
  exact ⟨wf_i64 ⟨by omega, by omega⟩, wf_i64 ⟨by omega, by omega⟩⟩
theorem drS.an {s : Stt} (h : drS s) : anS s := by
  have h1 := h.pn
  have h2 := h.sn
  have h3 := h.ac
  have h4 := h.cl
  refine ⟨by omega, by omega, ⟨by omega, by omega⟩, ⟨by omega, by omega⟩, fun j hj => ?_, fun j hj => okSd_wf (h.ss j (by omega))⟩
  have := h.ps.1 j hj
  exact this.1.wf ⟨by omega, by omega⟩
theorem snoc_all {α : Type} {P : α → Prop} {n : Nat} {f : Nat → α} {x : α} (h : ∀ j, j < n → P (f j)) (hx : P x) : ∀ j, j < n + 1 → P (snoc n f x j) := by
  intro j hj
  unfold snoc
  split
  · exact hx
  · exact h j (by omega)
theorem row_some {w : World} {B e m n cap : Nat} {a : Option Addr} {xs : List Value} (h : w.ownsRow B e m (.slice a n cap) n xs) (hn : n ≠ 0) : ∃ q, a = some ⟨q, 0, none⟩ := by
  rcases h.2 with ⟨_, h'⟩ | ⟨g, c, cur, he, _⟩
  · exact absurd h' hn
  · simp only [Value.slice.injEq, true_and] at he
    exact ⟨g, he.1⟩
theorem row_less {w : World} {B e m n k cap q : Nat} {xs : List Value} (h : w.ownsRow B e m (.slice (some ⟨q, 0, none⟩) n cap) n xs) (hk : k ≤ n) : w.ownsRow B e m (.slice (some ⟨q, 0, none⟩) k cap) k (xs.take (k * m)) := by
  have hm : k * m ≤ n * m := Nat.mul_le_mul_right m hk
  rcases h.2 with ⟨h', _⟩ | ⟨g, c, cur, he, h1, h2, h3, h4, h5, h6⟩
  · simp at h'
  · simp only [Value.slice.injEq, Option.some.injEq, Addr.mk.injEq, and_true, true_and] at he
    obtain ⟨rfl, rfl⟩ := he
    refine ⟨by rw [List.length_take, h.1]; omega, .inr ⟨q, cap, cur, rfl, h1, h2, by omega, h4, h5, ?_⟩⟩
    rw [← h6, List.take_take]
    congr 1
    omega
theorem piece_cells {u : World} {B q c n : Nat} {F : Nat → Pc} (h : u.ownsRow B 78 13 (.slice (some ⟨q, 0, none⟩) n c) n (valsE pcC n F)) (hn : 0 < n) : ∀ j, j < 13 → u.cell? ⟨q, j, none⟩ = (pcC (F 0))[j]? := fun j hj => by
  have e0 := h.cellAt (0 * 13 + j) (by omega)
  rw [valsE_get pcC_len n F 0 j hn hj] at e0
  rwa [Nat.zero_mul, Nat.zero_add] at e0
def putP (x : Pc) (F : Nat → Pc) : Nat → Pc := fun j => if j = 0 then x else F j
theorem row_cells {w : World} {B e m n cap q : Nat} : ∀ (l : List Value) (j : Nat) {xs : List Value}, w.ownsRow B e m (.slice (some ⟨q, 0, none⟩) n cap) n xs → True := fun _ _ _ _ => trivial
theorem putP_set (x : Pc) (F : Nat → Pc) (n : Nat) (hn : 0 < n) : ((((((((((((((valsE pcC n F).set 0 (.int .i64 x.id)).set 1 (.int .i64 x.ow)).set 2 (.int .i64 x.si)).set 3 (.int .i64 x.zo)).set 4 (.int .i64 x.st)).set 5 (.int .i64 x.po)).set 6 (.int .i64 x.to)).set 7 (.int .i64 x.tr)).set 8 (.int .i64 x.pl)).set 9 (.int .i64 x.mi)).set 10 (.int .i64 x.ma)).set 11 (.bool x.de)).set 12 (.bool x.be)) = valsE pcC n (putP x F) := by
  have hl : (valsE pcC n F).length = n * 13 := valsE_len pcC_len _ _
  refine valsE_ext pcC_len (by simp [hl]) (fun i j hi hj => ?_)
  by_cases h0 : i = 0
  · subst h0
    have hp : putP x F 0 = x := rfl
    rw [hp]
    have h13 : j = 0 ∨ j = 1 ∨ j = 2 ∨ j = 3 ∨ j = 4 ∨ j = 5 ∨ j = 6 ∨ j = 7 ∨ j = 8 ∨ j = 9 ∨ j = 10 ∨ j = 11 ∨ j = 12 := by omega
    rcases h13 with rfl | rfl | rfl | rfl | rfl | rfl | rfl | rfl | rfl | rfl | rfl | rfl | rfl <;> simp [List.getElem?_set, hl, pcC] <;> omega
  · have hp : putP x F i = F i := by unfold putP; rw [if_neg h0]
    rw [hp, ← valsE_get pcC_len n F i j hi hj]
    simp only [List.getElem?_set]
    (repeat rw [if_neg (by omega)])
theorem DT.piece0 {w : World} {p : Nat} {a : Option Addr} {len cap r g : Nat} {s : Stt} {u : World} (h : DT w p a len cap r g s u) {q : Nat} (x : Pc) (hs : s.pa = some ⟨q, 0, none⟩) (hn : 0 < s.pn) : DT w p a len cap r g { s with ps := putP x s.ps } (((((((((((((u.setCell ⟨q, 0, none⟩ (.int .i64 x.id)).setCell ⟨q, 1, none⟩ (.int .i64 x.ow)).setCell ⟨q, 2, none⟩ (.int .i64 x.si)).setCell ⟨q, 3, none⟩ (.int .i64 x.zo)).setCell ⟨q, 4, none⟩ (.int .i64 x.st)).setCell ⟨q, 5, none⟩ (.int .i64 x.po)).setCell ⟨q, 6, none⟩ (.int .i64 x.to)).setCell ⟨q, 7, none⟩ (.int .i64 x.tr)).setCell ⟨q, 8, none⟩ (.int .i64 x.pl)).setCell ⟨q, 9, none⟩ (.int .i64 x.mi)).setCell ⟨q, 10, none⟩ (.int .i64 x.ma)).setCell ⟨q, 11, none⟩ (.bool x.de)).setCell ⟨q, 12, none⟩ (.bool x.be)) := by
  have hop := h.rw.op
  rw [hs] at hop
  have hq := hop.lt q rfl
  have n1 : r ≠ q := fun e => own_ne hop h.br (by decide) (by rw [e]; rfl)
  have n2 : g ≠ q := fun e => own_ne hop h.bg (by decide) (by rw [e]; rfl)
  have n3 : some q ≠ (Value.slice s.sa s.sn s.scap).ownBlock := fun e => row_two hop h.rw.os (by decide) rfl e
  have h1 := h.pr
  have key : ∀ (v : World) (xs : List Value) (j : Nat) (y : Value), v.ownsRow w.heap.size 78 13 (.slice (some ⟨q, 0, none⟩) s.pn s.pcap) s.pn xs → (v.setCell ⟨q, j, none⟩ y).ownsRow w.heap.size 78 13 (.slice (some ⟨q, 0, none⟩) s.pn s.pcap) s.pn (xs.set j y) := fun v xs j y hv => (hv.stored j y).1
  have hrow := key _ _ 12 (.bool x.be) (key _ _ 11 (.bool x.de) (key _ _ 10 (.int .i64 x.ma) (key _ _ 9 (.int .i64 x.mi) (key _ _ 8 (.int .i64 x.pl) (key _ _ 7 (.int .i64 x.tr) (key _ _ 6 (.int .i64 x.to) (key _ _ 5 (.int .i64 x.po) (key _ _ 4 (.int .i64 x.st) (key _ _ 3 (.int .i64 x.zo) (key _ _ 2 (.int .i64 x.si) (key _ _ 1 (.int .i64 x.ow) (key _ _ 0 (.int .i64 x.id) (hop)))))))))))))
  rw [putP_set x s.ps s.pn hn] at hrow
  refine ⟨((((((((((((h.only.setCell (.inr hq.1) (.int .i64 x.id)).setCell (.inr hq.1) (.int .i64 x.ow)).setCell (.inr hq.1) (.int .i64 x.si)).setCell (.inr hq.1) (.int .i64 x.zo)).setCell (.inr hq.1) (.int .i64 x.st)).setCell (.inr hq.1) (.int .i64 x.po)).setCell (.inr hq.1) (.int .i64 x.to)).setCell (.inr hq.1) (.int .i64 x.tr)).setCell (.inr hq.1) (.int .i64 x.pl)).setCell (.inr hq.1) (.int .i64 x.mi)).setCell (.inr hq.1) (.int .i64 x.ma)).setCell (.inr hq.1) (.bool x.de)).setCell (.inr hq.1) (.bool x.be), ?_, h.pr, h.hr, h.hg, h.ne, ((((((((((((h.br.other (q := ⟨q, 0, none⟩) n1 _).other (q := ⟨q, 1, none⟩) n1 _).other (q := ⟨q, 2, none⟩) n1 _).other (q := ⟨q, 3, none⟩) n1 _).other (q := ⟨q, 4, none⟩) n1 _).other (q := ⟨q, 5, none⟩) n1 _).other (q := ⟨q, 6, none⟩) n1 _).other (q := ⟨q, 7, none⟩) n1 _).other (q := ⟨q, 8, none⟩) n1 _).other (q := ⟨q, 9, none⟩) n1 _).other (q := ⟨q, 10, none⟩) n1 _).other (q := ⟨q, 11, none⟩) n1 _).other (q := ⟨q, 12, none⟩) n1 _, ((((((((((((h.bg.other (q := ⟨q, 0, none⟩) n2 _).other (q := ⟨q, 1, none⟩) n2 _).other (q := ⟨q, 2, none⟩) n2 _).other (q := ⟨q, 3, none⟩) n2 _).other (q := ⟨q, 4, none⟩) n2 _).other (q := ⟨q, 5, none⟩) n2 _).other (q := ⟨q, 6, none⟩) n2 _).other (q := ⟨q, 7, none⟩) n2 _).other (q := ⟨q, 8, none⟩) n2 _).other (q := ⟨q, 9, none⟩) n2 _).other (q := ⟨q, 10, none⟩) n2 _).other (q := ⟨q, 11, none⟩) n2 _).other (q := ⟨q, 12, none⟩) n2 _, ?_⟩
  · exact h.cur.only ((((((((((((((Only.refl q u).setCell (.inl rfl) (.int .i64 x.id)).setCell (.inl rfl) (.int .i64 x.ow)).setCell (.inl rfl) (.int .i64 x.si)).setCell (.inl rfl) (.int .i64 x.zo)).setCell (.inl rfl) (.int .i64 x.st)).setCell (.inl rfl) (.int .i64 x.po)).setCell (.inl rfl) (.int .i64 x.to)).setCell (.inl rfl) (.int .i64 x.tr)).setCell (.inl rfl) (.int .i64 x.pl)).setCell (.inl rfl) (.int .i64 x.mi)).setCell (.inl rfl) (.int .i64 x.ma)).setCell (.inl rfl) (.bool x.de)).setCell (.inl rfl) (.bool x.be)) (by omega)
  · refine ⟨?_, row_set (row_set (row_set (row_set (row_set (row_set (row_set (row_set (row_set (row_set (row_set (row_set (row_set (h.rw.os) n3 _) n3 _) n3 _) n3 _) n3 _) n3 _) n3 _) n3 _) n3 _) n3 _) n3 _) n3 _) n3 _⟩
    show World.ownsRow _ _ _ _ (.slice s.pa s.pn s.pcap) s.pn (valsE pcC s.pn (putP x s.ps))
    rw [hs]
    exact hrow
end Go.Proofs.Ytodfdfncdoliiad
