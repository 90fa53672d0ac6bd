/-
  Chapter 5's SetPiece at states that are like another one. Own work.
-/
import Derived.Test.YtpdoefcdajcloaoStLaw
import Derived.Test.YtpdoefcdajcloaoStSetI
namespace Go.Proofs.Ytpdoefcdajcloao
open Go.ChangeShapes Go.WideShapes Go.ChangeAt Go.RowKit
set_option maxRecDepth 100000
set_option linter.unusedVariables false
theorem OwnT.set1 {z : World} {B b : Nat} {t : Stt} (h : OwnT z B t) (a : Away b t) (j : Nat) (v : Value) : OwnT (z.setCell ⟨b, j, none⟩ v) B t :=
  ⟨h.p.same (fun hn => Below.heap_setCell z _ v _ (a.1 hn).symm) (by simp [World.setCell]), h.s.same (fun hn => Below.heap_setCell z _ v _ (a.2 hn).symm) (by simp [World.setCell]), h.ne, h.pc, h.pm, h.sc, h.sm⟩
section
variable {t s : Stt} {w w0 : World} {B : Nat}
theorem toState_ansF (s : Stt) (w : World) (hok : s.ok w) (hn : s.pn ≤ 1048576) (hn2 : s.sn ≤ 1048576) : Calls Try.prog 11 #[(.agg #[.slice s.pa s.pn s.pcap, .slice s.sa s.sn s.scap, .int .i64 s.ac, .int .i64 s.cl])] w fun e w' => AnsF s w e w' := by
  refine (toState_any s w hok hn hn2).mono ?_
  rintro e w' ⟨p, q, rfl, hb, h1, h2, hne⟩
  have m : ∀ n : Nat, n ≤ 1048576 → n ≤ maxLen := fun n h => by unfold maxLen; omega
  exact ⟨⟨some ⟨p, 0, none⟩, s.pn, s.pn, p, s.ps, some ⟨q, 0, none⟩, s.sn, s.sn, q, s.ss, s.ac, s.cl⟩, rfl, hb, ⟨.inr h1, .inr h2, fun _ _ => hne, Nat.le_refl _, m _ hn, Nat.le_refl _, m _ hn2⟩, ⟨rfl, rfl, rfl, rfl, rfl, rfl⟩, ⟨rfl, rfl⟩⟩
theorem alike_spN (a : Alike t s) (p : Pc) : spN t p = spN s p := by unfold spN; rw [a.pn, a.ps]
theorem alike_spF (a : Alike t s) (p : Pc) : spF t p = spF s p := by unfold spF; rw [a.pn, a.ps]
theorem alike_spS {r : Stt} (a : Alike t s) (p : Pc) (h : Alike r (spS t p)) : Alike r (spS s p) :=
  ⟨h.pn.trans (alike_spN a p), h.ps.trans (alike_spF a p), h.sn.trans a.sn, h.ss.trans a.ss, h.ac.trans a.ac, h.cl.trans a.cl⟩
theorem spN_le (s : Stt) (p : Pc) : spN s p ≤ s.pn + 1 := by unfold spN; split <;> omega
theorem specSetPiece_al (p : Pc) (h : OwnT w B t) (a : Alike t s) (f : Full t) (hs : s.ok w0) (hn : s.pn ≤ 1048576) (hn2 : s.sn ≤ 1048576) : Calls Try.prog 22 #[(.agg #[.slice t.pa t.pn t.pcap, .slice t.sa t.sn t.scap, .int .i64 t.ac, .int .i64 t.cl]), (.agg #[.int .i64 p.id, .int .i64 p.ow, .int .i64 p.si, .int .i64 p.zo, .int .i64 p.st, .int .i64 p.po, .int .i64 p.to, .int .i64 p.tr, .int .i64 p.pl, .int .i64 p.mi, .int .i64 p.ma, .bool p.de, .bool p.be])] w fun e w' => Ans (spS s p) w e w' :=
  (specSetPiece_any t p w (okT h a hs) f (by rw [a.pn]; omega) (by rw [a.sn]; omega)).mono fun e w' ⟨r, h1, h2, h3, h4, _⟩ => ⟨r, h1, h2, h3, alike_spS a p h4⟩
theorem implSetPiece_al (p : Pc) (h : OwnT w B t) (a : Alike t s) (f : Full t) (hs : s.ok w0) (hn : s.pn ≤ 1048576) (hn2 : s.sn ≤ 1048576) : Calls Try.prog 24 #[(.agg #[.slice t.pa t.pn t.pcap, .slice t.sa t.sn t.scap, .int .i64 t.ac, .int .i64 t.cl]), (.agg #[.int .i64 p.id, .int .i64 p.ow, .int .i64 p.si, .int .i64 p.zo, .int .i64 p.st, .int .i64 p.po, .int .i64 p.to, .int .i64 p.tr, .int .i64 p.pl, .int .i64 p.mi, .int .i64 p.ma, .bool p.de, .bool p.be])] w fun e w' => Ans (spS s p) w e w' :=
  (implSetPiece_any t p w (okT h a hs) f (by rw [a.pn]; omega) (by rw [a.sn]; omega)).mono fun e w' ⟨r, h1, h2, h3, h4, _⟩ => ⟨r, h1, h2, h3, alike_spS a p h4⟩
end
end Go.Proofs.Ytpdoefcdajcloao
