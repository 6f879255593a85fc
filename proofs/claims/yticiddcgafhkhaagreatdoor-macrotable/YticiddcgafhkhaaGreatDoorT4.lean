/-
  Package macro: Define of a name that is not there.
-/
import Derived.Test.YticiddcgafhkhaaGreatDoorT3
import Derived.BigRegion
import Derived.Deep.RegionWith
namespace Go.Proofs.YticiddcgafhkhaaGreatDoor
open Go Go.RowKit
set_option linter.unusedVariables false
set_option linter.unusedSimpArgs false

theorem eql67 (mb : Nat) (w : World) : (binOp .eql 51 (.map (some mb)) (.map none)).run Tryz.prog w = .ok (.bool false) w := by kernel_rfl
set_option maxRecDepth 100000 in
set_option maxHeartbeats 8000000 in
theorem Define_new (t mb n : Nat) (D : DataW Value) (m : Mc) (q r : Option Addr) (c k : Nat) (w : World) (hf : McFits m) (hcap : m.ps.length ≤ c ∧ c ≤ maxLen) (hr : rightM m = true) (hn : n < maxLen) (hps : m.ps.length * 16 ≤ 140737488355328) (hbd : m.body.length * 56 ≤ 140737488355328)
    (hT : Tbl w t mb n D) (hhas : Maps.has D (.string m.name) = false) (hat : D.atKey (.string m.name) (.held (.agg zeroM)) = .held (.agg zeroM)) (hsz : Maps.size D < 1000)
    (hp : StG w.heap.size w (.slice q m.ps.length c) m.ps) (ht : TkG w.heap.size w (.slice r m.body.length k) m.body) (hw0 : 1 < w.heap.size) (hsg : Sg w) :
    Calls Tryz.prog 8 #[.pointer (some ⟨t, 0, none⟩), .agg #[.string ⟨m.name.toArray⟩, .bool m.fn, .slice q m.ps.length c, .bool m.more, .slice r m.body.length k]] w fun e w' => ∃ pv' bv', e = .returned (.int .i64 0) ∧
      Tbl w' t mb (n + 1) (D.put (.string m.name) (.held (.agg #[.string ⟨m.name.toArray⟩, .bool m.fn, pv', .bool m.more, bv']))) ∧ w'.ownsRow w.heap.size 9 1 pv' m.ps.length (sCells m.ps) ∧ w'.ownsRow w.heap.size 74 6 bv' m.body.length (gCells m.body) ∧ Below mb w w' ∧ (∀ b, b < w.heap.size → b ≠ mb → w'.heap[b]? = w.heap[b]?) := by
  obtain ⟨name, fn, ps, more, body⟩ := m
  simp only at *
  have hb0 : Below w.heap.size w (w.alloc (.cells #[.string ⟨name.toArray⟩, .bool fn, .slice q ps.length c, .bool more, .slice r body.length k] 33)) := (Below.refl _ w).alloc (Nat.le_refl _) _
  have hz0 : (w.alloc (.cells #[.string ⟨name.toArray⟩, .bool fn, .slice q ps.length c, .bool more, .slice r body.length k] 33)).heap.size = w.heap.size + 1 := by simp
  have hm0 : MBox (w.alloc (.cells #[.string ⟨name.toArray⟩, .bool fn, .slice q ps.length c, .bool more, .slice r body.length k] 33)) w.heap.size (.string ⟨name.toArray⟩) fn (.slice q ps.length c) more (.slice r body.length k) := World.alloc_heap_new w _
  have hR := Right_any (.agg #[.string ⟨name.toArray⟩, .bool fn, .slice q ps.length c, .bool more, .slice r body.length k]) ⟨name, fn, ps, more, body⟩ _ hf ⟨_, _, rfl, (hp.below hb0).mono hb0.size, (ht.below hb0).mono hb0.size, fun p n' c' e => by cases e; exact hcap⟩ (by rw [hz0]; omega) (hsg.below hb0 hw0)
  rw [hr] at hR
  have HR := hide hR
  have HM0 := hide hm0
  have HB0 := hide hb0
  have HP := hide hp
  have HTK := hide ht
  have HTB := hide hT
  have HF := hide hf
  have hlt := hT.lt
  clear hR hm0 hb0 hp ht hT hf hsg hw0
  go_enter Tryz.func8, Tryz.ntmps8
  go_wp2_with fail
  refine (unhide HR).mono ?_
  rintro e W1 ⟨rfl, hb1⟩
  rw [hz0] at hb1
  have hs1 : w.heap.size + 1 ≤ W1.heap.size := hz0 ▸ hb1.size
  have HB1 := hide ((unhide HB0).trans (hb1.mono (by omega)))
  have HM1 := hide ((unhide HM0).below hb1 (by omega))
  have HT1 := hide ((unhide HTB).below (unhide HB1) hlt)
  clear HR HM0 HB0 hb1 hz0 HTB
  obtain ⟨c0, c1, c2, c3, c4⟩ := (unhide HM1).five
  have hce := (unhide HT1).cell
  have hlk := Tbl.look (W := W1.drew) (unhide HT1) ⟨name.toArray⟩ (by have := (unhide HF).name; unfold maxLen; simp at this ⊢; show name.length ≤ _; omega) (by simpa using hat)
  have hba := (Below.refl W1.heap.size W1).alloc (Nat.le_refl _) (.cells #[.string ⟨#[]⟩, .bool false, .slice none 0 0, .bool false, .slice none 0 0] 33)
  have HM2 := hide ((unhide HM1).below hba (unhide HM1).lt)
  have HT2 := hide ((unhide HT1).below hba (unhide HT1).lt)
  obtain ⟨d0, d1, d2, d3, d4⟩ := (unhide HM2).five
  have hde := (unhide HT2).cell
  have hlm := Tbl.look (W := (W1.alloc (.cells #[.string ⟨#[]⟩, .bool false, .slice none 0 0, .bool false, .slice none 0 0] 33)).drew) (unhide HT2) ⟨name.toArray⟩ (by have := (unhide HF).name; unfold maxLen; simp at this ⊢; show name.length ≤ _; omega) (by simpa using hat)
  simp only [hhas, zeroM] at hlk hlm
  clear hba
  go_upto_region 5 with fail
  go_region
  all_goals (
    have HM3 : Hid (MBox (W1.alloc (.cells #[.string ⟨#[]⟩, .bool false, .slice none 0 0, .bool false, .slice none 0 0] 33)).drew w.heap.size (.string ⟨name.toArray⟩) fn (.slice q ps.length c) more (.slice r body.length k)) := unhide HM2
    have HT3 : Hid (Tbl (W1.alloc (.cells #[.string ⟨#[]⟩, .bool false, .slice none 0 0, .bool false, .slice none 0 0] 33)).drew t mb n D) := unhide HT2
    have HB3 : Hid (Below w.heap.size w (W1.alloc (.cells #[.string ⟨#[]⟩, .bool false, .slice none 0 0, .bool false, .slice none 0 0] 33)).drew) := below_drewK ((unhide HB1).alloc (unhide HB1).size _) 1
    clear d0 d1 d2 d3 d4 c0 c1 c2 c3 c4 hde hce hlk hlm HM2 HT2 HM1 HT1 HB1
    generalize (W1.alloc (.cells #[.string ⟨#[]⟩, .bool false, .slice none 0 0, .bool false, .slice none 0 0] 33)).drew = W2 at *
    obtain ⟨c0, c1, c2, c3, c4⟩ := (unhide HM3).five
    have hce := (unhide HT3).cell
    have hlen : ∀ ty, (Builtin.len_ #[51] ty #[.map (some mb)]).run Tryz.prog W2 = .ok (.int .i64 (Maps.size D)) W2 := fun ty => (unhide HT3).2.1.len und67 ty
    have hq := eql67 mb
    have hk1 : ¬ (1000 : Int) ≤ (Maps.size D : Nat) := by omega
    go_upto_region 14 with fail
    have HKY : Hid (keyOf Tryz.prog 9 (.string ⟨name.toArray⟩) = some (.string name)) := WideMaps.keyOf_string_mk und9s (s := ⟨name.toArray⟩) (by have := (unhide HF).name; unfold maxLen; simp at this ⊢; show name.length ≤ _; omega)
    have HC : Hid (Calls Tryz.prog 24 #[.agg #[.string ⟨name.toArray⟩, .bool fn, .slice q ps.length c, .bool more, .slice r body.length k]] W2.drew _) := clone_any ⟨name.toArray⟩ (.slice q ps.length c) (.slice r body.length k) fn more ps body W2.drew hps hbd (((unhide HP).below (below_drewK (unhide HB3) 1)).mono (unhide HB3).size) (((unhide HTK).below (below_drewK (unhide HB3) 1)).mono (unhide HB3).size)
    go_region_with (
      (go_at_call 24
       refine (unhide HC).mono ?_
       rintro e W3 ⟨pv', bv', rfl, ho1, ho2, hb3⟩
       have hlt2 : w.heap.size < W2.heap.size := (unhide HM3).lt
       have hT4 : Tbl W3 t mb n D := Tbl.below (W := W2.drew) (unhide HT3) hb3 (unhide HT3).lt
       have hM4 : MBox W3 w.heap.size (.string ⟨name.toArray⟩) fn (.slice q ps.length c) more (.slice r body.length k) := MBox.below (W := W2.drew) (unhide HM3) hb3 (unhide HM3).lt
       obtain ⟨e0, e1, e2, e3, e4⟩ := hM4.five
       have hce4 := hT4.cell
       obtain ⟨W4, hrun, hown4, hturn⟩ := hT4.2.1.store (Maps.string_keyed und9s) und67 hn (key := .string ⟨name.toArray⟩) (kl := .string name) (val := .agg #[.string ⟨name.toArray⟩, .bool fn, pv', .bool more, bv']) (d := .held (.agg #[.string ⟨name.toArray⟩, .bool fn, pv', .bool more, bv'])) (ps := []) (unhide HKY) rfl
       have HT5 : Hid (Tbl W4 t mb (n + 1) (D.put (.string name) (.held (.agg #[.string ⟨name.toArray⟩, .bool fn, pv', .bool more, bv'])))) := ⟨(hturn.grown.block t hT4.lt (by intro h; cases h; exact absurd hT4.2.2 (Nat.lt_irrefl _))).trans hT4.1, hown4, hT4.2.2⟩
       have hmb : mb < w.heap.size := Nat.lt_trans hT4.2.2 hlt
       have HO1 : Hid (W4.ownsRow W2.heap.size 9 1 pv' ps.length (sCells ps)) := ho1.kept (row := some mb) hturn.grown (Classical.or_iff_not_imp_left.2 (fun _ e => by have h7 : W2.heap.size ≤ mb := (ho1.lt _ e).1; omega))
       have HO2 : Hid (W4.ownsRow W2.heap.size 74 6 bv' body.length (gCells body)) := ho2.kept (row := some mb) hturn.grown (Classical.or_iff_not_imp_left.2 (fun _ e => by have h7 : W2.heap.size ≤ mb := (ho2.lt _ e).1; omega))
       have HB4 : Hid (Below mb w W4) := (((below_drewK (unhide HB3) 1).mono (Nat.le_of_lt hmb)).trans (hb3.mono (by show mb ≤ W2.heap.size; omega))).grown hturn.grown (by have h8 : W2.heap.size ≤ W3.heap.size := hb3.size; omega) (by intro j hj; cases hj; exact Nat.le_refl _)
       have HK4 : Hid (∀ b, b < w.heap.size → b ≠ mb → W4.heap[b]? = w.heap[b]?) := fun b hb hne => (hturn.grown.block b (Nat.lt_of_lt_of_le (Nat.lt_trans hb hlt2) hb3.size) (by intro h; cases h; exact hne rfl)).trans ((hb3.block b (Nat.lt_trans hb hlt2)).trans ((unhide HB3).block b hb))
       clear hb3 ho1 ho2 hM4 hT4 hown4 hturn))
    all_goals (
      go_wp2
      go_ret
      exact ⟨_, _, rfl, unhide HT5, ownsRow_base (unhide HO1) (by omega), ownsRow_base (unhide HO2) (by omega), unhide HB4, unhide HK4⟩))
end Go.Proofs.YticiddcgafhkhaaGreatDoor
