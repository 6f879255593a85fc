/-
  Package class: classes of what lies in registers.
-/
import Derived.Test.YtaffldhmgifdoaaIc
import Derived.Sort.CutIn
namespace Go.Proofs.Ytaffldhmgifdoaa
open Go Go.RowKit Go.Shelf
attribute [local go_sem] Oper.semAt_some
set_option linter.unusedVariables false
set_option linter.unusedSimpArgs false

theorem KpE.below {Bd : Nat} {A B : World} (h : Below A.heap.size A B) : KpE Bd A B := fun cs b => b.below h
theorem KpE.rowG {Bd base n size : Nat} {e : TypeId} {W W' : World} {v : Value} {xs : List Value} (hr : W.ownsRow base e size v n xs) (hg : W.grownBy W' v.ownBlock) (h1 : 2 ≠ e) : KpE Bd W W' := fun cs b => b.rowG hr hg h1
theorem KeepsOthers.of_below {W W' : World} (h : Below W.heap.size W W') : KeepsOthers W W' := ⟨h.size, fun k o hk _ => (h.block k (Array.getElem?_eq_some_iff.1 hk).1).trans hk⟩
theorem KeepsO.of_below {B k : Nat} {W W' : World} (h : Below W.heap.size W W') : KeepsO B k W W' := ⟨h.size, fun j o _ hk _ => (h.block j (Array.getElem?_eq_some_iff.1 hk).1).trans hk⟩
set_option maxRecDepth 100000 in
set_option maxHeartbeats 20000000 in
theorem classes_low (z : Nat) (l : List Mb) (q : Option Addr) (c : Nat) (w : World) (hz : z ≤ 16) (hl : l.length ≤ 1000000) (hs : SpG w.heap.size w q l) (hn : ∀ m ∈ l, NmOk m) (ha : l.any askM = false) :
    Calls Try.prog 103 #[.int .i64 (z : Int), .slice q l.length c] w (InP w ((List.range (nEi z)).map (eiM l))) := by
  have HX := veil (new1_below w (.cells #[.slice q l.length c] 30))
  have HX0 := veil (Bk.new w 30 #[.slice q l.length c])
  have HC : Hid (∀ W, Below w.heap.size w W → Calls Try.prog 120 #[.slice q l.length c, .func (.func 119) #[] #[]] W fun e w' => e = .returned (.bool false) ∧ Below W.heap.size W w') := fun W h => by
    have := contains_ask askM l q c W hl ((hs.below h).mono h.size) (fun i hi W' _ => askew_any _ (hn _ (List.getElem_mem hi)) W')
    rw [ha] at this
    exact this
  have HH : Hid (∀ (j : Nat) (Fb : Nat) W, j < 3 → Below w.heap.size w W → Bk W Fb 2 #[.int .i64 (8 * (j : Int))] → Calls Try.prog 120 #[.slice q l.length c, .func (.func 122) #[] #[.pointer (some ⟨Fb, 0, none⟩)]] W fun e w' => e = .returned (.bool (l.any (hereM (8 * (j : Int))))) ∧ Below W.heap.size W w') := fun j Fb W hj h hb =>
    contains_her (hereM (8 * (j : Int))) Fb l q c W hl ((hs.below h).mono h.size) (fun i hi W' hW' => here_any _ (hn _ (List.getElem_mem hi)) _ Fb W' (hb.below hW') (by omega) (by omega))
  have HE := veil (eights_any (z : Int))
  have HES := veil (fun Bd => eights_stops 3 (by decide) Bd z (by omega))
  have hzz : ¬ (z : Int) > 16 := by omega
  have HZ := veil hz
  clear hs hn ha hz
  refine (callsIn_wide (n := 4)).1 ?_
  refine callsIn_of_wp_marks Try.func103 rfl trivial ?_ rfl
  simp only [Try.ntmps103, List.size_toArray, List.length_cons, List.length_nil, Nat.reduceAdd, Nat.reduceSub, Array.replicate_succ, Array.replicate_zero, List.push_toArray, List.append_toArray, List.nil_append, List.cons_append]
  refine wpIn_wide.2 ?_
  go_wp2_with (first
    | (go_at_call 120; refine (unveil HC _ (unveil HX)).mono ?_; rintro e w1 ⟨rfl, hw1⟩; have HW := veil ((unveil HX).trans (hw1.mono (unveil HX).size)); have HX1 := veil ((unveil HX0).below hw1); clear hw1)
    | (go_at_call 121; refine (unveil HE _).mono ?_; rintro e w' ⟨rfl, rfl⟩))
  have HB0 : Hid (Bk ((w1.alloc (.cells #[.slice none 0 0] 47)).alloc (.cells #[.int .i64 (z : Int)] 2)) (w1.heap.size + 1) 2 #[.int .i64 (z : Int)]) := by
    have := Bk.new (w1.alloc (.cells #[.slice none 0 0] 47)) 2 #[.int .i64 (z : Int)]
    rw [World.size_alloc] at this
    exact this
  have HI0 : Hid (ClI w w1.heap.size (eiM l) [] ((w1.alloc (.cells #[.slice none 0 0] 47)).alloc (.cells #[.int .i64 (z : Int)] 2))) :=
    ⟨⟨_, (Bk.new w1 _ _).alloc _, World.ownsRow_nil _ _ _ _⟩, ((unveil HW).alloc (unveil HW).size _).alloc (by have := (unveil HW).size; simp; omega) _⟩
  have HNB : Hid (Bk ((w1.alloc (.cells #[.slice none 0 0] 47)).alloc (.cells #[.int .i64 (z : Int)] 2)) w.heap.size 30 #[.slice q l.length c]) := ((unveil HX1).alloc _).alloc _
  have hz2 : ((w1.alloc (.cells #[.slice none 0 0] 47)).alloc (.cells #[.int .i64 (z : Int)] 2)).heap.size = w1.heap.size + 2 := by simp
  have hlw : w.heap.size < w1.heap.size := (unveil HX1).lt
  generalize ((w1.alloc (.cells #[.slice none 0 0] 47)).alloc (.cells #[.int .i64 (z : Int)] 2)) = W0 at *
  generalize w1.heap.size = LB at *
  clear HX HX0 HW HX1 HC HE
  refine (wpIn_wide (n := 4)).1 ?_
  refine wpIn_rangeFunc_ownA (k := 0) rfl (by decide) (gf := 128) (lb := #[.pointer (some ⟨LB + 1, 0, none⟩)]) rfl trivial (enters_of Try.func128 (by kernel_rfl) rfl)
    (unveil HES (LB + 1) W0 (unveil HB0)) KpE.trans (fun W lb o o' hlb hlo ho _ cs hbk => (World.putObj_heap_other (by omega)).trans hbk) (fun W o hW => KpE.below (new1_below W o)) (Below.refl _ _) (fun _ => rfl)
    (fun pre W => ClI w LB (eiM l) pre W ∧ Bk W w.heap.size 30 #[.slice q l.length c]) (fun c _ W => False)
    ((ClI.abides w LB (eiM l) _ _ (by omega) (by omega)).and ⟨fun pre X Y row hs hg hr => hs.turn hg (fun r e => by have := (hr r e).1; omega), fun pre X hs => hs⟩) (fun c => ⟨fun pre X Y row hs hg hr => hs, fun pre X hs => hs⟩)
    ⟨unveil HI0, unveil HNB⟩ (fun x => .cells #[.int .i64 (8 * (x : Int))] 2)
    (fun x B => { tmps := #[.int .i64 (z : Int), .slice q l.length c, undef, .pointer (some ⟨w.heap.size, 0, none⟩), .slice none 0 0, .func (.func 119) #[] #[], .pointer (some ⟨LB, 0, none⟩), undef, .pointer (some ⟨B, 0, none⟩),
      undef, undef, .int .i64 (z : Int), .bool false, .bool false, .slice q l.length c, .func (.func 119) #[] #[], .bool false, .bool false, undef, .int .i64 (z : Int),
      .func (.func 128) #[] #[.pointer (some ⟨LB + 1, 0, none⟩)], .int .i64 (x : Int), .int .i64 (8 * (x : Int)), undef, undef, undef, undef, undef, undef, undef, undef, undef], defers := [] })
    ?assign ?body ?done ?stop
  case assign =>
    intro l' x W' K hK
    simp only [encE] at hK ⊢
    gi_wp2
    simpa using hK
  case body =>
    rintro l' pre x W1 B hB hxB hno ⟨⟨⟨v, c0, hrow⟩, obe⟩, hnb⟩ hpre
    have hx : Bk W1 B 2 #[.int .i64 (8 * (x : Int))] := hxB
    have hlen : pre.length + 1 ≤ 3 ∧ x < 3 := by
      have h1 := hpre.length_le
      have hmem : x ∈ List.range (nEi z) := hpre.subset (by simp)
      have h3 := List.mem_range.1 hmem
      have h4 := unveil HZ
      rw [List.length_range, List.length_append] at h1
      unfold nEi at h1 h3
      simp at h1
      omega
    obtain ⟨hpl, hx3⟩ := hlen
    obtain ⟨qv, cp, rfl⟩ := row_slice hrow
    have k0 := c0.cell 0
    have n0 := hnb.cell 0
    simp only [List.getElem?_toArray, List.getElem?_cons_zero] at k0 n0
    have hLl := c0.lt
    have hNl := hnb.lt
    have hBl := hx.lt
    have HCA := veil (unveil HH x B W1 hx3 obe hx)
    have HR0 := veil hrow
    have HC0 := veil c0
    have HOB := veil obe
    have HXX := veil hx
    have HNB1 := veil hnb
    have HEI : Hid (eiM l x = if l.any (hereM (8 * (x : Int))) then 1 else 0) := rfl
    generalize l.any (hereM (8 * (x : Int))) = A at *
    clear c0 obe hx hxB hno hpre hnb hrow HH
    have KEY : Hid (∀ (W2 : World) (cc : Int), Below W1.heap.size W1 W2 → cc = eiM l x → Bk W2 LB 47 #[.slice qv pre.length cp] ∧ (W2.alloc (.cells #[.int .i64 cc] 3)).ownsRow w.heap.size 3 1 (.slice qv pre.length cp) pre.length (inCs (pre.map (eiM l)))) := fun W2 cc hb _ =>
      ⟨(unveil HC0).below hb, (ownsRow_belowS (unveil HR0) hb).alloc _⟩
    have FIN : Hid (∀ (W2 W5 : World) (cc : Int) g' cap', Below W1.heap.size W1 W2 → cc = eiM l x → (W2.alloc (.cells #[.int .i64 cc] 3)).grownBy W5 (Value.slice qv pre.length cp).ownBlock → W5.ownsRow w.heap.size 3 1 (.slice (some ⟨g', 0, none⟩) (pre.length + 1) cap') (pre.length + 1) (inCs (pre.map (eiM l)) ++ [.int .i64 cc]) →
        (∃ u, W5.cell? ⟨LB, 0, none⟩ = some u) ∧ W5.frozen? ⟨LB, 0, none⟩ = false ∧ LB < W5.heap.size ∧ ∀ (_ _ : True), KeepsFrom W0.heap.size W1 (W5.setCell ⟨LB, 0, none⟩ (.slice (some ⟨g', 0, none⟩) (pre.length + 1) cap')) ∧ KeepsO (W0.heap.size + 2) 0 W1 (W5.setCell ⟨LB, 0, none⟩ (.slice (some ⟨g', 0, none⟩) (pre.length + 1) cap')) ∧ KpE (LB + 1) W1 (W5.setCell ⟨LB, 0, none⟩ (.slice (some ⟨g', 0, none⟩) (pre.length + 1) cap')) ∧
          (ClI w LB (eiM l) (pre ++ [x]) (W5.setCell ⟨LB, 0, none⟩ (.slice (some ⟨g', 0, none⟩) (pre.length + 1) cap')) ∧ Bk (W5.setCell ⟨LB, 0, none⟩ (.slice (some ⟨g', 0, none⟩) (pre.length + 1) cap')) w.heap.size 30 #[.slice q l.length c])) := by
      rintro W2 W5 cc g' cap' hb rfl hg hown
      have hob := unveil HOB
      have hb2 : Below W1.heap.size W1 (W2.alloc (.cells #[.int .i64 (eiM l x)] 3)) := hb.alloc hb.size _
      have hr2 := ownsRow_belowS (unveil HR0) hb2
      have p0 : Bk W5 LB 47 #[.slice qv pre.length cp] := ((unveil HC0).below hb2).rowG hr2 hg (by decide)
      have pn : Bk W5 w.heap.size 30 #[.slice q l.length c] := ((unveil HNB1).below hb2).rowG hr2 hg (by decide)
      have hzw : w.heap.size ≤ W1.heap.size := hob.size
      have pb : Below w.heap.size w W5 := (hob.trans (hb2.mono hzw)).grown hg (Nat.le_trans hzw hb2.size) (fun r e => (row_turnS hr2 r e).1)
      refine ⟨⟨_, p0.cell 0⟩, p0.frozen 0, p0.lt, fun _ _ => ⟨((KeepsOthers.of_below hb2).from _).trans ((KeepsFrom.rowS hr2 hg).trans ((KeepsOthers.setCell _ _ _).from _)), (KeepsO.of_below hb2).trans ((KeepsO.rowS hr2 hg).trans (KeepsO.setCell (.inl (by omega)))), (KpE.below hb2).trans ((KpE.rowG hr2 hg (by decide)).trans (fun cs b => b.other _ _ (by omega))), ⟨⟨_, p0.set 0 _, ?_⟩, pb.setCell (p := ⟨LB, 0, none⟩) (by show w.heap.size ≤ LB; omega) _⟩, pn.other _ _ (by omega)⟩⟩
      have := ownsRow_setS (i := 0) hown p0 (by decide) (.slice (some ⟨g', 0, none⟩) (pre.length + 1) cap')
      rw [List.map_append, List.map_cons, List.map_nil, inCs_snoc]
      simpa using this
    obtain ⟨i0, hi, hz0, hz1, hz2'⟩ := info_parts infoIn
    cases A
    · have hei : Hid ((0 : Int) = eiM l x) := by unfold Hid; rw [unveil HEI]; rfl
      gi_upto_region 11 with (refine ⟨trivial, ?_⟩; gi_at_call 120; refine (callsIn_wide.2 (unveil HCA)).mono ?_; rintro e W2 ⟨rfl, hW2⟩; have HW2 := veil hW2; have k2 := ((unveil HC0).below hW2).cell 0; simp only [List.getElem?_toArray, List.getElem?_cons_zero] at k2; have hz3 := hW2.size; clear hW2)
      obtain ⟨_, hrowa⟩ := unveil KEY W2 0 (unveil HW2) (unveil hei)
      have hbase : w.heap.size ≤ W1.heap.size := (unveil HOB).size
      gi_wp2_with (gi_at_builtin; go_loud (refine wpListIn_append_own _ rfl _ _ 47 rfl w.heap.size 3 i0 _ 1 8 Try.underlying47 hi hz0 hz1 hz2' rfl (by decide) _ _ _ rfl hrowa ⟨W2.heap.size, 0, none⟩ 1 1 [.int .i64 0] rfl rfl (in_cells W2 0 3) ?c2 ?c3 ?c4 ?c5 ?_))
      case c2 => intro u hu; simp at hu; subst hu; rfl
      case c3 => unfold maxLen; omega
      case c4 => omega
      case c5 => simp; omega
      intro v' W5 hown' hgrow _
      obtain ⟨g', cap', rfl⟩ := ownsRow_succS hown'
      obtain ⟨⟨_, p0c⟩, p0f, p0l, hfin⟩ := unveil FIN W2 W5 0 g' cap' (unveil HW2) (unveil hei) hgrow hown'
      have HFN := veil (hfin trivial trivial)
      clear hfin hi hz0 hz1 hz2' k0
      gi_wp2
      exact unveil HFN
    · have hei : Hid ((1 : Int) = eiM l x) := by unfold Hid; rw [unveil HEI]; rfl
      gi_upto_region 11 with (refine ⟨trivial, ?_⟩; gi_at_call 120; refine (callsIn_wide.2 (unveil HCA)).mono ?_; rintro e W2 ⟨rfl, hW2⟩; have HW2 := veil hW2; have k2 := ((unveil HC0).below hW2).cell 0; simp only [List.getElem?_toArray, List.getElem?_cons_zero] at k2; have hz3 := hW2.size; clear hW2)
      obtain ⟨_, hrowa⟩ := unveil KEY W2 1 (unveil HW2) (unveil hei)
      have hbase : w.heap.size ≤ W1.heap.size := (unveil HOB).size
      gi_wp2_with (gi_at_builtin; go_loud (refine wpListIn_append_own _ rfl _ _ 47 rfl w.heap.size 3 i0 _ 1 8 Try.underlying47 hi hz0 hz1 hz2' rfl (by decide) _ _ _ rfl hrowa ⟨W2.heap.size, 0, none⟩ 1 1 [.int .i64 1] rfl rfl (in_cells W2 1 3) ?c2 ?c3 ?c4 ?c5 ?_))
      case c2 => intro u hu; simp at hu; subst hu; rfl
      case c3 => unfold maxLen; omega
      case c4 => omega
      case c5 => simp; omega
      intro v' W5 hown' hgrow _
      obtain ⟨g', cap', rfl⟩ := ownsRow_succS hown'
      obtain ⟨⟨_, p0c⟩, p0f, p0l, hfin⟩ := unveil FIN W2 W5 1 g' cap' (unveil HW2) (unveil hei) hgrow hown'
      have HFN := veil (hfin trivial trivial)
      clear hfin hi hz0 hz1 hz2' k0
      gi_wp2
      exact unveil HFN
  case done =>
    rintro D' W' hD' ⟨⟨⟨v, c0, hrow⟩, cbe⟩, _⟩ hK
    have d0 := c0.cell 0
    simp only [List.getElem?_toArray, List.getElem?_cons_zero] at d0
    have HR := veil hrow
    have HBB := veil cbe
    have HKK := veil hK
    have hKlt := (Array.getElem?_eq_some_iff.1 hK).1
    clear c0 hrow cbe hK
    go_wp2_with fail
    refine ⟨by simp, .inl ⟨_, _, rfl, run_takeDeferred (unveil HKK), ?_⟩⟩
    refine ⟨_, results_tmp rfl _ _ _, ?_⟩
    have hrow := unveil HR
    rw [List.length_range] at hrow
    have hrow2 := ownsRow_turnS hrow (grownBy_putObj' W' D' (.deferred none)) (fun r e cur hc => by cases e; rw [unveil HKK] at hc; cases hc)
    have hlm : ((List.range (nEi z)).map (eiM l)).length = nEi z := by simp
    generalize (List.range (nEi z)).map (eiM l) = CL at *
    rw [← hlm] at hrow2
    obtain ⟨p, cp, rfl, hg⟩ := IsG.of_own hrow2
    exact ⟨p, cp, rfl, hg, (unveil HBB).grown (grownBy_putObj' W' D' _) (unveil HBB).size (fun r e => by cases e; omega)⟩
  case stop => rintro D' c pre W' hD' _ hf hK; cases hf
end Go.Proofs.Ytaffldhmgifdoaa
