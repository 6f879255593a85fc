/-
  burinref01.Lines: the document's logical lines of every string.
-/
import Derived.Test.YtncccheaeghbiaaC1
import Derived.Test.YtncccheaeghbiaaPlain3
import Derived.Test.YtncccheaeghbiaaNx
import Derived.Deep.CutRange
import Derived.Deep.RegionWith
import Derived.Deep.DeepCutAuto
namespace Go.Proofs.Ytncccheaeghbiaa
open Go Go.RowKit
set_option linter.unusedVariables false

set_option maxHeartbeats 400000 in
theorem refLines_long (s : ByteArray) (w : World) (hs : s.size ≤ maxLen) (hl : 65536 < s.size) :
    Calls Try.prog 11 #[.string s] w fun e w' => e = .returned (.tuple #[.slice none 0 0, .int .i64 10]) ∧ w' = w := by
  unfold maxLen at hs
  have h' : decide ((65536 : Int) < (s.size : Int)) = true := by simp; omega
  go_enter Try.func11, Try.ntmps11
  go_wp2
  go_ret2
  exact ⟨rfl, rfl⟩

/-- A slice value that reads as these strings. -/
def Sd (W : World) (v : Value) (L : List (List UInt8)) : Prop :=
  ∃ p cap, v = .slice p L.length cap ∧ ∀ (i : Nat) (h : i < L.length), ∃ g, p = some ⟨g, 0, none⟩ ∧ W.cell? ⟨g, i, none⟩ = some (.string ⟨(L[i]).toArray⟩)
theorem Sd.of {W : World} {base n : Nat} {v : Value} {L : List (List UInt8)} (h : W.ownsRow base 9 1 v n (strRow L)) (hn : n = L.length) : Sd W v L := by
  subst hn
  have hc : ∀ {g : Nat}, v.ownBlock = some g → ∀ j u, (strRow L)[j]? = some u → W.cell? ((⟨g, 0, none⟩ : Addr).add j) = some u := fun hg => h.cells hg
  rcases h.2 with ⟨rfl, h0⟩ | ⟨g, cap, cur, rfl, _⟩
  · exact ⟨none, 0, by rw [h0], fun i hi => by omega⟩
  · refine ⟨some ⟨g, 0, none⟩, cap, rfl, fun i hi => ⟨g, rfl, ?_⟩⟩
    have := hc (g := g) rfl i (.string ⟨(L[i]).toArray⟩) (by simp [strRow, hi])
    rw [add_row] at this; exact this

theorem bs_at (t : ByteArray) (x : List UInt8) (h : t.data.toList = x) : Tx.bsB x = true ↔ ∃ h0 : 0 < t.size, t[t.size - 1]'(by omega) = 92 := by
  subst h
  rw [Tx.bsB_last]
  constructor
  · intro hl
    have h0 : 0 < t.size := by
      rcases Nat.eq_zero_or_pos t.size with h | h
      · have : t.data.toList = [] := List.length_eq_zero_iff.1 (by simpa using h)
        rw [this] at hl; simp at hl
      · exact h
    refine ⟨h0, ?_⟩
    rw [List.getLast?_eq_getElem?, List.getElem?_eq_getElem (by simp; omega)] at hl
    have := Option.some.inj hl
    simp at this
    exact this
  · rintro ⟨h0, hl⟩
    rw [List.getLast?_eq_getElem?, List.getElem?_eq_getElem (by simp; omega)]
    simp
    exact hl

theorem lg_at {L : List (List UInt8)} {k : Nat} {x : List UInt8} (h : L[k]? = some x) (n f : Nat) (w : List UInt8) : Tx.lg n f w (L.drop k) =
    if (Tx.bsB x && decide (k + 1 < L.length)) = true then Tx.lg (n + 1) f (w ++ Tx.cutB x) (L.drop (k + 1)) else (f, w ++ x) :: Tx.lg (n + 1) (n + 1 + 1) [] (L.drop (k + 1)) := by
  obtain ⟨hk, rfl⟩ := List.getElem?_eq_some_iff.1 h
  rw [List.drop_eq_getElem_cons hk, Tx.lg]
  have : decide (L.drop (k + 1) ≠ []) = decide (k + 1 < L.length) := by
    rw [decide_eq_decide, Ne, List.drop_eq_nil_iff]; omega
  rw [this]
theorem set_second {b t : Nat} {p v : Value} {W : World} (hb : W.heap[b]? = some (.cells #[p, v] t (0, 0))) (v' : Value) :
    (W.setCell ⟨b, 1, none⟩ v').heap[b]? = some (.cells #[p, v'] t (0, 0)) := by
  simp [World.setCell, Array.getElem?_modify, hb]
theorem ownsRow_setOther {b i base n size : Nat} {e : TypeId} {v : Value} {W : World} {xs : List Value} (h : W.ownsRow base e size v n xs) (hb : v.ownBlock ≠ some b) (u : Value) : (W.setCell ⟨b, i, none⟩ u).ownsRow base e size v n xs :=
  h.kept (row := some b) ⟨rfl, rfl, rfl, (KeepsWalks.setCell W _ u).size, fun k _ hk => Below.heap_setCell _ _ _ k (fun e => hk (by simp at e; rw [e]))⟩
    (Classical.or_iff_not_imp_left.2 (fun _ e => absurd e hb))
theorem splice_data (sx t2 : ByteArray) (wS x' : List UInt8) (h : sx.data.toList = wS ++ x') (hx : x' ≠ []) : (sx.extract 0 (sx.size - 1) ++ t2).data.toList = (wS ++ Tx.cutB x') ++ t2.data.toList := by
  rw [ByteArray.data_append, Array.toList_append, ByteArray.data_extract, Array.toList_extract]
  congr 1
  rw [← Tx.cutB_app wS x' hx, Tx.cutB, ← h]
  simp [List.extract]

set_option maxRecDepth 100000 in
set_option maxHeartbeats 4000000 in
theorem refLines_any (s : ByteArray) (w : World) (hs : s.size ≤ 65536) :
    Calls Try.prog 11 #[.string s] w fun e w' => ∃ v, e = .returned (.tuple #[v, .int .i64 0]) ∧ w'.ownsRow w.heap.size 32 2 v (Tx.lines s.data.toList).length (lineCells (Tx.lines s.data.toList)) ∧ Below w.heap.size w w' := by
  have hn : decide ((65536 : Int) < (s.size : Int)) = false := by simp; omega
  have hlen : s.data.toList.length = s.size := by simp
  have hpl := Tx.phys_length s.data.toList
  have hps := Tx.phys_short s.data.toList
  rw [hlen] at hpl hps
  have hphys := Tx.phys_fst s.data.toList
  have hlines := Tx.lines_lg s.data.toList
  rw [← hphys] at hlines
  obtain ⟨i0, hi, hz0, hz1, hz2'⟩ := info_parts Try.info32
  go_enter Try.func11, Try.ntmps11
  go_wp2_with fail
  refine (refPhysical_any s _ (by omega)).mono ?_
  rintro e W1 ⟨v, rfl, hrow, hb1⟩
  have hsd : Sd W1 v ((Tx.phys s.data.toList).map Prod.fst) := Sd.of hrow (by simp)
  have hg : ∀ g, v.ownBlock = some g → g < W1.heap.size := fun g h => (hrow.lt g h).2
  have hshort : ∀ x ∈ (Tx.phys s.data.toList).map Prod.fst, x.length ≤ 65536 := fun x hx => by
    obtain ⟨y, hy, rfl⟩ := List.mem_map.1 hx
    have := hps y hy
    omega
  have hLl : ((Tx.phys s.data.toList).map Prod.fst).length ≤ 65536 := by simp; omega
  generalize (Tx.phys s.data.toList).map Prod.fst = L at *
  generalize hRe : Tx.lines s.data.toList = R at *
  have HRE := hide hRe
  clear hRe
  obtain ⟨p, cap, rfl, hcs⟩ := hsd
  have HCS := hide hcs
  have HSH := hide hshort
  have HLN := hide hlines
  have HG := hide hg
  clear hcs hshort hlines hg hphys hrow hps hpl hlen
  have y1 := hb1.size
  go_wp2
  go_loopw [5, 6] (fun vo i wr => ∃ (k : Nat) (out : List (Nat × List UInt8)), i = .int .i64 k ∧ k ≤ L.length ∧ Hid (out ++ Tx.lg k (k + 1) [] (L.drop k) = R) ∧ out.length ≤ k ∧
      wr.ownsRow W1.heap.size 32 2 vo out.length (lineCells out) ∧ Below W1.heap.size W1 wr) (fun vo i wr => L.length - (intOf i).toNat)
  case atStart => exact ⟨0, [], rfl, Nat.zero_le _, by rw [Hid, unhide HLN]; rfl, Nat.le_refl _, World.ownsRow_nil _ _ _ _, Below.refl _ _⟩
  case round =>
    obtain ⟨k, out, rfl, hk, hpre, hol, hro, hbe⟩ := hrel
    have hzr := hbe.size
    by_cases hlt : k < L.length
    · obtain ⟨g, rfl, hck⟩ := unhide HCS k hlt
      have hgl : g < W1.heap.size := unhide HG g rfl
      have hck' := (hbe.cell (p := ⟨g, k, none⟩) hgl).trans hck
      have i1 : (k : Int) < (L.length : Int) := by omega
      obtain ⟨t, ht⟩ : ∃ t : ByteArray, t = ⟨(L[k]).toArray⟩ := ⟨_, rfl⟩
      rw [← ht] at hck'
      have HT := hide ht
      clear ht hck
      have hgx : ∀ g', u5.ownBlock = some g' → g' < wr.heap.size := fun g' h => (hro.lt g' h).2
      have HGX := hide hgx
      clear hgx
      go_wp2
      generalize hbxe : wr.heap.size = bx at *
      have HBX := hide hbxe
      clear hbxe
      go_loopw [6] (fun i w2 => ∃ (k' : Nat) (x' wS : List UInt8) (sx : ByteArray), i = .int .i64 k' ∧ k ≤ k' ∧ k' < L.length ∧ Hid (L[k']? = some x') ∧ Hid (sx.data.toList = wS ++ x') ∧
          Hid (out ++ Tx.lg k' (k + 1) wS (L.drop k') = R) ∧ wS.length ≤ k' * 65536 ∧ w2.heap[bx]? = some (.cells #[.int .i64 ((k : Int) + 1), .string sx] 32 (0, 0)) ∧
          w2.ownsRow W1.heap.size 32 2 u5 out.length (lineCells out) ∧ Below W1.heap.size W1 w2) (fun i w2 => L.length - (intOf i).toNat)
      case atStart =>
        refine ⟨k, L[k], [], t, rfl, Nat.le_refl _, hlt, by simp [Hid], ?_, hpre, by simp, by rw [← unhide HBX]; exact World.alloc_heap_new wr _, hro.alloc _, hbe.alloc (by rw [unhide HBX]; exact hzr) _⟩
        rw [Hid, unhide HT]; simp
      case round =>
        obtain ⟨k', x', wS, sx, rfl, hkk, hlt', hx', hsx, hpre', hws, hbx, hro2, hbe2⟩ := hrel
        obtain ⟨g2, hge, hck2⟩ := unhide HCS k' hlt'
        obtain rfl : g = g2 := by simpa using hge
        have hxe : L[k'] = x' := by
          have := unhide hx'
          rw [List.getElem?_eq_getElem hlt'] at this
          exact Option.some.inj this
        rw [hxe] at hck2
        have hc9 := (hbe2.cell (p := ⟨g, k', none⟩) hgl).trans hck2
        obtain ⟨t', ht'⟩ : ∃ t' : ByteArray, t' = ⟨x'.toArray⟩ := ⟨_, rfl⟩
        rw [← ht'] at hc9
        have HT' : Hid (t'.data.toList = x') := by rw [Hid, ht']
        have hts : t'.size ≤ 65536 := by
          have h1 := unhide HSH x' (by rw [← hxe]; exact List.getElem_mem _)
          rw [ht']; show x'.toArray.size ≤ _; simpa using h1
        clear ht' hck2 hxe hge
        have i2 : (k' : Int) < (L.length : Int) := by omega
        have hwk : IntKind.i64.wrap ((k' : Int) + 1) = (k' : Int) + 1 := by rw [IntKind.wrap_i64]; omega
        have hwt : IntKind.i64.wrap ((t'.size : Int) - 1) = (t'.size : Int) - 1 := by rw [IntKind.wrap_i64]; omega
        have hbs := bs_at t' x' (unhide HT')
        have hxs : sx.size = wS.length + t'.size := by
          have h1 := congrArg List.length (unhide hsx)
          rw [List.length_append, ← unhide HT'] at h1
          simpa using h1
        have hcx1 : wr.cell? ⟨bx, 1, none⟩ = some (.string sx) := by rw [World.cell?, hbx]; rfl
        have hcx0 : wr.cell? ⟨bx, 0, none⟩ = some (.int .i64 ((k : Int) + 1)) := by rw [World.cell?, hbx]; rfl
        have hcs : ∃ B : Bool, Hid (B = (Tx.bsB x' && decide (k' + 1 < L.length))) ∧
            ((B = false ∧ decide ((k' : Int) + 1 < (L.length : Int)) = false) ∨
             (B = false ∧ decide ((k' : Int) + 1 < (L.length : Int)) = true ∧ (k' : Int) + 1 < (L.length : Int) ∧ decide (0 < t'.size) = false) ∨
             (B = false ∧ decide ((k' : Int) + 1 < (L.length : Int)) = true ∧ (k' : Int) + 1 < (L.length : Int) ∧ 0 < t'.size ∧ (1 : Int) ≤ (t'.size : Int) ∧ (t'.size : Int) - 1 < (t'.size : Int) ∧ ∃ h : t'.size - 1 < t'.size, (((t'[t'.size - 1]).toNat : Int) == 92) = false) ∨
             (B = true ∧ decide ((k' : Int) + 1 < (L.length : Int)) = true ∧ (k' : Int) + 1 < (L.length : Int) ∧ 0 < t'.size ∧ (1 : Int) ≤ (t'.size : Int) ∧ (t'.size : Int) - 1 < (t'.size : Int) ∧ ∃ h : t'.size - 1 < t'.size, t'[t'.size - 1] = 92)) := by
          by_cases hnx : k' + 1 < L.length
          · by_cases h0 : 0 < t'.size
            · have hlt0 : t'.size - 1 < t'.size := by omega
              by_cases h92 : t'[t'.size - 1] = 92
              · refine ⟨true, ?_, .inr (.inr (.inr ⟨rfl, decide_eq_true (by omega), by omega, h0, by omega, by omega, hlt0, h92⟩))⟩
                rw [Hid, hbs.2 ⟨h0, h92⟩]; simp [hnx]
              · refine ⟨false, ?_, .inr (.inr (.inl ⟨rfl, decide_eq_true (by omega), by omega, h0, by omega, by omega, hlt0, ?_⟩))⟩
                · have : Tx.bsB x' = false := by
                    rw [Bool.eq_false_iff]; intro h; obtain ⟨_, h2⟩ := hbs.1 h; exact h92 h2
                  rw [Hid, this]; rfl
                · rw [beq_eq_false_iff_ne]; intro e; apply h92
                  have : (t'[t'.size - 1]).toNat = 92 := by omega
                  exact UInt8.toNat_inj.1 this
            · refine ⟨false, ?_, .inr (.inl ⟨rfl, decide_eq_true (by omega), by omega, decide_eq_false (by omega)⟩)⟩
              have : Tx.bsB x' = false := by
                rw [Bool.eq_false_iff]; intro h; obtain ⟨h1, h2⟩ := hbs.1 h; exact h0 h1
              rw [Hid, this]; rfl
          · refine ⟨false, ?_, .inl ⟨rfl, decide_eq_false (by omega)⟩⟩
            rw [Hid]; simp [hnx]
        obtain ⟨B, hBe, hcs⟩ := hcs
        clear hbs
        go_wp2
        go_cut [52] from 26 to 52 (fun c wx => c = .bool B ∧ wx = wr.drew)
        case first =>
          rcases hcs with ⟨rfl, g1⟩ | ⟨rfl, g1, g1', g2⟩ | ⟨rfl, g1, g1', g2, g3, g6, g4, g5⟩ | ⟨rfl, g1, g1', g2, g3, g6, g4, g5⟩
          all_goals
            clear hxs hcx1 hcx0 hbx hro2 hbe2 hsx
            refine wp_region_still_plain 26 (by kernel_rfl) (by kernel_rfl) ?_
            simp only [List.take_succ_cons, List.take_zero, List.drop_succ_cons, List.drop_zero]
            refine still_first (fun K hK => ?_)
            iterate 26 (refine still_next hK (fun K1 hK1 => ?_); clear hK K; revert K1 hK1; intro K hK; go_simp)
            refine still_last hK ?_
            clear hK K
            go_wp2_with fail
            go_meet
            case rel => exact ⟨rfl, rfl⟩
        case rest =>
          obtain ⟨rfl, rfl⟩ := hcut
          clear hcs
          cases B
          · have hlg := lg_at (unhide hx') k' (k + 1) wS
            rw [← unhide hBe] at hlg
            have HL := hide hlg
            clear hlg
            have hol2 : out.length ≤ 65536 := by omega
            go_wp2_with (at_builtin; refine wpList_append_own _ rfl _ _ 23 rfl W1.heap.size 32 i0 _ 2 24 Try.underlying23 hi hz0 hz1 hz2' rfl (by decide) _ _ _ rfl (hro2.drew.alloc _) ⟨wr.heap.size, 0, none⟩ 1 1 [.int .i64 ((k : Int) + 1), .string sx] rfl rfl (two_cells wr.drew _ _ 32) ?c2 ?c3 ?c4 ?c5 ?_)
            case c2 => intro u hu; simp at hu; rcases hu with rfl | rfl <;> rfl
            case c3 => unfold maxLen; omega
            case c4 => omega
            case c5 => have := hbe2.size; simp; omega
            intro v' W5 hown' hgrow _
            have hbe' : Below W1.heap.size W1 W5 := (hbe2.drew.alloc hbe2.size _).grown hgrow (by have := hbe2.size; simp; omega) (fun r e => (row_turn hro2 r e).1)
            go_wp2
            go_roundw
            case rel =>
              refine ⟨k' + 1, out ++ [(k + 1, wS ++ x')], by go_num, by omega, ?_, by simp; omega, ?_, hbe'⟩
              · have := unhide HL
                simp only [Bool.false_eq_true, if_false] at this
                rw [Hid, List.append_assoc, List.singleton_append, ← this]; exact hpre'
              · have hse : (⟨(wS ++ x').toArray⟩ : ByteArray) = sx := by rw [← unhide hsx]
                rw [lineCells_snoc, hse]
                simpa using hown'
            case measure => simp [intOf]; omega
          · have hnx : k' + 1 < L.length := by
              have := unhide hBe
              simp at this; exact this.2
            obtain ⟨g3, hge3, hck3⟩ := unhide HCS (k' + 1) hnx
            obtain rfl : g = g3 := by simpa using hge3
            have hc11 := (hbe2.cell (p := ⟨g, k' + 1, none⟩) hgl).trans hck3
            obtain ⟨t2, ht2⟩ : ∃ t2 : ByteArray, t2 = ⟨(L[k' + 1]).toArray⟩ := ⟨_, rfl⟩
            rw [← ht2] at hc11
            have hts2 : t2.size ≤ 65536 := by
              have h1 := unhide HSH L[k' + 1] (List.getElem_mem _)
              rw [ht2]; show (L[k' + 1]).toArray.size ≤ _; simpa using h1
            have ht0 : 0 < t'.size := by
              have := unhide hBe
              simp at this
              obtain ⟨h, _⟩ := (bs_at t' x' (unhide HT')).1 this.1
              exact h
            have hws2 : wS.length ≤ 65536 * 65536 := Nat.le_trans hws (Nat.mul_le_mul (by omega) (Nat.le_refl _))
            have HT2 := hide ht2
            clear ht2 hck3 hge3
            have j1 : ((k' : Int) + 1) < (L.length : Int) := by omega
            have j0 : (0 : Int) ≤ (k' : Int) + 1 := by omega
            have j2 : (1 : Int) ≤ (sx.size : Int) := by omega
            have j3 : IntKind.i64.wrap ((sx.size : Int) - 1) = (sx.size : Int) - 1 := by rw [IntKind.wrap_i64]; omega
            have j4 : (sx.size : Int) - 1 ≤ (sx.size : Int) := by omega
            have j5 : (0 : Int) ≤ (sx.size : Int) - 1 := by omega
            have j6 : ¬ 9223372036854775807 < sx.size - 1 + t2.size := by omega
            have j7 : wr.frozen? ⟨bx, 1, none⟩ = false := Lib.frozen_of_heap hbx 1
            have HXS := hide hxs
            clear hxs
            go_wp2
            refine wp_region_still_plain 14 (by kernel_rfl) (by kernel_rfl) ?_
            simp only [List.take_succ_cons, List.take_zero, List.drop_succ_cons, List.drop_zero]
            refine still_first (fun K hK => ?_)
            iterate 14 (refine still_next hK (fun K1 hK1 => ?_); clear hK K; revert K1 hK1; intro K hK; go_simp)
            refine still_last hK ?_
            clear hK K
            go_wp2
            have hx0 : x' ≠ [] := fun e => by
              have := unhide HT'
              rw [e] at this
              have h2 : t'.size = 0 := by show t'.data.size = 0; rw [← Array.length_toList, this]; rfl
              omega
            have hlg := lg_at (unhide hx') k' (k + 1) wS
            rw [← unhide hBe, if_pos rfl] at hlg
            have hbxb : bx < wr.heap.size := (Array.getElem?_eq_some_iff.1 hbx).1
            refine ⟨⟨k' + 1, L[k' + 1], wS ++ Tx.cutB x', sx.extract 0 (sx.size - 1) ++ t2, by go_num, by omega, hnx, by simp [Hid], ?_, ?_, ?_, set_second hbx _, ?_, ?_⟩, by simp [intOf]; omega⟩
            · rw [Hid, splice_data sx t2 wS x' (unhide hsx) hx0, unhide HT2]
            · rw [Hid, ← hlg]; exact hpre'
            · have h1 := unhide HSH x' (List.mem_of_getElem? (unhide hx'))
              rw [List.length_append]
              have : (Tx.cutB x').length ≤ 65536 := by unfold Tx.cutB; simp; omega
              omega
            · refine (ownsRow_setOther hro2 (fun e => ?_) _).drew.drew
              have := unhide HGX bx e
              have h2 := unhide HBX
              omega
            · have h2 := unhide HBX
              exact (hbe2.setCell (p := ⟨bx, 1, none⟩) (by show W1.heap.size ≤ bx; omega) _).drew.drew
    · go_wp2
      go_ret2
      refine ⟨_, rfl, ?_, hb1.trans (hbe.mono y1)⟩
      have hR : out = R := by
        have := unhide hpre
        rw [List.drop_eq_nil_of_le (by omega)] at this
        simpa [Tx.lg] using this
      rw [unhide HRE, ← hR]
      exact ownsRow_base hro y1
end Go.Proofs.Ytncccheaeghbiaa
