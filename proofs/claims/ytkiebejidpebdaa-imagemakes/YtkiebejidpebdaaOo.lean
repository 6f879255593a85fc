/-
  Package image: bytes as numbers; Put.
-/
import Derived.Test.YtkiebejidpebdaaZ10
import Derived.Laws.IdiomStrings
import Derived.Laws.Tables
import Derived.Laws.OwnMore
import Derived.OwnWalk
import Derived.Laws.Closers25b
namespace Go.Proofs.Ytkiebejidpebdaa
open Go Go.RowKit Go.Shelf
set_option linter.unusedVariables false
set_option linter.unusedSimpArgs false

def ofB (T : ByteArray) : List Int := T.data.toList.map (fun b => (b.toNat : Int))
def toB (l : List Int) : ByteArray := ⟨(l.map (fun x => UInt8.ofNat x.toNat)).toArray⟩
def OkB (l : List Int) : Prop := ∀ x ∈ l, 0 ≤ x ∧ x < 256
theorem ofB_ok (T : ByteArray) : OkB (ofB T) := fun x hx => by
  unfold ofB at hx
  obtain ⟨b, _, rfl⟩ := List.mem_map.1 hx
  have := b.toNat_lt
  omega
theorem ofB_len (T : ByteArray) : (ofB T).length = T.size := by unfold ofB; simp
theorem toB_len (l : List Int) : (toB l).size = l.length := by unfold toB ByteArray.size; simp
theorem toB_of (T : ByteArray) : toB (ofB T) = T := by
  unfold toB ofB
  apply ByteArray.ext
  apply Array.toList_inj.1
  rw [List.map_map]
  show List.map _ T.data.toList = T.data.toList
  conv => rhs; rw [← List.map_id T.data.toList]
  apply List.map_congr_left
  intro x _
  simp
theorem ofB_to {l : List Int} (h : OkB l) : ofB (toB l) = l := by
  unfold toB ofB
  simp only [List.map_map]
  conv => rhs; rw [← List.map_id l]
  apply List.map_congr_left
  intro x hx
  have := h x hx
  simp only [Function.comp, id]
  rw [UInt8.toNat_ofNat']
  omega
theorem byC_of (T : ByteArray) : byC (ofB T) = (Lib.byteCells T.data.toList).toArray := by
  unfold byC ofB Lib.byteCells
  simp
theorem wrX_ok (x m v : Int) : 0 ≤ wrX x m v ∧ wrX x m v < 256 := by
  unfold wrX
  split
  · have h1 := bits_lo_u8 .or (bits .andNot .u8 x m) m
    have h2 := bits_hi_u8 .or (bits .andNot .u8 x m) m
    omega
  · have h1 := bits_lo_u8 .andNot x m
    have h2 := bits_hi_u8 .andNot x m
    omega
theorem wrF_ok {bs : List Int} (h : OkB bs) (v : Int) : ∀ l : List Nat, OkB (wrF bs v l).1 := by
  intro l
  unfold wrF
  have hh : ∀ (l : List Nat) (s : List Int × Int), OkB s.1 → OkB (l.foldl wrSt s).1 := by
    intro l
    induction l with
    | nil => intro s h; exact h
    | cons b r ih =>
      intro s h
      rw [List.foldl_cons]
      refine ih _ (fun x hx => ?_)
      unfold wrSt at hx
      rcases List.mem_or_eq_of_mem_set hx with hx | rfl
      · exact h x hx
      · exact wrX_ok _ _ _
  exact hh l (bs, v) h
theorem conv_back (W : World) (g : Nat) (l : List Int) (hl : OkB l) (hb : Bk W g 5 (byC l)) : (convert 62 9 (.slice (some ⟨g, 0, none⟩) l.length l.length)).run Try.prog W = .ok (.string (toB l)) W := by
  have h := run_convert_bytes_back (P := Try.prog) W 62 9 5 ⟨g, 0, none⟩ l.length (l.map (fun x => UInt8.ofNat x.toNat)) Try.underlying62 Try.underlying5 Try.underlying9 (fun j hj => by
    have hj' : j < l.length := by simpa using hj
    have hadd : (⟨g, 0, none⟩ : Addr).add j = ⟨g, j, none⟩ := by unfold Addr.add; split <;> simp_all
    rw [hadd, hb.cell, byC_get, List.getElem?_eq_getElem hj']
    have := hl l[j] (List.getElem_mem hj')
    simp only [Option.map_some, List.getElem_map]
    rw [UInt8.toNat_ofNat']
    congr 2
    omega)
  rw [List.length_map] at h
  exact h
theorem infoU8 : (Try.prog.info? 5).map (fun i => (i.zero, i.size, i.bytes)) = some (some (.int .u8 0), 1, 1) := by kernel_rfl
/-- What make([]byte, n) lays. -/
theorem bk_made {W W' : World} {n : Nat} (h : W'.ownsRow W.heap.size 5 1 (.slice (some ⟨W.heap.size, 0, none⟩) n n) n (madeCells (Value.int .u8 0).cells (n * 1)).toList) : Bk W' W.heap.size 5 (byC (List.replicate n 0)) := by
  have hx : (madeCells (Value.int .u8 0).cells (n * 1)).toList = List.replicate n (.int .u8 0) := by
    rw [Nat.mul_one]
    exact toList_madeCells_one _ _
  rw [hx] at h
  rcases h.2 with ⟨h0, _⟩ | ⟨g, cap, cur, he, hb, hg, hc, hm, hs, ht⟩
  · cases h0
  · cases he
    unfold Bk
    rw [hg]
    congr 2
    apply Array.toList_inj.1
    rw [List.take_of_length_le (by rw [Array.length_toList]; omega)] at ht
    rw [ht]
    unfold byC
    simp
theorem copy_in (W : World) (g : Nat) (T : ByteArray) (ty : TypeId) (cs : List Int) (hl : cs.length = T.size) (hg : Bk W g 5 (byC cs)) :
    (Builtin.copy_ #[62, 9] ty #[.slice (some ⟨g, 0, none⟩) T.size T.size, .string T]).run Try.prog W = .ok (goInt T.size) (W.setRow g (byC (ofB T))) := by
  have hs : (Try.prog.info? 5).map (·.size) = some 1 := by kernel_rfl
  have hz : (byC cs).size = T.size := by unfold byC; simp [hl]
  have e : ((byC cs).toList.take 0 ++ Lib.byteCells T.data.toList ++ (byC cs).toList.drop (0 + T.size)).toArray = byC (ofB T) := by
    rw [byC_of, List.take_zero, List.nil_append, List.drop_eq_nil_of_le (by rw [Array.length_toList, hz, Nat.zero_add]; exact Nat.le_refl _), List.append_nil]
  rw [← e]
  exact Lib.run_copy_row_string W 62 9 ty 5 g 0 T.size T.size T (byC cs) 5 Try.underlying62 hs hg (Nat.le_refl _) (by rw [hz, Nat.zero_add]; exact Nat.le_refl _)
theorem bk_setRow {W : World} {g : Nat} {T : TypeId} {cs : Array Value} (h : Bk W g T cs) (cs' : Array Value) : Bk (W.setRow g cs') g T cs' := setRow_heap W g cs cs' T (0, 0) h
theorem bk_setRow_other {W : World} {g b : Nat} {T : TypeId} {cs : Array Value} (h : Bk W b T cs) (hb : b ≠ g) (cs' : Array Value) : Bk (W.setRow g cs') b T cs := (setRow_other W g b cs' hb).trans h
theorem below_row {B g : Nat} {w0 w : World} (hb : Below B w0 w) (hBg : B ≤ g) (cs : Array Value) : Below B w0 (w.setRow g cs) :=
  hb.trans ⟨rfl, rfl, rfl, by simp [World.setRow], fun k hk => setRow_other w g k cs (by omega)⟩
/-- What Put tells. -/
def ptM (t : ShT) (T : ByteArray) (path : List Int) (v : Int) : ByteArray × Int := if (fiM t T.size path).2 == 0 then (toB (wrF (ofB T) v (bitL (spP t path).1.toNat (spP t path).2.1.toNat)).1, 0) else (⟨#[]⟩, (fiM t T.size path).2)
set_option maxRecDepth 100000 in
set_option maxHeartbeats 20000000 in
theorem Put_any (t : ShT) (T : ByteArray) (p : Option Addr) (cap : Nat) (path : List Int) (v : Int) (w : World) (hin : t.In w.heap.size w) (hp : PaG w.heap.size w p path) (hpl : path.length ≤ maxLen) :
    Calls Try.prog 36 #[t.v, .string T, .slice p path.length cap, .int .i64 v] w fun e w' => e = .returned (.tuple #[.string (ptM t T path v).1, .int .i64 (ptM t T path v).2]) ∧ Below w.heap.size w w' := by
  have HF : Hid (∀ W, Below w.heap.size w W → Calls Try.prog 60 #[t.v, .string T, .slice p path.length cap] W fun e w' => e = .returned (.tuple #[.agg (spC3 (fiM t T.size path).1), .int .i64 (fiM t T.size path).2]) ∧ Below W.heap.size W w') := fun W h => findIn_any t T p cap path W ((hin.below h).mono h.size) ((hp.below h).mono h.size) hpl
  have HT0 := veil (And.intro (TyB.new w t) ((Below.refl _ w).alloc (Nat.le_refl _) (.cells t.cs 25)))
  have HOK := veil (@fi_ok t T.size path)
  have HG : Hid (ptM t T path v = if (fiM t T.size path).2 == 0 then (toB (wrF (ofB T) v (bitL (spP t path).1.toNat (spP t path).2.1.toNat)).1, 0) else (⟨#[]⟩, (fiM t T.size path).2)) := rfl
  clear hin hp
  generalize ptM t T path v = GT at *
  generalize fiM t T.size path = FI at *
  obtain ⟨⟨a, b, c⟩, er⟩ := FI
  unfold ShT.v ShT.cs spC3 at *
  simp only at *
  cases h1 : er == 0
  · have h1' : (er != 0) = true := by simp only [bne, h1]; rfl
    rw [Hid, h1] at HG
    simp only [Bool.false_eq_true, if_false] at HG
    have HG' := veil HG
    clear HG
    go_enter Try.func36, Try.ntmps36
    go_upto_region 1 with fail
    generalize (w.alloc (.cells #[.int .i64 t.sh, .int .i64 t.k, .int .i64 t.n, .slice t.op t.of.length t.oc, .slice t.fp t.fs.length t.fc, .bool t.pk, .int .i64 t.al] 25)) = W0 at HT0 ⊢
    obtain ⟨y0, y1, y2, y3, y4, y5, y6⟩ := (unveil HT0).1.seven
    go_wp2_with (go_at_call 60; refine (unveil HF _ (unveil HT0).2).mono ?_; rintro e W1 ⟨rfl, hb1⟩; have HB1 := veil ((unveil HT0).2.trans (hb1.mono (unveil HT0).2.size)); clear hb1)
    refine bodyPost_ret (results_tmp2 rfl _ _ _) rfl ?_
    exact ⟨by rw [unveil HG']; rfl, (unveil HB1).alloc (unveil HB1).size _⟩
  · have h1' : (er != 0) = false := by simp only [bne, h1]; rfl
    obtain ⟨_, _, hn, hsp, hT, bb, kk, hb, hk, hk0, hk1, hfit⟩ := unveil HOK h1
    rw [Hid, h1] at HG
    simp only [if_true] at HG
    rw [← hsp] at HG hb hk
    simp only at HG hb hk
    subst hb hk
    rw [Int.toNat_natCast, Int.toNat_natCast] at HG
    have HG' := veil HG
    have HWR := veil (fun g W hg => write_any (ofB T) g bb kk c v W hg (by omega) (by omega) (by rw [ofB_len]; omega) (by rw [ofB_len]; omega))
    have HWO := veil (wrF_ok (ofB_ok T) v (bitL bb kk))
    have HWL := veil ((wrF_len (ofB T) v (bitL bb kk)).trans (ofB_len T))
    clear HG HOK hsp hn
    rw [ofB_len] at HWR
    generalize (wrF (ofB T) v (bitL bb kk)).1 = RS at *
    unfold spB at HWR
    go_enter Try.func36, Try.ntmps36
    go_upto_region 1 with fail
    generalize (w.alloc (.cells #[.int .i64 t.sh, .int .i64 t.k, .int .i64 t.n, .slice t.op t.of.length t.oc, .slice t.fp t.fs.length t.fc, .bool t.pk, .int .i64 t.al] 25)) = W0 at HT0 ⊢
    obtain ⟨y0, y1, y2, y3, y4, y5, y6⟩ := (unveil HT0).1.seven
    go_upto_region 4 with (go_at_call 60; refine (unveil HF _ (unveil HT0).2).mono ?_; rintro e W1 ⟨rfl, hb1⟩; have HB1 := veil ((unveil HT0).2.trans (hb1.mono (unveil HT0).2.size)); clear hb1)
    have HB2 := veil ((unveil HB1).alloc (unveil HB1).size (.cells #[.int .i64 (bb : Int), .int .i64 (kk : Int), .int .i64 c] 42))
    have hb2 := veil (Bk.new W1 42 #[.int .i64 (bb : Int), .int .i64 (kk : Int), .int .i64 c])
    generalize (W1.alloc (.cells #[.int .i64 (bb : Int), .int .i64 (kk : Int), .int .i64 c] 42)) = W2 at *
    generalize W1.heap.size = SB at *
    clear y0 y1 y2 y3 y4 y5 y6
    go_upto_region 5 with (at_make; obtain ⟨i0, hi, hz0, hz1, hz2⟩ := info_parts infoU8; refine wpList_make_full _ rfl _ _ 62 rfl W2.heap.size 5 i0 _ 1 Try.underlying62 hi hz0 hz1 .i64 .i64 _ _ T.size rfl rfl rfl rfl (by rw [hz2]; omega) (by unfold maxLen; omega) (Nat.le_refl _) ?_; intro W4 hown4 hgrow4; have hk4 := bk_made hown4; have hB4 := (Below.refl _ W2).grown hgrow4 (Nat.le_refl _) (fun r e => by cases e); have hb4 := veil ((unveil hb2).below hB4); have HB4 := veil ((unveil HB2).trans (hB4.mono (unveil HB2).size)); have HK4 := veil hk4; clear hi hz0 hz1 hz2 i0 hown4 hgrow4 hk4 hB4)
    have hne : SB ≠ W2.heap.size := by have := (unveil hb2).lt; omega
    have hlS : W2.heap.size < W4.heap.size := (unveil HK4).lt
    have hW2s : w.heap.size ≤ W2.heap.size := (unveil HB2).size
    have hcp := fun ty => copy_in W4 W2.heap.size T ty (List.replicate T.size 0) (by simp) (unveil HK4)
    have HK5 := veil (bk_setRow (unveil HK4) (byC (ofB T)))
    have hb5 := veil (bk_setRow_other (unveil hb4) hne (byC (ofB T)))
    have HB5 := veil (below_row (unveil HB4) hW2s (byC (ofB T)))
    go_upto_region 6 with fail
    clear hcp
    generalize (W4.setRow W2.heap.size (byC (ofB T))) = W5 at *
    generalize W2.heap.size = G at *
    have e0 := (unveil hb5).cell 0
    have e1 := (unveil hb5).cell 1
    have e2 := (unveil hb5).cell 2
    simp only [List.getElem?_toArray, List.getElem?_cons_zero, List.getElem?_cons_succ] at e0 e1 e2
    have HFIN : Hid (∀ W6, Bk W6 G 5 (byC RS) → W5.grownBy W6 (some G) → (∀ W7, W7 = W6 → (convert 62 9 (.slice (some ⟨G, 0, none⟩) T.size T.size)).run Try.prog W7 = .ok (.string (toB RS)) W7) ∧ Hid (Below w.heap.size w W6)) := fun W6 hk6 hg6 => by
      refine ⟨fun W7 e => ?_, (unveil HB5).grown hg6 (unveil HB5).size (fun r e => by cases e; exact hW2s)⟩
      subst e
      have := conv_back _ G RS (unveil HWO) hk6
      rw [unveil HWL] at this
      exact this
    go_upto_region 7 with (go_at_call 57; refine (unveil HWR G W5 (unveil HK5)).mono ?_; rintro e W6 ⟨⟨r, rfl⟩, hk6, hg6⟩; obtain ⟨hcv, HB6⟩ := unveil HFIN W6 hk6 hg6; have hcv6 := hcv W6 rfl; clear hk6 hg6 hcv)
    clear e0 e1 e2
    go_wp2_with fail
    refine bodyPost_ret (results_tmp2 rfl _ _ _) rfl ?_
    exact ⟨by rw [unveil HG']; rfl, unveil HB6⟩
end Go.Proofs.Ytkiebejidpebdaa
