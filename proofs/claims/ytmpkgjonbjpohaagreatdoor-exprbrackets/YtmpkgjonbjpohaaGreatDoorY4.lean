/-
  strings.ContainsAny on bytes below 128, by the shelf's contract, at this translation.
  Package lex: kindOf, number.
  Package lex: number.
  The library functions that package lex calls, by the contracts of the shelf, at this translation.
  Package lex: digits, escapeSize, firstByte.
  Package lex: firstByte, unquoted.
  Package lex: unquoted.
-/
import Derived.Shelf.Strings.IndexAnyAll
import Derived.Shelf.Lay
import Derived.Ground.NamesProg
import Derived.Test.YtmpkgjonbjpohaaGreatDoorChecked
import Derived.Test.YtmpkgjonbjpohaaGreatDoorXp
import Derived.Test.YtmpkgjonbjpohaaGreatDoorY3
import Derived.Shelf.Strings.Builder1
import Derived.Shelf.Strings.Builder2
import Derived.Shelf.Small.Wraps
import Derived.Shelf.Small.Strs
import Derived.Shelf.Strings.BuilderF
import Derived.Shelf.Strings.BuilderK
import Derived.Test.YtmpkgjonbjpohaaGreatDoorXa
import Derived.Laws.Concat
import Derived.Lib.AppendStr
import Derived.Laws.BytesArg
namespace Go.Proofs
open Go.Shelf
shelf_lay Lays.n150 Nm 150 at Tryz as Tryz.lays150
open Go.RowKit in
theorem Tryz.strings_ContainsAny (s chars : ByteArray) (w : World) (hs : s.size < 4294967281) (hcs : chars.size < 4294967281)
    (has : ∀ (j : Nat) b, s.data.toList[j]? = some b → b.toNat < 128) (hac : ∀ (j : Nat) b, chars.data.toList[j]? = some b → b.toNat < 128) :
    Calls Tryz.prog 160 #[.string s, .string chars] w fun e w' => e = .returned (.bool (Lib.containsAny s.data.toList chars.data.toList)) ∧ Below w.heap.size w w' :=
  Any.strings_ContainsAny_laid Tryz.lays150 (by kernel_rfl) s chars w hs hcs has hac
end Go.Proofs
namespace Go.Proofs.YtmpkgjonbjpohaaGreatDoor
open Go Go.RowKit
set_option linter.unusedVariables false
set_option linter.unusedSimpArgs false

/-- Has a text one of two bytes? -/
def hasM (a b : UInt8) (s : List UInt8) : Bool := s.any fun c => c == a || c == b
theorem containsAny_is (a b : UInt8) : ∀ s : List UInt8, Lib.containsAny s [a, b] = hasM a b s := by
  intro s
  unfold Lib.containsAny hasM
  induction s with
  | nil => rfl
  | cons c r ih =>
    have hge := Lib.indexAny_ge [a, b] r
    rw [List.any_cons, ← ih]
    have e : [a, b].contains c = (c == a || c == b) := by
      rw [Bool.eq_iff_iff]; simp
    have hu : Lib.indexAny (c :: r) [a, b] = if [a, b].contains c then 0 else if Lib.indexAny r [a, b] == -1 then -1 else Lib.indexAny r [a, b] + 1 := rfl
    rw [hu, e]
    cases h : (c == a || c == b)
    · simp only [Bool.false_eq_true, if_false, Bool.false_or]
      rw [decide_eq_decide]
      split
      · rename_i h1
        have h2 : Lib.indexAny r [a, b] = -1 := by simpa using h1
        constructor <;> intro _ <;> omega
      · rename_i h1
        have h2 : Lib.indexAny r [a, b] ≠ -1 := by simpa using h1
        constructor <;> intro _ <;> omega
    · simp
/-- What strings.ContainsAny tells of a text and two bytes. -/
def CaOK (s : List UInt8) (a b : UInt8) : Prop := ∀ w : World, Calls Tryz.prog 160 #[.string ⟨s.toArray⟩, .string ⟨#[a, b]⟩] w fun e w' => e = .returned (.bool (hasM a b s)) ∧ Below w.heap.size w w'
theorem caOK_ascii (s : List UInt8) (a b : UInt8) (hs : s.length < 4294967281) (h : ∀ c ∈ s, c.toNat < 128) (ha : a.toNat < 128) (hb : b.toNat < 128) : CaOK s a b := by
  intro w
  have := Tryz.strings_ContainsAny ⟨s.toArray⟩ ⟨#[a, b]⟩ w (by rw [len_toArray]; exact hs) (by show 2 < 4294967281; decide) (fun j c hc => h c (List.mem_of_getElem? hc)) (fun j c hc => by
    have hm := List.mem_of_getElem? hc
    simp at hm
    rcases hm with rfl | rfl
    · exact ha
    · exact hb)
  simp only [List.toList_toArray] at this
  rw [containsAny_is] at this
  exact this
/-- Is a kind left out by a number's spelling? -/
def lfM (dec u l : Bool) (k : Int) : Bool := ((k == 6 || k == 8) && dec && !u) || (!(k == 6 || k == 8) && u) || ((k == 5 || k == 6) && l)
def kmN (v : Int) (dec u l : Bool) : Nat → Int → Int
  | 0, _ => 0
  | n + 1, k => if !lfM dec u l k && decide (v ≤ grM k) then k else kmN v dec u l n (k + 1)
/-- The kind that a number has; 0: none. -/
def kindM (v : Int) (s : List UInt8) : Int := kmN v (s.head? != some 48) (hasM 117 85 s) (hasM 108 76 s) 4 5
set_option maxRecDepth 100000 in
set_option maxHeartbeats 16000000 in
theorem kindOf_any (v : Int) (s : List UInt8) (w : World) (hne : s ≠ []) (hU : CaOK s 117 85) (hL : CaOK s 108 76) :
    Calls Tryz.prog 165 #[.int .u64 v, .string ⟨s.toArray⟩] w fun e w' => e = .returned (.int .i64 (kindM v s)) ∧ Below w.heap.size w w' := by
  obtain ⟨B, hB⟩ : ∃ B : ByteArray, (⟨s.toArray⟩ : ByteArray) = B := ⟨_, rfl⟩
  have hl : 0 < B.size := by rw [← hB, len_toArray]; exact List.length_pos_iff.2 hne
  have hd : (s.head? != some 48) = ((B[0].toNat : Int) != 48) := by
    subst hB
    match s, hne with
    | c :: r, _ =>
      have e1 : ((⟨(c :: r).toArray⟩ : ByteArray)[0]) = c := rfl
      rw [e1]
      simp only [List.head?_cons]
      have := byte_eq c 48
      have e2 : ((48 : UInt8).toNat : Int) = 48 := rfl
      rw [e2] at this
      simp only [bne, ← this]
      rfl
  unfold CaOK at hU hL
  rw [hB] at hU hL ⊢
  unfold kindM
  rw [hd]
  have HU := hide hU
  have HL := hide hL
  have HG := hide greatest_any
  clear hd hU hL
  obtain ⟨K, hK0⟩ : ∃ K, kmN v ((B[0].toNat : Int) != 48) (hasM 117 85 s) (hasM 108 76 s) 4 5 = K := ⟨_, rfl⟩
  rw [hK0]
  have H0 : Hid (K = kmN v ((B[0].toNat : Int) != 48) (hasM 117 85 s) (hasM 108 76 s) 4 5) := hK0.symm
  clear hK0
  generalize hasM 117 85 s = u at *
  generalize hasM 108 76 s = l at *
  clear hB hne
  generalize hdd : ((B[0].toNat : Int) != 48) = dec at *
  go_enter Tryz.func165, Tryz.ntmps165
  go_upto_region 2 with fail
  go_wp2_with fail
  refine (unhide HU _).mono ?_
  rintro e W1 ⟨rfl, hb1⟩
  go_wp2_with fail
  refine (unhide HL _).mono ?_
  rintro e W2 ⟨rfl, hb2⟩
  have HB2 := hide (hb1.trans (hb2.mono hb1.size))
  clear hb1 hb2 HU HL
  go_wp2
  go_loopg [8] 5 (fun gk i wr => ∃ (n k : Nat), gk = n + 1 ∧ k + n = 9 ∧ 5 ≤ k ∧ i = .int .i64 (k : Int) ∧ wr = W2 ∧ Hid (K = kmN v dec u l n k))
  case atStart => exact ⟨4, 5, rfl, rfl, by omega, rfl, rfl, unhide H0⟩
  case round =>
    obtain ⟨n, k, rfl, hk, hk5, rfl, rfl, hK⟩ := hrel
    clear H0
    by_cases h9 : k = 9
    · subst h9
      obtain rfl : n = 0 := by omega
      go_wp2
      go_ret
      exact ⟨by rw [unhide hK]; rfl, unhide HB2⟩
    · obtain ⟨n, rfl⟩ : ∃ m, n = m + 1 := ⟨n - 1, by omega⟩
      have hc : k = 5 ∨ k = 6 ∨ k = 7 ∨ k = 8 := by omega
      have hK' := unhide hK
      rw [kmN] at hK'
      have HK := hide hK'
      clear hK' hK
      rcases hc with rfl | rfl | rfl | rfl
      · have hg : grM 5 = 2147483647 := rfl
        have HGK := hide (unhide HG 5)
        rw [show grM 5 = 2147483647 from rfl] at HGK
        by_cases hv : v ≤ 2147483647
        all_goals (
          cases dec <;> cases u <;> cases l
          all_goals (
            go_wp2_with (go_at_call 111; refine (unhide HGK _).mono ?_; rintro e w' ⟨rfl, hw'⟩; obtain rfl := hw'.symm)
            first
              | (go_ret; exact ⟨by rw [unhide HK]; simp [lfM, hg, hv], unhide HB2⟩)
              | (go_roundg (n + 1)
                 case measure => omega
                 case rel => exact ⟨n, 5 + 1, rfl, by omega, by omega, rfl, rfl, by rw [Hid, unhide HK]; first | (simp [lfM, hg, hv]; done) | (simp [lfM, hg]; intro h; exfalso; omega)⟩)))
      · have hg : grM 6 = 4294967295 := rfl
        have HGK := hide (unhide HG 6)
        rw [show grM 6 = 4294967295 from rfl] at HGK
        by_cases hv : v ≤ 4294967295
        all_goals (
          cases dec <;> cases u <;> cases l
          all_goals (
            go_wp2_with (go_at_call 111; refine (unhide HGK _).mono ?_; rintro e w' ⟨rfl, hw'⟩; obtain rfl := hw'.symm)
            first
              | (go_ret; exact ⟨by rw [unhide HK]; simp [lfM, hg, hv], unhide HB2⟩)
              | (go_roundg (n + 1)
                 case measure => omega
                 case rel => exact ⟨n, 6 + 1, rfl, by omega, by omega, rfl, rfl, by rw [Hid, unhide HK]; first | (simp [lfM, hg, hv]; done) | (simp [lfM, hg]; intro h; exfalso; omega)⟩)))
      · have hg : grM 7 = 9223372036854775807 := rfl
        have HGK := hide (unhide HG 7)
        rw [show grM 7 = 9223372036854775807 from rfl] at HGK
        by_cases hv : v ≤ 9223372036854775807
        all_goals (
          cases dec <;> cases u <;> cases l
          all_goals (
            go_wp2_with (go_at_call 111; refine (unhide HGK _).mono ?_; rintro e w' ⟨rfl, hw'⟩; obtain rfl := hw'.symm)
            first
              | (go_ret; exact ⟨by rw [unhide HK]; simp [lfM, hg, hv], unhide HB2⟩)
              | (go_roundg (n + 1)
                 case measure => omega
                 case rel => exact ⟨n, 7 + 1, rfl, by omega, by omega, rfl, rfl, by rw [Hid, unhide HK]; first | (simp [lfM, hg, hv]; done) | (simp [lfM, hg]; intro h; exfalso; omega)⟩)))
      · have hg : grM 8 = 18446744073709551615 := rfl
        have HGK := hide (unhide HG 8)
        rw [show grM 8 = 18446744073709551615 from rfl] at HGK
        by_cases hv : v ≤ 18446744073709551615
        all_goals (
          cases dec <;> cases u <;> cases l
          all_goals (
            go_wp2_with (go_at_call 111; refine (unhide HGK _).mono ?_; rintro e w' ⟨rfl, hw'⟩; obtain rfl := hw'.symm)
            first
              | (go_ret; exact ⟨by rw [unhide HK]; simp [lfM, hg, hv], unhide HB2⟩)
              | (go_roundg (n + 1)
                 case measure => omega
                 case rel => exact ⟨n, 8 + 1, rfl, by omega, by omega, rfl, rfl, by rw [Hid, unhide HK]; first | (simp [lfM, hg, hv]; done) | (simp [lfM, hg]; intro h; exfalso; omega)⟩)))
end Go.Proofs.YtmpkgjonbjpohaaGreatDoor
namespace Go.Proofs.YtmpkgjonbjpohaaGreatDoor
open Go Go.RowKit
set_option linter.unusedVariables false
set_option linter.unusedSimpArgs false

/-- The word that a number comes to, and whether it has a kind. -/
def numW (s : List UInt8) : Wd × Bool := if (numM s).2 then (⟨3, [], wrap64 (numM s).1.b, kindM (numM s).1.b s, [], 0⟩, kindM (numM s).1.b s != 0) else (zW, false)
set_option maxRecDepth 100000 in
set_option maxHeartbeats 4000000 in
theorem number_any (s : List UInt8) (hs : s.length ≤ 140737488355328) (w : World) (hw : 10 < w.heap.size) (hg : Eg w) (hne : (numM s).2 = true → s ≠ [] ∧ CaOK s 117 85 ∧ CaOK s 108 76) :
    Calls Tryz.prog 150 #[.string ⟨s.toArray⟩] w fun e w' => e = .returned (.tuple #[wdV (numW s).1, .bool (numW s).2]) ∧ Below w.heap.size w w' := by
  have hb0 := below_new w (.cells (wdC zW).toArray 42)
  have HN := hide (Number_any s hs (w.alloc (.cells (wdC zW).toArray 42)) (Nat.lt_of_lt_of_le hw hb0.size) (hg.below hb0 hw))
  have HK := hide (fun h W => kindOf_any (numM s).1.b s W (hne h).1 (hne h).2.1 (hne h).2.2)
  have HB := hide hb0
  have HW : Hid (WBox (w.alloc (.cells (wdC zW).toArray 42)) w.heap.size zW) := WBox.new w zW
  unfold numW evalV at *
  generalize kindM (numM s).1.b s = K at *
  generalize numM s = Z at *
  obtain ⟨⟨b, u⟩, ok⟩ := Z
  simp only at *
  clear hg hw hs hne hb0
  simp only [wdV, wdC, zW, Vl.v] at *
  cases ok
  · simp only [Bool.false_eq_true, if_false] at *
    go_enter Tryz.func150, Tryz.ntmps150
    go_upto_region 2 with (go_at_call 164; refine (unhide HN).mono ?_; rintro e W1 ⟨rfl, hb1⟩)
    have q := (unhide HW).below hb1 (by simp)
    have QB := hide ((unhide HB).trans (hb1.mono (unhide HB).size))
    have z0 := WBox.frozen q 0
    have z1 := WBox.frozen q 1
    have z2 := WBox.frozen q 2
    have z3 := WBox.frozen q 3
    have z4 := WBox.frozen q 4
    have z5 := WBox.frozen q 5
    obtain ⟨y0, y1, y2, y3, y4, y5⟩ := WBox.six q
    have Q := hide q
    clear q hb1 HN HK HB HW
    go_wp2
    refine bodyPost_ret (res_wt (f := Tryz.f150) rfl rfl (sixw_set (unhide Q) _ _ _ _ _ _) rfl) rfl ⟨rfl, below_put6 (unhide QB) (Nat.le_refl _) _ _ _ _ _ _⟩
  · simp only [if_true] at *
    go_enter Tryz.func150, Tryz.ntmps150
    go_upto_region 4 with (go_at_call 164; refine (unhide HN).mono ?_; rintro e W1 ⟨rfl, hb1⟩)
    go_upto_region 5 with (go_at_call 165; refine (unhide HK trivial _).mono ?_; rintro e W2 ⟨rfl, hb2⟩)
    have q := ((unhide HW).below hb1 (by simp)).below hb2 (Nat.lt_of_lt_of_le (by simp) hb1.size)
    have QB := hide (((unhide HB).trans (hb1.mono (unhide HB).size)).trans (hb2.mono (Nat.le_trans (unhide HB).size hb1.size)))
    have z0 := WBox.frozen q 0
    have z1 := WBox.frozen q 1
    have z2 := WBox.frozen q 2
    have z3 := WBox.frozen q 3
    have z4 := WBox.frozen q 4
    have z5 := WBox.frozen q 5
    obtain ⟨y0, y1, y2, y3, y4, y5⟩ := WBox.six q
    have Q := hide q
    clear q hb1 hb2 HN HK HB HW
    go_wp2
    refine bodyPost_ret (res_wt (f := Tryz.f150) rfl rfl (sixw_set (unhide Q) _ _ _ _ _ _) rfl) rfl ⟨rfl, below_put6 (unhide QB) (Nat.le_refl _) _ _ _ _ _ _⟩
end Go.Proofs.YtmpkgjonbjpohaaGreatDoor
namespace Go.Proofs
open Go.Shelf
shelf_lay Lays.n169 Nm 169 at Tryz as Tryz.lays169
theorem Tryz.Builder_Extra_169 : Builder.Extra Tryz.prog Tryz.lays169_ren := {
  sizeBuilder := by kernel_rfl
  liesBuilder := by kernel_rfl
  t5 := Tryz.underlying5
  a5 := Tryz.isAgg5
  z5 := Tryz.sizeOf5
  v5 := Tryz.zeroValue5
  infoByte := by kernel_rfl
  cellsByte := by kernel_rfl
  sizeByte := by kernel_rfl
  neB5 := by decide }
open Go.RowKit in
theorem Tryz.Builder_String_any_k (B b : Nat) (l : List UInt8) (w : World) (h : Lib.IsBuilderF 178 5 B b (Lib.byteCells l) w) (hBw : B ≤ w.heap.size) :
    Calls Tryz.prog 149 #[.pointer (some ⟨b, 0, none⟩)] w fun e w' => e = .returned (.string ⟨l.toArray⟩) ∧ (Lib.IsBuilderF 178 5 B b (Lib.byteCells l) w' ∧ Below B w w' ∧ Lib.OthersKept 5 (some b) w w') := Any.Builder_String_any_k Tryz.lays169 Tryz.Builder_Extra_169 B b l w h hBw
def Tryz.lays166_ren : Go.Shelf.Ren := ⟨fun | 166 => 148 | 240 => 163 | 276 => 175 | n => n, fun | 0 => 0 | 3 => 3 | 4 => 4 | 9 => 9 | 20 => 20 | 37 => 176 | 70 => 175 | 72 => 178 | 75 => 182 | 164 => 219 | 5 => 5 | 80 => 105 | n => n, fun | n => n⟩
theorem Tryz.lays166 : Go.Proofs.Lays.n166 Tryz.prog Tryz.lays166_ren := {
  mixed := by kernel_rfl
  f166 := Tryz.func148.trans (congrArg some (by kernel_rfl))
  f240 := Tryz.func163.trans (congrArg some (by kernel_rfl))
  f276 := Tryz.func175.trans (congrArg some (by kernel_rfl))
  t0 := Tryz.underlying0
  a0 := Tryz.isAgg0
  z0 := Tryz.sizeOf0
  v0 := Tryz.zeroValue0
  t3 := Tryz.underlying3
  a3 := Tryz.isAgg3
  z3 := Tryz.sizeOf3
  v3 := Tryz.zeroValue3
  t4 := Tryz.underlying4
  a4 := Tryz.isAgg4
  z4 := Tryz.sizeOf4
  v4 := Tryz.zeroValue4
  t9 := Tryz.underlying9
  a9 := Tryz.isAgg9
  z9 := Tryz.sizeOf9
  v9 := Tryz.zeroValue9
  t20 := Tryz.underlying20
  a20 := Tryz.isAgg20
  z20 := Tryz.sizeOf20
  v20 := Tryz.zeroValue20
  t37 := Tryz.underlying176
  a37 := Tryz.isAgg176
  z37 := Tryz.sizeOf176
  v37 := Tryz.zeroValue176
  t70 := Tryz.underlying175
  a70 := Tryz.isAgg175
  z70 := Tryz.sizeOf175
  v70 := Tryz.zeroValue175
  t72 := Tryz.underlying178
  a72 := Tryz.isAgg178
  z72 := Tryz.sizeOf178
  v72 := Tryz.zeroValue178
  t75 := Tryz.underlying182
  a75 := Tryz.isAgg182
  z75 := Tryz.sizeOf182
  v75 := Tryz.zeroValue182
  t164 := Tryz.underlying219
  a164 := Tryz.isAgg219
  z164 := Tryz.sizeOf219
  v164 := Tryz.zeroValue219 }
theorem Tryz.Builder_Extra_166 : Builder.Extra Tryz.prog Tryz.lays166_ren := {
  sizeBuilder := by kernel_rfl
  liesBuilder := by kernel_rfl
  t5 := Tryz.underlying5
  a5 := Tryz.isAgg5
  z5 := Tryz.sizeOf5
  v5 := Tryz.zeroValue5
  infoByte := by kernel_rfl
  cellsByte := by kernel_rfl
  sizeByte := by kernel_rfl
  neB5 := by decide }
open Go.RowKit in
theorem Tryz.Builder_WriteString_k (B b : Nat) (bs : List Value) (s : ByteArray) (w : World) (h : Lib.IsBuilderF 178 5 B b bs w) (hlen : bs.length + s.size ≤ 140737488355328) (hBw : B ≤ w.heap.size) :
    Calls Tryz.prog 148 #[.pointer (some ⟨b, 0, none⟩), .string s] w fun e w' => e = .returned (.tuple #[.int .i64 s.size, .nilIface]) ∧ (Lib.BuilderAtF 178 5 B b (.pointer (some ⟨b, 0, none⟩)) (bs ++ Lib.strCells s) w' ∧ Below B w w' ∧ Lib.OthersKept 5 (some b) w w') :=
  Any.Builder_WriteString_k Tryz.lays166 Tryz.Builder_Extra_166 B b bs s w h hlen hBw
def Tryz.lays167_ren : Go.Shelf.Ren := ⟨fun | 167 => 162 | 240 => 163 | 276 => 175 | n => n, fun | 0 => 0 | 4 => 4 | 5 => 5 | 9 => 9 | 20 => 20 | 37 => 176 | 70 => 175 | 72 => 178 | 75 => 182 | 164 => 219 | 80 => 105 | n => n, fun | n => n⟩
theorem Tryz.lays167 : Go.Proofs.Lays.n167 Tryz.prog Tryz.lays167_ren := {
  mixed := by kernel_rfl
  f167 := Tryz.func162.trans (congrArg some (by kernel_rfl))
  f240 := Tryz.func163.trans (congrArg some (by kernel_rfl))
  f276 := Tryz.func175.trans (congrArg some (by kernel_rfl))
  t0 := Tryz.underlying0
  a0 := Tryz.isAgg0
  z0 := Tryz.sizeOf0
  v0 := Tryz.zeroValue0
  t4 := Tryz.underlying4
  a4 := Tryz.isAgg4
  z4 := Tryz.sizeOf4
  v4 := Tryz.zeroValue4
  t5 := Tryz.underlying5
  a5 := Tryz.isAgg5
  z5 := Tryz.sizeOf5
  v5 := Tryz.zeroValue5
  t9 := Tryz.underlying9
  a9 := Tryz.isAgg9
  z9 := Tryz.sizeOf9
  v9 := Tryz.zeroValue9
  t20 := Tryz.underlying20
  a20 := Tryz.isAgg20
  z20 := Tryz.sizeOf20
  v20 := Tryz.zeroValue20
  t37 := Tryz.underlying176
  a37 := Tryz.isAgg176
  z37 := Tryz.sizeOf176
  v37 := Tryz.zeroValue176
  t70 := Tryz.underlying175
  a70 := Tryz.isAgg175
  z70 := Tryz.sizeOf175
  v70 := Tryz.zeroValue175
  t72 := Tryz.underlying178
  a72 := Tryz.isAgg178
  z72 := Tryz.sizeOf178
  v72 := Tryz.zeroValue178
  t75 := Tryz.underlying182
  a75 := Tryz.isAgg182
  z75 := Tryz.sizeOf182
  v75 := Tryz.zeroValue182
  t164 := Tryz.underlying219
  a164 := Tryz.isAgg219
  z164 := Tryz.sizeOf219
  v164 := Tryz.zeroValue219 }
theorem Tryz.Builder_Extra_167 : Builder.Extra Tryz.prog Tryz.lays167_ren := {
  sizeBuilder := by kernel_rfl
  liesBuilder := by kernel_rfl
  t5 := Tryz.underlying5
  a5 := Tryz.isAgg5
  z5 := Tryz.sizeOf5
  v5 := Tryz.zeroValue5
  infoByte := by kernel_rfl
  cellsByte := by kernel_rfl
  sizeByte := by kernel_rfl
  neB5 := by decide }
open Go.RowKit in
theorem Tryz.Builder_WriteByte_k (B b : Nat) (bs : List Value) (c : Int) (w : World) (h : Lib.IsBuilderF 178 5 B b bs w) (hlen : bs.length + 1 ≤ 140737488355328) (hBw : B ≤ w.heap.size) :
    Calls Tryz.prog 162 #[.pointer (some ⟨b, 0, none⟩), .int .u8 c] w fun e w' => e = .returned .nilIface ∧ (Lib.BuilderAtF 178 5 B b (.pointer (some ⟨b, 0, none⟩)) (bs ++ [.int .u8 c]) w' ∧ Below B w w' ∧ Lib.OthersKept 5 (some b) w w') :=
  Any.Builder_WriteByte_k Tryz.lays167 Tryz.Builder_Extra_167 B b bs c w h hlen hBw
shelf_lay Lays.n170 Nm 170 at Tryz as Tryz.lays170
open Go.RowKit in
theorem Tryz.Builder_Len_f (B b : Nat) (bs : List Value) (w : World) (h : Lib.IsBuilderF 178 5 B b bs w) :
    Calls Tryz.prog 147 #[.pointer (some ⟨b, 0, none⟩)] w fun e w' => e = .returned (.int .i64 bs.length) ∧ w' = w :=
  Any.Builder_Len_f Tryz.lays170 B b bs w h
shelf_lay Lays.n137 Nm 137 at Tryz as Tryz.lays137
open Go.RowKit in
theorem Tryz.strings_IndexByte (s : ByteArray) (c : Int) (w : World) :
    Calls Tryz.prog 197 #[.string s, .int .u8 c] w fun e w' => e = .returned (.int .i64 (Lib.indexByte s.data.toList c.toNat.toUInt8)) ∧ w' = w :=
  Any.strings_IndexByte Tryz.lays137 s c w
end Go.Proofs
namespace Go.Proofs.YtmpkgjonbjpohaaGreatDoor
open Go Go.RowKit
set_option linter.unusedVariables false
set_option linter.unusedSimpArgs false

def hexL : List UInt8 := [48, 49, 50, 51, 52, 53, 54, 55, 56, 57, 97, 98, 99, 100, 101, 102, 65, 66, 67, 68, 69, 70]
def octL : List UInt8 := [48, 49, 50, 51, 52, 53, 54, 55]
theorem hexL_is (c : UInt8) : decide (0 ≤ Lib.indexByte hexL c) = digM (c.toNat : Int) 16 := by
  have h : ∀ n : Fin 256, decide (0 ≤ Lib.indexByte hexL (UInt8.ofNat n.1)) = digM ((UInt8.ofNat n.1).toNat : Int) 16 := by decide +kernel
  have := h ⟨c.toNat, c.toNat_lt⟩
  simpa only [UInt8.ofNat_toNat] using this
theorem octL_is (c : UInt8) : decide (0 ≤ Lib.indexByte octL c) = digM (c.toNat : Int) 8 := by
  have h : ∀ n : Fin 256, decide (0 ≤ Lib.indexByte octL (UInt8.ofNat n.1)) = digM ((UInt8.ofNat n.1).toNat : Int) 8 := by decide +kernel
  have := h ⟨c.toNat, c.toNat_lt⟩
  simpa only [UInt8.ofNat_toNat] using this
theorem digN_drop (b : Int) : ∀ (l : List UInt8) (k : Nat) (h : k < l.length), digN b (l.drop k) = if digM (l[k].toNat : Int) b then digN b (l.drop (k + 1)) + 1 else 0 := by
  intro l k h
  rw [List.drop_eq_getElem_cons h, digN]
set_option maxRecDepth 100000 in
set_option maxHeartbeats 4000000 in
theorem digits_of (b : Int) (L : List UInt8) (hL : ∀ c : UInt8, decide (0 ≤ Lib.indexByte L c) = digM (c.toNat : Int) b) (s : List UInt8) (hs : s.length ≤ 140737488355328) (w : World) :
    Calls Tryz.prog 187 #[.string ⟨s.toArray⟩, .string ⟨L.toArray⟩] w fun e w' => e = .returned (.int .i64 (digN b s : Nat)) ∧ w' = w := by
  obtain ⟨B, hB⟩ : ∃ B : ByteArray, (⟨s.toArray⟩ : ByteArray) = B := ⟨_, rfl⟩
  have hsz : B.size = s.length := by rw [← hB, len_toArray]
  have hat : ∀ (k : Nat) (h : k < B.size), B[k] = s[k]'(by omega) := fun k h => by subst hB; rfl
  have HIX : Hid (∀ (c : UInt8) (W : World), Calls Tryz.prog 197 #[.string ⟨L.toArray⟩, .int .u8 (c.toNat : Int)] W fun e w' => e = .returned (.int .i64 (Lib.indexByte L c)) ∧ w' = W) := fun c W => by
    have := Tryz.strings_IndexByte ⟨L.toArray⟩ (c.toNat : Int) W
    simpa using this
  have HL := hide hL
  have H0 : Hid (digN b s = 0 + digN b (s.drop 0)) := by rw [Hid]; simp
  rw [hB]
  have HAT := hide hat
  have HD := hide (digN_drop b s)
  have HE : Hid (∀ k, s.length ≤ k → digN b (s.drop k) = 0) := fun k hk => by rw [List.drop_eq_nil_of_le hk]; rfl
  generalize digN b s = D at *
  clear hL hat hB
  go_enter Tryz.func187, Tryz.ntmps187
  go_wp2
  go_loopg [5] s.length (fun gk i wr => ∃ k : Nat, gk = s.length - k ∧ i = .int .i64 (k : Int) ∧ k ≤ s.length ∧ wr = w ∧ Hid (D = k + digN b (s.drop k)))
  case atStart => exact ⟨0, rfl, rfl, Nat.zero_le _, rfl, unhide H0⟩
  case round =>
    obtain ⟨k, rfl, rfl, hk, rfl, hD⟩ := hrel
    clear H0
    by_cases hlt : k < s.length
    · have i1 : (k : Int) < (B.size : Int) := by omega
      have i2 : k < B.size := by omega
      have hbk := unhide HAT k i2
      have hdk := unhide HD k hlt
      have hix := unhide HIX (B[k])
      have hq := unhide HL (B[k])
      rw [← hbk] at hdk
      have HDK := hide hdk
      have HIK := hide hix
      clear hdk hix hbk
      cases hm : digM (B[k].toNat : Int) b
      · rw [hm] at hq
        have hq' : ¬ 0 ≤ Lib.indexByte L B[k] := of_decide_eq_false hq
        generalize Lib.indexByte L B[k] = Z at *
        have HM := hide hm
        clear hq hm
        go_wp2_with (go_at_call 197; refine (unhide HIK _).mono ?_; rintro e w' ⟨rfl, hw'⟩; obtain rfl := hw'.symm)
        go_ret
        refine ⟨?_, rfl⟩
        have e1 := unhide hD
        rw [unhide HDK, unhide HM] at e1
        simp at e1
        rw [e1]; rfl
      · rw [hm] at hq
        have hq' : 0 ≤ Lib.indexByte L B[k] := of_decide_eq_true hq
        generalize Lib.indexByte L B[k] = Z at *
        have HM := hide hm
        clear hq hm
        go_wp2_with (go_at_call 197; refine (unhide HIK _).mono ?_; rintro e w' ⟨rfl, hw'⟩; obtain rfl := hw'.symm)
        go_roundg (s.length - (k + 1))
        case measure => omega
        case rel =>
          refine ⟨k + 1, rfl, by go_num, by omega, rfl, ?_⟩
          have e1 := unhide hD
          rw [unhide HDK, unhide HM] at e1
          rw [Hid, e1]
          simp
          omega
    · have i1 : ¬ (k : Int) < (B.size : Int) := by omega
      go_wp2
      go_ret
      refine ⟨?_, rfl⟩
      have e1 := unhide hD
      rw [unhide HE k (by omega)] at e1
      rw [e1]; rfl
/-- How many bytes an escape has, with the backslash. -/
def escN : List UInt8 → Nat
  | _ :: c :: r => if c == 120 then 2 + digN 16 r else 1 + max 1 (digN 8 ((c :: r).take 3))
  | _ => 0
set_option maxRecDepth 100000 in
set_option maxHeartbeats 4000000 in
theorem esz_hex (B : ByteArray) (h2 : 2 ≤ B.size) (hm : B.size ≤ 140737488355328) (w : World) (hx : ((B[1].toNat : Int) == 120) = true) (D : Nat) (hD : D ≤ 140737488355328)
    (H : Calls Tryz.prog 187 #[.string (B.extract 2 B.size), .string ⟨#[48, 49, 50, 51, 52, 53, 54, 55, 56, 57, 97, 98, 99, 100, 101, 102, 65, 66, 67, 68, 69, 70]⟩] w fun e w' => e = .returned (.int .i64 (D : Nat)) ∧ w' = w) :
    Calls Tryz.prog 174 #[.string B] w fun e w' => e = .returned (.int .i64 ((2 + D : Nat) : Int)) ∧ w' = w := by
  have HH := hide H
  have i1 : (1 : Int) < (B.size : Int) := by omega
  have i2 : (2 : Int) ≤ (B.size : Int) := by omega
  have i3 : 1 < B.size := by omega
  clear H
  go_enter Tryz.func174, Tryz.ntmps174
  go_wp2_with (go_at_call 187; refine (unhide HH).mono ?_; rintro e w' ⟨rfl, hw'⟩; obtain rfl := hw'.symm)
  go_ret
  exact ⟨by simp, rfl⟩
set_option maxRecDepth 100000 in
set_option maxHeartbeats 4000000 in
theorem esz_oct (B : ByteArray) (h2 : 2 ≤ B.size) (hm : B.size ≤ 140737488355328) (w : World) (hx : ((B[1].toNat : Int) == 120) = false) (D : Nat) (hD : D ≤ 3)
    (H : Calls Tryz.prog 187 #[.string (B.extract 1 (min B.size 4)), .string ⟨#[48, 49, 50, 51, 52, 53, 54, 55]⟩] w fun e w' => e = .returned (.int .i64 (D : Nat)) ∧ w' = w) :
    Calls Tryz.prog 174 #[.string B] w fun e w' => e = .returned (.int .i64 ((1 + max 1 D : Nat) : Int)) ∧ w' = w := by
  have i1 : (1 : Int) < (B.size : Int) := by omega
  have i3 : 1 < B.size := by omega
  have hDc : D = 0 ∨ D = 1 ∨ D = 2 ∨ D = 3 := by omega
  by_cases h4 : B.size ≤ 4
  · rw [Nat.min_eq_left h4] at H
    have i4 : min (B.size : Int) 4 = (B.size : Int) := by omega
    have hsl : (Instr.slice 9 (.string B) (some (.int .i64 1)) (some (.int .i64 (B.size : Int))) none).run Tryz.prog w = .ok (.string (B.extract 1 B.size)) w := by
      have := run_slice_string (P := Tryz.prog) (w := w) 9 B .i64 .i64 1 (B.size : Int) Tryz.underlying9 (by omega) (by omega) (by omega)
      simpa using this
    have HH := hide H
    clear H
    rcases hDc with rfl | rfl | rfl | rfl
    all_goals (
      go_enter Tryz.func174, Tryz.ntmps174
      go_wp2_with (go_at_call 187; refine (unhide HH).mono ?_; rintro e w' ⟨rfl, hw'⟩; obtain rfl := hw'.symm)
      go_ret
      exact ⟨rfl, rfl⟩)
  · rw [Nat.min_eq_right (by omega)] at H
    have i4 : min (B.size : Int) 4 = 4 := by omega
    have i5 : (4 : Int) ≤ (B.size : Int) := by omega
    have HH := hide H
    clear H
    rcases hDc with rfl | rfl | rfl | rfl
    all_goals (
      go_enter Tryz.func174, Tryz.ntmps174
      go_wp2_with (go_at_call 187; refine (unhide HH).mono ?_; rintro e w' ⟨rfl, hw'⟩; obtain rfl := hw'.symm)
      go_ret
      exact ⟨rfl, rfl⟩)
theorem escapeSize_any (s : List UInt8) (hs : s.length ≤ 140737488355328) (h2 : 2 ≤ s.length) (w : World) :
    Calls Tryz.prog 174 #[.string ⟨s.toArray⟩] w fun e w' => e = .returned (.int .i64 (escN s : Nat)) ∧ w' = w := by
  match s, h2 with
  | a :: c :: r, h2 =>
    have hc : ((⟨(a :: c :: r).toArray⟩ : ByteArray)[1]'(by rw [len_toArray]; exact h2)) = c := rfl
    have hx2 : (⟨(a :: c :: r).toArray⟩ : ByteArray).extract 2 (⟨(a :: c :: r).toArray⟩ : ByteArray).size = ⟨r.toArray⟩ := by rw [ext_list, len_toArray]; simp
    have hx4 : (⟨(a :: c :: r).toArray⟩ : ByteArray).extract 1 (min (⟨(a :: c :: r).toArray⟩ : ByteArray).size 4) = ⟨((c :: r).take 3).toArray⟩ := by
      rw [ext_list, len_toArray]
      congr 2
      rcases Nat.le_total (a :: c :: r).length 4 with h | h
      · rw [Nat.min_eq_left h, List.take_of_length_le (Nat.le_refl _), List.take_of_length_le (by simp at h ⊢; omega)]; rfl
      · rw [Nat.min_eq_right h]; rfl
    have H16 := digits_of 16 hexL hexL_is r (by simp at hs; omega) w
    have H8 := digits_of 8 octL octL_is ((c :: r).take 3) (by simp at hs ⊢; omega) w
    rw [← hx2] at H16
    rw [← hx4] at H8
    have hd3 := digN_le 8 ((c :: r).take 3)
    have hdr := digN_le 16 r
    have e1 := byte_eq c 120
    have hsz := len_toArray (a :: c :: r)
    rw [escN]
    cases hq : c == 120
    · simp only [Bool.false_eq_true, if_false]
      refine esz_oct _ (by rw [hsz]; exact h2) (by rw [hsz]; exact hs) w (by rw [hc]; exact e1.symm.trans hq) _ (Nat.le_trans hd3 (by simp; omega)) H8
    · simp only [if_true]
      refine esz_hex _ (by rw [hsz]; exact h2) (by rw [hsz]; exact hs) w (by rw [hc]; exact e1.symm.trans hq) _ (by simp at hs; omega) H16
end Go.Proofs.YtmpkgjonbjpohaaGreatDoor
namespace Go.Proofs.YtmpkgjonbjpohaaGreatDoor
open Go Go.RowKit
set_option linter.unusedVariables false
set_option linter.unusedSimpArgs false

/-- The byte that the inside of a text begins with, of how many bytes it comes, and whether it is one. -/
def fbM : List UInt8 → UInt8 × Nat × Bool
  | [] => (0, 0, false)
  | c :: r => if c == 92 then
      (if (rdM (39 :: ((c :: r).take (escN (c :: r)) ++ [39]))).2 then UInt8.ofNat (rdM (39 :: ((c :: r).take (escN (c :: r)) ++ [39]))).1.toNat else 0, escN (c :: r), (rdM (39 :: ((c :: r).take (escN (c :: r)) ++ [39]))).2)
    else (c, 1, true)
theorem escN_le : ∀ (s : List UInt8), 2 ≤ s.length → escN s ≤ s.length ∧ 2 ≤ escN s
  | a :: c :: r, _ => by
    rw [escN]
    have h1 := digN_le 16 r
    have h2 := digN_le 8 ((c :: r).take 3)
    have h3 : ((c :: r).take 3).length ≤ (c :: r).length := by rw [List.length_take]; omega
    split
    · simp; omega
    · simp at *; omega
theorem u8_back (z : Int) (h0 : 0 ≤ z) (h1 : z < 256) : IntKind.u8.wrap (wrap64 (IntKind.i8.wrap z)) = z := by
  have h : ∀ n : Fin 256, IntKind.u8.wrap (wrap64 (IntKind.i8.wrap (n.1 : Int))) = (n.1 : Int) := by decide +kernel
  have := h ⟨z.toNat, by omega⟩
  simp only at this
  rw [Int.toNat_of_nonneg h0] at this
  exact this
theorem ofNat_back (z : Int) (h0 : 0 ≤ z) (h1 : z < 256) : ((UInt8.ofNat z.toNat).toNat : Int) = z := by
  rw [UInt8.toNat_ofNat_of_lt' (by show z.toNat < 256; omega)]; omega
set_option maxRecDepth 100000 in
set_option maxHeartbeats 4000000 in
theorem fb_plain (B : ByteArray) (h0 : 0 < B.size) (w : World) (h1 : ((B[0].toNat : Int) != 92) = true) :
    Calls Tryz.prog 161 #[.string B] w fun e w' => e = .returned (.tuple #[.int .u8 (B[0].toNat : Int), .int .i64 1, .bool true]) ∧ w' = w := by
  go_enter Tryz.func161, Tryz.ntmps161
  go_wp2
  go_ret3
  exact ⟨rfl, rfl⟩
set_option maxRecDepth 100000 in
set_option maxHeartbeats 4000000 in
theorem fb_esc (B : ByteArray) (h0 : 0 < B.size) (hm : B.size ≤ 140737488355320) (w : World) (h1 : ((B[0].toNat : Int) != 92) = false) (n : Nat) (hn : n ≤ B.size) (Z : Int × Bool)
    (HE : Calls Tryz.prog 174 #[.string B] w fun e w' => e = .returned (.int .i64 (n : Nat)) ∧ w' = w)
    (HC : Calls Tryz.prog 151 #[.string ((⟨#[39]⟩ : ByteArray) ++ B.extract 0 n ++ ⟨#[39]⟩)] w fun e w' => e = .returned (charV Z) ∧ Below w.heap.size w w') :
    Calls Tryz.prog 161 #[.string B] w fun e w' => e = .returned (.tuple #[.int .u8 (if Z.2 then IntKind.u8.wrap (wrap64 (IntKind.i8.wrap Z.1)) else 0), .int .i64 n, .bool Z.2]) ∧ Below w.heap.size w w' := by
  have hE := hide HE
  have hC := hide HC
  have hsl : (Instr.slice 9 (.string B) none (some (.int .i64 (n : Int))) none).run Tryz.prog w = .ok (.string (B.extract 0 n)) w := by
    rw [run_slice_string_to_if (P := Tryz.prog) (w := w) 9 B .i64 _ Tryz.underlying9, if_pos (by omega)]; rfl
  have hxs : (B.extract 0 n).size = n := by rw [ByteArray.size_extract]; omega
  generalize B.extract 0 n = X at *
  have hs1 : (Op.stringOp .add ⟨#[39]⟩ X).run Tryz.prog w = .ok (.string (⟨#[39]⟩ ++ X)) w := run_string_add_sum w _ _ (by rw [hxs]; show 1 + n ≤ _; omega)
  have hz2 : ((⟨#[39]⟩ : ByteArray) ++ X).size = 1 + n := by rw [ByteArray.size_append, hxs]; rfl
  generalize (⟨#[39]⟩ : ByteArray) ++ X = Y at *
  have hs2 : (Op.stringOp .add Y ⟨#[39]⟩).run Tryz.prog w = .ok (.string (Y ++ ⟨#[39]⟩)) w := run_string_add_sum w _ _ (by rw [hz2]; show 1 + n + 1 ≤ _; omega)
  generalize Y ++ (⟨#[39]⟩ : ByteArray) = V at *
  clear HE HC hxs hz2
  obtain ⟨z, ok⟩ := Z
  simp only [charV] at *
  cases ok
  · simp only [Bool.false_eq_true, if_false] at *
    go_enter Tryz.func161, Tryz.ntmps161
    go_wp2_with (first
      | (go_at_call 174; refine (unhide hE).mono ?_; rintro e w' ⟨rfl, hw'⟩; obtain rfl := hw'.symm)
      | (go_at_call 151; refine (unhide hC).mono ?_; rintro e W1 ⟨rfl, hb1⟩))
    go_ret3
    exact ⟨rfl, hb1⟩
  · simp only [if_true] at *
    go_enter Tryz.func161, Tryz.ntmps161
    go_wp2_with (first
      | (go_at_call 174; refine (unhide hE).mono ?_; rintro e w' ⟨rfl, hw'⟩; obtain rfl := hw'.symm)
      | (go_at_call 151; refine (unhide hC).mono ?_; rintro e W1 ⟨rfl, hb1⟩))
    go_ret3
    exact ⟨rfl, hb1⟩
theorem firstByte_any (s : List UInt8) (hs : s.length ≤ 140737488355320) (hne : s ≠ []) (hb : s.head? = some 92 → 2 ≤ s.length) (w : World) (hw : 10 < w.heap.size) (hg : Eg w) :
    Calls Tryz.prog 161 #[.string ⟨s.toArray⟩] w fun e w' => e = .returned (.tuple #[.int .u8 ((fbM s).1.toNat : Int), .int .i64 ((fbM s).2.1 : Nat), .bool (fbM s).2.2]) ∧ Below w.heap.size w w' := by
  match s, hne with
  | c :: r, _ =>
    have hl := len_toArray (c :: r)
    have hc0 : ((⟨(c :: r).toArray⟩ : ByteArray)[0]'(by rw [hl]; simp)) = c := rfl
    have e1 := byte_eq c 92
    have e2 : ((92 : UInt8).toNat : Int) = 92 := rfl
    rw [e2] at e1
    rw [fbM]
    cases hq : c == 92
    · simp only [Bool.false_eq_true, if_false]
      have := fb_plain ⟨(c :: r).toArray⟩ (by rw [hl]; simp) w (by rw [hc0, bne, ← e1, hq]; rfl)
      rw [hc0] at this
      exact this.mono fun e w' ⟨h1, h2⟩ => ⟨h1, h2 ▸ Below.refl _ _⟩
    · simp only [if_true]
      have hc : c = 92 := by simpa using hq
      have h2 : 2 ≤ (c :: r).length := hb (by rw [hc]; rfl)
      have hle := escN_le _ h2
      have HE := escapeSize_any (c :: r) (by omega) h2 w
      have hr := rdM_range (39 :: ((c :: r).take (escN (c :: r)) ++ [39]))
      have HC := Char_any (39 :: ((c :: r).take (escN (c :: r)) ++ [39])) (by simp; omega) w hw hg
      have hx : (⟨#[39]⟩ : ByteArray) ++ (⟨(c :: r).toArray⟩ : ByteArray).extract 0 (escN (c :: r)) ++ ⟨#[39]⟩ = ⟨(39 :: ((c :: r).take (escN (c :: r)) ++ [39])).toArray⟩ := by
        rw [ext_list]
        apply ByteArray.ext
        simp [ByteArray.data_append]
      rw [← hx] at HC
      have := fb_esc ⟨(c :: r).toArray⟩ (by rw [hl]; simp) (by rw [hl]; exact hs) w (by rw [hc0, bne, ← e1, hq]; rfl) (escN (c :: r)) (by rw [hl]; exact hle.1) _ HE HC
      refine this.mono fun e w' ⟨h1, h2⟩ => ⟨?_, h2⟩
      rw [h1]
      generalize rdM (39 :: ((c :: r).take (escN (c :: r)) ++ [39])) = Z at *
      obtain ⟨z, ok⟩ := Z
      cases ok
      · rfl
      · simp only [if_true]
        rw [u8_back z hr.1 hr.2, ofNat_back z hr.1 hr.2]
/-- The bytes that the inside of a text stands for, and whether they are some. -/
def unM : Nat → List UInt8 → List UInt8 × Bool
  | 0, s => ([], s.isEmpty)
  | f + 1, s => match s with
    | [] => ([], true)
    | c :: r => if (fbM (c :: r)).2.2 then ((fbM (c :: r)).1 :: (unM f ((c :: r).drop (fbM (c :: r)).2.1)).1, (unM f ((c :: r).drop (fbM (c :: r)).2.1)).2) else ([], false)
/-- No backslash stands at the end but one that another one escapes. -/
def wfQ : Bool → List UInt8 → Bool
  | e, [] => !e
  | true, _ :: r => wfQ false r
  | false, c :: r => wfQ (c == 92) r
theorem fbM_pos (s : List UInt8) (hne : s ≠ []) (hb : s.head? = some 92 → 2 ≤ s.length) : 1 ≤ (fbM s).2.1 ∧ (fbM s).2.1 ≤ s.length := by
  match s, hne with
  | c :: r, _ =>
    rw [fbM]
    split
    · rename_i h
      have hc : c = 92 := by simpa using h
      have := escN_le _ (hb (by rw [hc]; rfl))
      simp only
      omega
    · simp
theorem wfQ_head {s : List UInt8} (h : wfQ false s = true) : s.head? = some 92 → 2 ≤ s.length := by
  intro h1
  match s, h1 with
  | c :: r, h1 =>
    simp at h1
    subst h1
    match r, h with
    | [], h => simp [wfQ] at h
    | _ :: _, _ => simp
theorem wfQ_digs (b : Int) (hb : b = 16 ∨ b = 8) : ∀ (s : List UInt8) (k : Nat), k ≤ digN b s → wfQ false s = true → wfQ false (s.drop k) = true
  | s, 0, _, h => by simpa using h
  | [], k + 1, h1, h => by simpa using h
  | c :: r, k + 1, h1, h => by
    rw [digN] at h1
    split at h1
    · rename_i hd
      have hc : (c == 92) = false := by
        cases hq : c == 92
        · rfl
        · have : c = 92 := by simpa using hq
          subst this
          rcases hb with rfl | rfl <;> exact absurd hd (by decide)
      rw [wfQ, hc] at h
      rw [List.drop_succ_cons]
      exact wfQ_digs b hb r k (by omega) h
    · omega
theorem digN_take (b : Int) : ∀ (s : List UInt8) (k : Nat), digN b (s.take k) ≤ digN b s
  | [], k => by simp
  | c :: r, 0 => by simp [digN]
  | c :: r, k + 1 => by
    rw [List.take_succ_cons, digN, digN]
    have := digN_take b r k
    split <;> omega
theorem wfQ_fb (s : List UInt8) (h : wfQ false s = true) (hne : s ≠ []) : wfQ false (s.drop (fbM s).2.1) = true := by
  have hh := wfQ_head h
  match s, hne with
  | c :: r, _ =>
    rw [fbM]
    cases hq : c == 92
    · simp only [Bool.false_eq_true, if_false]
      rw [wfQ, hq] at h
      simpa using h
    · simp only [if_true]
      have hc : c = 92 := by simpa using hq
      rw [wfQ, hq] at h
      match r, h, hh (by rw [hc]; rfl) with
      | d :: r, h, _ =>
        have h2 : wfQ false r = true := h
        rw [escN]
        split
        · rw [Nat.add_comm, List.drop_succ_cons, List.drop_succ_cons]
          exact wfQ_digs 16 (.inl rfl) r _ (Nat.le_refl _) h2
        · rename_i hx
          rw [Nat.add_comm, List.drop_succ_cons]
          have h3 := digN_take 8 (d :: r) 3
          have h4 : digN 8 (d :: r) ≤ 1 + digN 8 r := by rw [digN]; split <;> omega
          generalize digN 8 ((d :: r).take 3) = D at *
          have h5 : max 1 D = (max 1 D - 1) + 1 := by omega
          rw [h5, List.drop_succ_cons]
          exact wfQ_digs 8 (.inr rfl) r _ (by omega) h2
theorem unM_more : ∀ (f g : Nat) (s : List UInt8), s.length ≤ f → s.length ≤ g → wfQ false s = true → unM f s = unM g s
  | 0, 0, s, _, _, _ => rfl
  | 0, g + 1, s, h, _, _ => by
    obtain rfl : s = [] := List.length_eq_zero_iff.1 (by omega)
    rfl
  | f + 1, 0, s, _, h, _ => by
    obtain rfl : s = [] := List.length_eq_zero_iff.1 (by omega)
    rfl
  | f + 1, g + 1, [], _, _, _ => rfl
  | f + 1, g + 1, c :: r, hf, hg, hw => by
    have hp := fbM_pos (c :: r) (by simp) (wfQ_head hw)
    have := unM_more f g ((c :: r).drop (fbM (c :: r)).2.1) (by simp at *; omega) (by simp at *; omega) (wfQ_fb _ hw (by simp))
    rw [unM, unM, this]
end Go.Proofs.YtmpkgjonbjpohaaGreatDoor
namespace Go.Proofs.YtmpkgjonbjpohaaGreatDoor
open Go Go.RowKit
set_option linter.unusedVariables false
set_option linter.unusedSimpArgs false

theorem quL_wf (q : UInt8) (hq : q ≠ 92) : ∀ (e : Bool) (r : List UInt8), 0 < r.length → Tk.quL q e r = r.length → wfQ e (r.take (r.length - 1)) = true ∧ r.getLast? = some q
  | _, [], h, _ => by simp at h
  | true, c :: r, _, h => by
    rw [Tk.quL] at h
    have hp := Tk.up_pos (m := Tk.quL q false r) (by rw [h]; simp)
    have h2 : Tk.quL q false r = r.length := by rw [hp.2] at h; simpa using h
    have ih := quL_wf q hq false r (by omega) h2
    match r, ih, hp with
    | d :: r, ih, _ =>
      refine ⟨?_, by simpa using ih.2⟩
      simpa [wfQ] using ih.1
    | [], _, hp => simp [Tk.quL] at hp
  | false, c :: r, _, h => by
    rw [Tk.quL] at h
    split at h
    · rename_i hc
      have hp := Tk.up_pos (m := Tk.quL q true r) (by rw [h]; simp)
      have h2 : Tk.quL q true r = r.length := by rw [hp.2] at h; simpa using h
      have ih := quL_wf q hq true r (by omega) h2
      match r, ih, hp with
      | d :: r, ih, _ =>
        refine ⟨?_, by simpa using ih.2⟩
        have h3 : wfQ false (c :: (d :: r).take r.length) = true := by rw [wfQ, hc]; simpa using ih.1
        simpa using h3
      | [], _, hp => simp [Tk.quL] at hp
    · rename_i hc
      split at h
      · rename_i hcq
        have : r = [] := List.length_eq_zero_iff.1 (by have h9 : (c :: r).length = r.length + 1 := rfl; omega)
        subst this
        have : c = q := by simpa using hcq
        subst this
        exact ⟨rfl, rfl⟩
      · have hp := Tk.up_pos (m := Tk.quL q false r) (by rw [h]; simp)
        have h2 : Tk.quL q false r = r.length := by rw [hp.2] at h; simpa using h
        have ih := quL_wf q hq false r (by omega) h2
        match r, ih, hp with
        | d :: r, ih, _ =>
          refine ⟨?_, by simpa using ih.2⟩
          have hc' : (c == 92) = false := by simpa using hc
          have h3 : wfQ false (c :: (d :: r).take r.length) = true := by rw [wfQ, hc']; simpa using ih.1
          simpa using h3
        | [], _, hp => simp [Tk.quL] at hp
/-- What a text that is a token alone is. -/
theorem spelt_ms {s : List UInt8} {k : Int} (h : speltM s k = true) : s ≠ [] ∧ Tk.isT s = true ∧ ((Tk.ms s).1 : Int) = k ∧ (Tk.ms s).2 = s.length := by
  unfold speltM at h
  generalize hL : (Tk.lex [(1, s)]).1 = L at h
  match L, h with
  | [t], h =>
    simp only [Bool.and_eq_true, decide_eq_true_eq, beq_iff_eq] at h
    have hm : t ∈ (Tk.lex [(1, s)]).1 := by rw [hL]; simp
    have ha := (Tk.col_mem _ _ _ hm).resolve_left (by simp)
    obtain ⟨s', h1, h2, h3, h4⟩ := Tk.ev_all _ _ _ _ _ ha rfl
    simp only at h3 h4
    have hne := Tk.isT_ne h1
    have ht := Tk.ms_take hne h2
    have hle := Tk.ms_le hne
    have hs : s = s'.take (Tk.ms s').2 := by rw [← h.1]; exact h4
    have hsl : s.length = (Tk.ms s').2 := by rw [hs, List.length_take]; omega
    refine ⟨?_, ?_, ?_, ?_⟩
    · intro e; rw [e] at hsl; simp at hsl; omega
    · have hsn : s ≠ [] := fun e => by rw [e] at hsl; simp at hsl; omega
      have := Tk.isT_swap (u := s) (v := s'.drop (Tk.ms s').2) (v' := []) hsn rfl (by rw [hs, List.take_append_drop]; exact h1)
      simpa using this
    · rw [hs, ht, ← h3]; exact h.2
    · rw [hsl, hs, ht]
theorem spelt_text {s : List UInt8} (h : speltM s 4 = true) : 2 ≤ s.length ∧ wfQ false (innM s) = true ∧ s.head? = some 34 ∧ s.getLast? = some 34 := by
  obtain ⟨hne, _, h1, h2⟩ := spelt_ms h
  match s, hne with
  | c :: r, _ =>
    have hk : (Tk.ms (c :: r)).1 = 4 := by omega
    rw [Tk.ms] at hk h2
    split at hk
    · cases hk
    · split at hk
      · cases hk
      · split at hk
        · cases hk
        · split at hk
          · rename_i g1 g2 g3 g4
            rw [if_neg g1, if_neg g2, if_neg g3, if_pos g4] at h2
            simp only at h2
            have hp := Tk.up_pos (m := Tk.quL 34 false r) (by rw [h2]; simp)
            have h3 : Tk.quL 34 false r = r.length := by rw [hp.2] at h2; simpa using h2
            have hr : 0 < r.length := by omega
            have hw := quL_wf 34 (by decide) false r hr h3
            have hc : c = 34 := by simpa using g4
            refine ⟨by simp; omega, ?_, by rw [hc]; rfl, ?_⟩
            · have : innM (c :: r) = r.take (r.length - 1) := by simp [innM]
              rw [this]; exact hw.1
            · rw [List.getLast?_cons]
              rw [hw.2]; rfl
          · split at hk <;> cases hk
/-- The bytes that a text stands for, and whether it is one. -/
def unqM (s : List UInt8) : List UInt8 × Bool :=
  if speltM s 4 && !hasM 13 10 s then (if (unM (innM s).length (innM s)).2 then unM (innM s).length (innM s) else ([], false)) else ([], false)
theorem byteC_app (a b : List UInt8) : Lib.byteCells (a ++ b) = Lib.byteCells a ++ Lib.byteCells b := by simp [Lib.byteCells]
theorem isB_fresh (w : World) : Lib.IsBuilderF 178 5 w.heap.size w.heap.size (Lib.byteCells []) (w.alloc (.cells #[.pointer none, .slice none 0 0] 178)) :=
  .inl ⟨Nat.le_refl _, .slice none 0 0, World.alloc_heap_new w _, World.ownsRowF_nil _ _ _ _, by simp [Value.ownBlock]⟩
theorem isB_alloc {B b : Nat} {bs : List Value} {w : World} (h : Lib.IsBuilderF 178 5 B b bs w) (o : Obj) : Lib.IsBuilderF 178 5 B b bs (w.alloc o) := h.imp (fun x => x.alloc o) (fun x => x.alloc o)
theorem isB_lt {B b : Nat} {bs : List Value} {w : World} (h : Lib.IsBuilderF 178 5 B b bs w) : b < w.heap.size := by rcases h with h | h <;> exact h.lt
theorem isB_below {B b : Nat} {bs : List Value} {w w' : World} (h : Lib.IsBuilderF 178 5 B b bs w) (hb : Below w.heap.size w w') : Lib.IsBuilderF 178 5 B b bs w' := by
  have hg : w.grownBy w' none := ⟨hb.os, hb.tape, hb.output, hb.size, fun k hk _ => hb.block k hk⟩
  have key : ∀ p, Lib.BuilderAtF 178 5 B b p bs w → Lib.BuilderAtF 178 5 B b p bs w' := by
    rintro p ⟨h1, v, h2, h3, h4⟩
    refine ⟨h1, v, (hb.block b (Array.getElem?_eq_some_iff.1 h2).1).trans h2, h3.kept hg ?_, h4⟩
    cases v.ownBlock with
    | none => exact .inl rfl
    | some k => exact .inr (by simp)
  exact h.imp (key _) (key _)
theorem unM_len : ∀ (f : Nat) (s : List UInt8), (unM f s).1.length ≤ f
  | 0, s => by simp [unM]
  | f + 1, [] => by simp [unM]
  | f + 1, c :: r => by
    rw [unM]
    split
    · have := unM_len f ((c :: r).drop (fbM (c :: r)).2.1); simp; omega
    · simp
set_option maxRecDepth 100000 in
set_option maxHeartbeats 4000000 in
theorem unq_go (s : List UInt8) (hs : s.length ≤ 140737488355320) (hsp : speltM s 4 = true) (hh : hasM 13 10 s = false) (w : World) (hw : 10 < w.heap.size) (hg : Eg w) (hsg : Sg w) (hC : CaOK s 13 10) :
    Calls Tryz.prog 146 #[.string ⟨s.toArray⟩] w fun e w' => e = .returned (.tuple #[.string ⟨(unqM s).1.toArray⟩, .bool (unqM s).2]) ∧ Below w.heap.size w w' := by
  obtain ⟨h2, hwf, _, _⟩ := spelt_text hsp
  have HSP := hide (spelt_any s 4 w (by omega) hw hsg)
  have HC := hide hC
  have hil := innM_len s
  obtain ⟨B, hB⟩ : ∃ B : ByteArray, (⟨s.toArray⟩ : ByteArray) = B := ⟨_, rfl⟩
  have hz : B.size = s.length := by rw [← hB, len_toArray]
  have hsl : ∀ W : World, (Instr.slice 9 (.string B) (some (.int .i64 1)) (some (.int .i64 ((B.size : Int) - 1))) none).run Tryz.prog W = .ok (.string ⟨(innM s).toArray⟩) W := fun W => by
    have := run_slice_string (P := Tryz.prog) (w := W) 9 B .i64 .i64 1 ((B.size : Int) - 1) Tryz.underlying9 (by omega) (by omega) (by omega)
    rw [this]
    have e1 : ((B.size : Int) - 1).toNat = s.length - 1 := by omega
    rw [e1, ← hB, ext_list]
    congr 3
    unfold innM
    rw [show Int.toNat 1 = 1 from rfl, List.drop_take]
    congr 1
  rw [hsp] at HSP
  unfold CaOK at HC
  rw [hh, hB] at HC
  rw [hB] at HSP ⊢
  have HU : Hid (unqM s = if (unM (innM s).length (innM s)).2 then unM (innM s).length (innM s) else ([], false)) := by rw [Hid, unqM, hsp, hh]; rfl
  obtain ⟨U, hU⟩ : ∃ U, unqM s = U := ⟨_, rfl⟩
  rw [hU] at HU ⊢
  have hI : (innM s).length ≤ 140737488355320 := by omega
  have HWF := hide hwf
  generalize innM s = I at *
  clear hU hsp hh hC hwf hsg
  have HG := hide hg
  clear hg
  go_enter Tryz.func146, Tryz.ntmps146
  go_upto_region 3 with (first
    | (go_at_call 77; refine (unhide HSP).mono ?_; rintro e W1 ⟨rfl, hb1⟩)
    | (go_at_call 160; refine (unhide HC _).mono ?_; rintro e W2 ⟨rfl, hb2⟩))
  have HB2 := hide (hb1.trans (hb2.mono hb1.size))
  have hz2 := Nat.le_trans hb1.size hb2.size
  clear hb1 hb2 HSP HC
  have hBu := isB_fresh W2
  have HBe : Hid (Below w.heap.size w (W2.alloc (.cells #[.pointer none, .slice none 0 0] 178))) := (unhide HB2).alloc hz2 _
  go_upto_region 4 with fail
  generalize (W2.alloc _ : World) = W3 at *
  have hb3 : W2.heap.size < W3.heap.size := isB_lt hBu
  generalize W2.heap.size = b at *
  have i1 : (1 : Int) ≤ (B.size : Int) - 1 := by omega
  have i2 : (1 : Int) ≤ (B.size : Int) := by omega
  have i3 : (B.size : Int) - 1 < (B.size : Int) := by omega
  have i4 : B.size ≤ 140737488355328 := by omega
  clear HB2 hz hB hil h2 hs
  go_wp2
  go_loopg [5] I.length (fun gk i wr => ∃ (rest done : List UInt8), gk = rest.length ∧ i = .string ⟨rest.toArray⟩ ∧ rest.length ≤ 140737488355320 ∧ done.length + rest.length ≤ I.length ∧ Hid (wfQ false rest = true) ∧
    Lib.IsBuilderF 178 5 b b (Lib.byteCells done) wr ∧ Hid (Below w.heap.size w wr) ∧ Hid (U = if (unM rest.length rest).2 then (done ++ (unM rest.length rest).1, true) else ([], false)))
  case atStart =>
    refine ⟨I, [], rfl, rfl, hI, by simp, HWF, hBu, HBe, ?_⟩
    rw [Hid, unhide HU]
    split
    · rename_i h
      rw [List.nil_append]
      generalize unM I.length I = Z at *
      obtain ⟨a, c⟩ := Z
      simp only at h
      rw [h]
    · rfl
  case round =>
    clear hBu HBe HU hsl i1 i2 i3 i4 HWF
    obtain ⟨rest, done, rfl, rfl, hr, hd, hwf, hBu, hbe, hU⟩ := hrel
    have hzr := (unhide hbe).size
    have hlen := len_toArray rest
    match rest, hwf, hU, hr, hd, hlen with
    | [], hwf, hU, hr, hd, hlen =>
      have HST := hide (Tryz.Builder_String_any_k b b done wr hBu (by have := isB_lt hBu; omega))
      go_wp2_with fail
      refine (unhide HST).mono ?_
      rintro e w' ⟨rfl, hB', hb', _⟩
      go_wp2
      go_ret2
      refine ⟨?_, (unhide hbe).trans (hb'.mono ?_)⟩
      · rw [unhide hU]; simp [unM]
      · omega
    | c :: r, hwf, hU, hr, hd, hlen =>
      have hpos := fbM_pos (c :: r) (by simp) (wfQ_head (unhide hwf))
      have HWF2 := hide (wfQ_fb (c :: r) (unhide hwf) (by simp))
      have HFB := hide (firstByte_any (c :: r) hr (by simp) (wfQ_head (unhide hwf)) wr (by omega) ((unhide HG).below (unhide hbe) hw))
      obtain ⟨X, hX⟩ : ∃ X : ByteArray, (⟨(c :: r).toArray⟩ : ByteArray) = X := ⟨_, rfl⟩
      have hXs : X.size = r.length + 1 := by rw [← hX, hlen]; rfl
      have hUr := unhide hU
      rw [show (c :: r).length = r.length + 1 from rfl, unM] at hUr
      obtain ⟨fc, n, ok, hfb⟩ : ∃ fc n ok, fbM (c :: r) = (fc, n, ok) := ⟨_, _, _, rfl⟩
      rw [hfb] at hpos hUr HFB HWF2
      simp only at hpos hUr HFB HWF2
      have hsl : ∀ W : World, (Instr.slice 9 (.string X) (some (.int .i64 (n : Int))) none none).run Tryz.prog W = .ok (.string ⟨((c :: r).drop n).toArray⟩) W := fun W => by
        have := run_slice_string_from_if (P := Tryz.prog) (w := W) 9 X .i64 (n : Int) Tryz.underlying9
        rw [this, if_pos (by have := hpos.2; simp at this; omega)]
        rw [show (n : Int).toNat = n from rfl, ← hX, len_toArray, ext_list, List.take_of_length_le (Nat.le_refl _)]
      rw [hX] at HFB ⊢
      have hX0 : ((0 : Int) < (X.size : Int)) := by omega
      have HL : Hid (done.length + 1 + ((c :: r).drop n).length ≤ I.length ∧ ((c :: r).drop n).length ≤ 140737488355320 ∧ ((c :: r).drop n).length < r.length + 1) := by
        rw [Hid, List.length_drop]; simp at hpos hd hr ⊢; omega
      cases ok
      · simp only [Bool.false_eq_true, if_false] at hUr
        have HU2 := hide hUr
        clear hUr hX hU hsl hXs hlen hpos hr hd hfb
        go_wp2_with (go_at_call 161; refine (unhide HFB).mono ?_; rintro e W1 ⟨rfl, hb1⟩)
        go_ret2
        exact ⟨by rw [unhide HU2]; rfl, (unhide hbe).trans (hb1.mono hzr)⟩
      · simp only [if_true] at hUr
        have HU2 : Hid (U = if (unM ((c :: r).drop n).length ((c :: r).drop n)).2 then (done ++ [fc] ++ (unM ((c :: r).drop n).length ((c :: r).drop n)).1, true) else ([], false)) := by
          rw [Hid, hUr, unM_more ((c :: r).drop n).length r.length _ (Nat.le_refl _) (by have := (unhide HL).2.2; omega) (unhide HWF2)]
          simp
        have HX := hide hX
        have HBU := hide hBu
        generalize (c :: r).drop n = rest2 at *
        clear hUr hX hU hXs hlen hpos hfb hBu
        go_upto_region 9 with (go_at_call 161; refine (unhide HFB).mono ?_; rintro e W1 ⟨rfl, hb1⟩)
        have hB1 := isB_below (unhide HBU) hb1
        have HWB := hide (Tryz.Builder_WriteByte_k b b _ (fc.toNat : Int) W1 hB1 (by rw [Lib.byteCells_length]; have := (unhide HL).1; omega) (by have := isB_lt hB1; omega))
        have HB1 := hide ((unhide hbe).trans (hb1.mono hzr))
        clear hb1 hB1 HBU HFB
        go_upto_region 10 with (go_at_call 162; refine (unhide HWB).mono ?_; rintro e W4 ⟨rfl, hB4, hb4, _⟩)
        have hB5 : Lib.IsBuilderF 178 5 b b (Lib.byteCells (done ++ [fc])) W4 := by rw [byteC_app]; exact .inr hB4
        have HB5 : Hid (Below w.heap.size w W4) := (unhide HB1).trans (hb4.mono (by omega))
        clear hB4 hb4 HWB
        go_wp2
        go_roundg rest2.length
        case measure => have := (unhide HL).2.2; simpa using this
        case rel => exact ⟨rest2, done ++ [fc], rfl, rfl, (unhide HL).2.1, by have := (unhide HL).1; simp; omega, HWF2, hB5, HB5, HU2⟩
end Go.Proofs.YtmpkgjonbjpohaaGreatDoor
