/-
  Package lex: kindOf, number.
-/
import Derived.Test.YtmpkgjonbjpohaaGreatDoorXp
import Derived.Test.YtmpkgjonbjpohaaGreatDoorDa
import Derived.Test.YtmpkgjonbjpohaaGreatDoorSc
namespace Go.Proofs.YtmpkgjonbjpohaaGreatDoor
open Go Go.RowKit
set_option linter.unusedVariables false
set_option linter.unusedSimpArgs false

/-- Has a text one of two bytes? -/
def hasM (a b : UInt8) (s : List UInt8) : Bool := s.any fun c => c == a || c == b
theorem containsAny_is (a b : UInt8) : ∀ s : List UInt8, Lib.containsAny s [a, b] = hasM a b s := by
  intro s
  unfold Lib.containsAny hasM
  induction s with
  | nil => rfl
  | cons c r ih =>
    have hge := Lib.indexAny_ge [a, b] r
    rw [List.any_cons, ← ih]
    have e : [a, b].contains c = (c == a || c == b) := by
      rw [Bool.eq_iff_iff]; simp
    have hu : Lib.indexAny (c :: r) [a, b] = if [a, b].contains c then 0 else if Lib.indexAny r [a, b] == -1 then -1 else Lib.indexAny r [a, b] + 1 := rfl
    rw [hu, e]
    cases h : (c == a || c == b)
    · simp only [Bool.false_eq_true, if_false, Bool.false_or]
      rw [decide_eq_decide]
      split
      · rename_i h1
        have h2 : Lib.indexAny r [a, b] = -1 := by simpa using h1
        constructor <;> intro _ <;> omega
      · rename_i h1
        have h2 : Lib.indexAny r [a, b] ≠ -1 := by simpa using h1
        constructor <;> intro _ <;> omega
    · simp
/-- What strings.ContainsAny tells of a text and two bytes. -/
def CaOK (s : List UInt8) (a b : UInt8) : Prop := ∀ w : World, Calls Tryz.prog 160 #[.string ⟨s.toArray⟩, .string ⟨#[a, b]⟩] w fun e w' => e = .returned (.bool (hasM a b s)) ∧ Below w.heap.size w w'
theorem caOK_ascii (s : List UInt8) (a b : UInt8) (hs : s.length < 4294967281) (h : ∀ c ∈ s, c.toNat < 128) (ha : a.toNat < 128) (hb : b.toNat < 128) : CaOK s a b := by
  intro w
  have := Tryz.strings_ContainsAny ⟨s.toArray⟩ ⟨#[a, b]⟩ w (by rw [len_toArray]; exact hs) (by show 2 < 4294967281; decide) (fun j c hc => h c (List.mem_of_getElem? hc)) (fun j c hc => by
    have hm := List.mem_of_getElem? hc
    simp at hm
    rcases hm with rfl | rfl
    · exact ha
    · exact hb)
  simp only [List.toList_toArray] at this
  rw [containsAny_is] at this
  exact this
/-- Is a kind left out by a number's spelling? -/
def lfM (dec u l : Bool) (k : Int) : Bool := ((k == 6 || k == 8) && dec && !u) || (!(k == 6 || k == 8) && u) || ((k == 5 || k == 6) && l)
def kmN (v : Int) (dec u l : Bool) : Nat → Int → Int
  | 0, _ => 0
  | n + 1, k => if !lfM dec u l k && decide (v ≤ grM k) then k else kmN v dec u l n (k + 1)
/-- The kind that a number has; 0: none. -/
def kindM (v : Int) (s : List UInt8) : Int := kmN v (s.head? != some 48) (hasM 117 85 s) (hasM 108 76 s) 4 5
set_option maxRecDepth 100000 in
set_option maxHeartbeats 16000000 in
theorem kindOf_any (v : Int) (s : List UInt8) (w : World) (hne : s ≠ []) (hU : CaOK s 117 85) (hL : CaOK s 108 76) :
    Calls Tryz.prog 165 #[.int .u64 v, .string ⟨s.toArray⟩] w fun e w' => e = .returned (.int .i64 (kindM v s)) ∧ Below w.heap.size w w' := by
  obtain ⟨B, hB⟩ : ∃ B : ByteArray, (⟨s.toArray⟩ : ByteArray) = B := ⟨_, rfl⟩
  have hl : 0 < B.size := by rw [← hB, len_toArray]; exact List.length_pos_iff.2 hne
  have hd : (s.head? != some 48) = ((B[0].toNat : Int) != 48) := by
    subst hB
    match s, hne with
    | c :: r, _ =>
      have e1 : ((⟨(c :: r).toArray⟩ : ByteArray)[0]) = c := rfl
      rw [e1]
      simp only [List.head?_cons]
      have := byte_eq c 48
      have e2 : ((48 : UInt8).toNat : Int) = 48 := rfl
      rw [e2] at this
      simp only [bne, ← this]
      rfl
  unfold CaOK at hU hL
  rw [hB] at hU hL ⊢
  unfold kindM
  rw [hd]
  have HU := hide hU
  have HL := hide hL
  have HG := hide greatest_any
  clear hd hU hL
  obtain ⟨K, hK0⟩ : ∃ K, kmN v ((B[0].toNat : Int) != 48) (hasM 117 85 s) (hasM 108 76 s) 4 5 = K := ⟨_, rfl⟩
  rw [hK0]
  have H0 : Hid (K = kmN v ((B[0].toNat : Int) != 48) (hasM 117 85 s) (hasM 108 76 s) 4 5) := hK0.symm
  clear hK0
  generalize hasM 117 85 s = u at *
  generalize hasM 108 76 s = l at *
  clear hB hne
  generalize hdd : ((B[0].toNat : Int) != 48) = dec at *
  go_enter Tryz.func165, Tryz.ntmps165
  go_upto_region 2 with fail
  go_wp2_with fail
  refine (unhide HU _).mono ?_
  rintro e W1 ⟨rfl, hb1⟩
  go_wp2_with fail
  refine (unhide HL _).mono ?_
  rintro e W2 ⟨rfl, hb2⟩
  have HB2 := hide (hb1.trans (hb2.mono hb1.size))
  clear hb1 hb2 HU HL
  go_wp2
  go_loopg [8] 5 (fun gk i wr => ∃ (n k : Nat), gk = n + 1 ∧ k + n = 9 ∧ 5 ≤ k ∧ i = .int .i64 (k : Int) ∧ wr = W2 ∧ Hid (K = kmN v dec u l n k))
  case atStart => exact ⟨4, 5, rfl, rfl, by omega, rfl, rfl, unhide H0⟩
  case round =>
    obtain ⟨n, k, rfl, hk, hk5, rfl, rfl, hK⟩ := hrel
    clear H0
    by_cases h9 : k = 9
    · subst h9
      obtain rfl : n = 0 := by omega
      go_wp2
      go_ret
      exact ⟨by rw [unhide hK]; rfl, unhide HB2⟩
    · obtain ⟨n, rfl⟩ : ∃ m, n = m + 1 := ⟨n - 1, by omega⟩
      have hc : k = 5 ∨ k = 6 ∨ k = 7 ∨ k = 8 := by omega
      have hK' := unhide hK
      rw [kmN] at hK'
      have HK := hide hK'
      clear hK' hK
      rcases hc with rfl | rfl | rfl | rfl
      · have hg : grM 5 = 2147483647 := rfl
        have HGK := hide (unhide HG 5)
        rw [show grM 5 = 2147483647 from rfl] at HGK
        by_cases hv : v ≤ 2147483647
        all_goals (
          cases dec <;> cases u <;> cases l
          all_goals (
            go_wp2_with (go_at_call 111; refine (unhide HGK _).mono ?_; rintro e w' ⟨rfl, hw'⟩; obtain rfl := hw'.symm)
            first
              | (go_ret; exact ⟨by rw [unhide HK]; simp [lfM, hg, hv], unhide HB2⟩)
              | (go_roundg (n + 1)
                 case measure => omega
                 case rel => exact ⟨n, 5 + 1, rfl, by omega, by omega, rfl, rfl, by rw [Hid, unhide HK]; first | (simp [lfM, hg, hv]; done) | (simp [lfM, hg]; intro h; exfalso; omega)⟩)))
      · have hg : grM 6 = 4294967295 := rfl
        have HGK := hide (unhide HG 6)
        rw [show grM 6 = 4294967295 from rfl] at HGK
        by_cases hv : v ≤ 4294967295
        all_goals (
          cases dec <;> cases u <;> cases l
          all_goals (
            go_wp2_with (go_at_call 111; refine (unhide HGK _).mono ?_; rintro e w' ⟨rfl, hw'⟩; obtain rfl := hw'.symm)
            first
              | (go_ret; exact ⟨by rw [unhide HK]; simp [lfM, hg, hv], unhide HB2⟩)
              | (go_roundg (n + 1)
                 case measure => omega
                 case rel => exact ⟨n, 6 + 1, rfl, by omega, by omega, rfl, rfl, by rw [Hid, unhide HK]; first | (simp [lfM, hg, hv]; done) | (simp [lfM, hg]; intro h; exfalso; omega)⟩)))
      · have hg : grM 7 = 9223372036854775807 := rfl
        have HGK := hide (unhide HG 7)
        rw [show grM 7 = 9223372036854775807 from rfl] at HGK
        by_cases hv : v ≤ 9223372036854775807
        all_goals (
          cases dec <;> cases u <;> cases l
          all_goals (
            go_wp2_with (go_at_call 111; refine (unhide HGK _).mono ?_; rintro e w' ⟨rfl, hw'⟩; obtain rfl := hw'.symm)
            first
              | (go_ret; exact ⟨by rw [unhide HK]; simp [lfM, hg, hv], unhide HB2⟩)
              | (go_roundg (n + 1)
                 case measure => omega
                 case rel => exact ⟨n, 7 + 1, rfl, by omega, by omega, rfl, rfl, by rw [Hid, unhide HK]; first | (simp [lfM, hg, hv]; done) | (simp [lfM, hg]; intro h; exfalso; omega)⟩)))
      · have hg : grM 8 = 18446744073709551615 := rfl
        have HGK := hide (unhide HG 8)
        rw [show grM 8 = 18446744073709551615 from rfl] at HGK
        by_cases hv : v ≤ 18446744073709551615
        all_goals (
          cases dec <;> cases u <;> cases l
          all_goals (
            go_wp2_with (go_at_call 111; refine (unhide HGK _).mono ?_; rintro e w' ⟨rfl, hw'⟩; obtain rfl := hw'.symm)
            first
              | (go_ret; exact ⟨by rw [unhide HK]; simp [lfM, hg, hv], unhide HB2⟩)
              | (go_roundg (n + 1)
                 case measure => omega
                 case rel => exact ⟨n, 8 + 1, rfl, by omega, by omega, rfl, rfl, by rw [Hid, unhide HK]; first | (simp [lfM, hg, hv]; done) | (simp [lfM, hg]; intro h; exfalso; omega)⟩)))
end Go.Proofs.YtmpkgjonbjpohaaGreatDoor
