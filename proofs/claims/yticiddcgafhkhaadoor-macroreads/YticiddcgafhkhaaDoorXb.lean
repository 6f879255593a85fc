/-
  The reference's Parse.
-/
import Derived.Test.YticiddcgafhkhaaDoorXa
import Derived.Test.YticiddcgafhkhaaDoorX3
import Derived.Test.YticiddcgafhkhaaDoorV6
namespace Go.Proofs.YticiddcgafhkhaaDoor
open Go Go.RowKit
set_option linter.unusedVariables false
set_option linter.unusedSimpArgs false

set_option maxRecDepth 100000 in
set_option maxHeartbeats 8000000 in
theorem rBareN_any (v : Value) (l : List Gt) (w : World) (hl : l.length * 56 ≤ 140737488355328) (hv : TkG w.heap.size w v l) :
    Calls Tryd.prog 41 #[v] w fun e w' => ∃ v', e = .returned v' ∧ TkG w'.heap.size w' v' (bareG l) ∧ Below w.heap.size w w' ∧ NewS w.heap.size v' := by
  have HV := hide hv
  obtain ⟨p, cap, rfl, _⟩ := hv
  have u23 : ∀ w, Sem.run Tryd.prog (underlying 23) w = .ok (TypeDesc.slice 49) w := run_underlying Tryd.underlying23
  obtain ⟨i0, hi, hz0, hz1, hz2⟩ := info_parts Tryd.info49
  go_enter Tryd.func41, Tryd.ntmps41
  go_wp2
  go_loopg [3, 4] l.length (fun gk v i wr => ∃ k : Nat, gk = l.length - k ∧ i = .int .i64 k ∧ k ≤ l.length ∧ Hid (wr.ownsRow w.heap.size 49 6 v k (gCells ((bareG l).take k))) ∧ Hid (Below w.heap.size w wr))
  case atStart => exact ⟨0, rfl, rfl, by omega, World.ownsRow_nil _ _ _ _, Below.refl _ _⟩
  case round =>
    obtain ⟨k, rfl, rfl, hk, hown, hbb⟩ := hrel
    by_cases hlt : k < l.length
    · have i1 : (k : Int) < (l.length : Int) := by omega
      have HST : Hid (∀ t, bare1 k l[k] = t → gCells ((bareG l).take (k + 1)) = gCells ((bareG l).take k) ++ gL t) := fun t ht => by
        have hkb : k < (bareG l).length := by rw [bareG_length]; exact hlt
        rw [List.take_succ_eq_append_getElem hkb, gCells_snoc, bareG_at, ht]
      have hws := (unhide hbb).size
      have HOWN : Hid (∀ o1 o2, ((wr.alloc o1).alloc o2).ownsRow w.heap.size 49 6 u3 k (gCells ((bareG l).take k))) := fun o1 o2 => ownsRow_bel (unhide hown) (((Below.refl _ wr).alloc (Nat.le_refl _) o1).alloc (by simp) o2)
      have HLT := hide (unhide hown).lt
      have HBA : Hid (∀ o1 o2, Below w.heap.size w ((wr.alloc o1).alloc o2)) := fun o1 o2 => ((unhide hbb).alloc hws o1).alloc (by simp; omega) o2
      obtain ⟨p', cap', hp', hcs⟩ := (unhide HV).below (unhide hbb)
      obtain ⟨g, o, rfl, _, a0, a1, a2, a3, a4, a5⟩ := hcs k hlt
      obtain ⟨rfl, rfl⟩ : p = some ⟨g, o, none⟩ ∧ cap = cap' := by simpa using hp'
      clear hcs hp' hown
      generalize l[k] = t at *
      generalize gCells ((bareG l).take k) = GK at *
      obtain ⟨kd, S, F, N, sp, fi⟩ := t
      simp only at a0 a1 a2 a3 a4 a5
      cases sp
      · have HNEW : Hid (∀ o1, ∀ j u, (gL ⟨kd, S, [], 0, false, false⟩)[j]? = some u → ((wr.alloc o1).alloc (.cells #[.int .i64 kd, .string ⟨S.toArray⟩, .string ⟨#[]⟩, .int .i64 0, .bool false, .bool false] 49)).cell? ((⟨wr.heap.size + 1, 0, none⟩ : Addr).add j) = some u) := fun o1 j u hj => by
          have hn : ((wr.alloc o1).alloc (.cells #[.int .i64 kd, .string ⟨S.toArray⟩, .string ⟨#[]⟩, .int .i64 0, .bool false, .bool false] 49)).heap[(wr.alloc o1).heap.size]? = some (.cells #[.int .i64 kd, .string ⟨S.toArray⟩, .string ⟨#[]⟩, .int .i64 0, .bool false, .bool false] 49 (0, 0)) := World.alloc_heap_new _ _
          rw [show (wr.alloc o1).heap.size = wr.heap.size + 1 by simp] at hn
          have hj6 : j < 6 := by have := (List.getElem?_eq_some_iff.1 hj).1; simpa [gL] using this
          rw [show (⟨wr.heap.size + 1, 0, none⟩ : Addr).add j = ⟨wr.heap.size + 1, j, none⟩ by unfold Addr.add; split <;> simp_all, World.cell?, hn]
          match j, hj6 with
          | 0, _ => exact hj
          | 1, _ => exact hj
          | 2, _ => exact hj
          | 3, _ => exact hj
          | 4, _ => exact hj
          | 5, _ => exact hj
        go_wp2_with (at_builtin; refine wpList_append_own _ rfl _ _ 23 rfl w.heap.size 49 i0 _ 6 56 Tryd.underlying23 hi hz0 hz1 hz2 rfl (by decide) _ _ _ rfl (unhide HOWN _ _) ⟨wr.heap.size + 1, 0, none⟩ 1 1 (gL ⟨kd, S, [], 0, false, false⟩) rfl rfl (unhide HNEW _) ?qc3 ?qc4 ?qc5 ?qc6 ?_)
        case qc3 => intro u hu; simp only [gL, List.mem_cons, List.not_mem_nil, or_false] at hu; rcases hu with rfl | rfl | rfl | rfl | rfl | rfl <;> rfl
        case qc4 => unfold maxLen; omega
        case qc5 => omega
        case qc6 => first | omega | (simp; omega)
        intro v' w1 hown2 hgrow hnil
        have hb2 : Below w.heap.size w w1 := (unhide HBA _ _).grown hgrow (by simp; omega) (by intro j hj; exact (unhide HLT j hj).1)
        have HN2 := hide hown2
        have HB2 := hide hb2
        clear hown2 hgrow hnil hb2
        go_wp2
        go_roundg (l.length - (k + 1))
        case measure => omega
        case rel => exact ⟨k + 1, rfl, by go_num, by omega, by rw [Hid, unhide HST ⟨kd, S, [], 0, false, false⟩ (by simp [bare1])]; exact unhide HN2, HB2⟩
      · by_cases hk0 : 0 < k
        · have j1 : (0 : Int) < (k : Int) := by omega
          have HNEW : Hid (∀ o1, ∀ j u, (gL ⟨kd, S, [], 0, true, false⟩)[j]? = some u → ((wr.alloc o1).alloc (.cells #[.int .i64 kd, .string ⟨S.toArray⟩, .string ⟨#[]⟩, .int .i64 0, .bool true, .bool false] 49)).cell? ((⟨wr.heap.size + 1, 0, none⟩ : Addr).add j) = some u) := fun o1 j u hj => by
            have hn : ((wr.alloc o1).alloc (.cells #[.int .i64 kd, .string ⟨S.toArray⟩, .string ⟨#[]⟩, .int .i64 0, .bool true, .bool false] 49)).heap[(wr.alloc o1).heap.size]? = some (.cells #[.int .i64 kd, .string ⟨S.toArray⟩, .string ⟨#[]⟩, .int .i64 0, .bool true, .bool false] 49 (0, 0)) := World.alloc_heap_new _ _
            rw [show (wr.alloc o1).heap.size = wr.heap.size + 1 by simp] at hn
            have hj6 : j < 6 := by have := (List.getElem?_eq_some_iff.1 hj).1; simpa [gL] using this
            rw [show (⟨wr.heap.size + 1, 0, none⟩ : Addr).add j = ⟨wr.heap.size + 1, j, none⟩ by unfold Addr.add; split <;> simp_all, World.cell?, hn]
            match j, hj6 with
            | 0, _ => exact hj
            | 1, _ => exact hj
            | 2, _ => exact hj
            | 3, _ => exact hj
            | 4, _ => exact hj
            | 5, _ => exact hj
          go_wp2_with (at_builtin; refine wpList_append_own _ rfl _ _ 23 rfl w.heap.size 49 i0 _ 6 56 Tryd.underlying23 hi hz0 hz1 hz2 rfl (by decide) _ _ _ rfl (unhide HOWN _ _) ⟨wr.heap.size + 1, 0, none⟩ 1 1 (gL ⟨kd, S, [], 0, true, false⟩) rfl rfl (unhide HNEW _) ?qc3 ?qc4 ?qc5 ?qc6 ?_)
          case qc3 => intro u hu; simp only [gL, List.mem_cons, List.not_mem_nil, or_false] at hu; rcases hu with rfl | rfl | rfl | rfl | rfl | rfl <;> rfl
          case qc4 => unfold maxLen; omega
          case qc5 => omega
          case qc6 => first | omega | (simp; omega)
          intro v' w1 hown2 hgrow hnil
          have hb2 : Below w.heap.size w w1 := (unhide HBA _ _).grown hgrow (by simp; omega) (by intro j hj; exact (unhide HLT j hj).1)
          have HN2 := hide hown2
          have HB2 := hide hb2
          clear hown2 hgrow hnil hb2
          go_wp2
          go_roundg (l.length - (k + 1))
          case measure => omega
          case rel => exact ⟨k + 1, rfl, by go_num, by omega, by rw [Hid, unhide HST ⟨kd, S, [], 0, true, false⟩ (by simp [bare1, hk0])]; exact unhide HN2, HB2⟩
        · have j1 : ¬ (0 : Int) < (k : Int) := by omega
          have HNEW : Hid (∀ o1, ∀ j u, (gL ⟨kd, S, [], 0, false, false⟩)[j]? = some u → ((wr.alloc o1).alloc (.cells #[.int .i64 kd, .string ⟨S.toArray⟩, .string ⟨#[]⟩, .int .i64 0, .bool false, .bool false] 49)).cell? ((⟨wr.heap.size + 1, 0, none⟩ : Addr).add j) = some u) := fun o1 j u hj => by
            have hn : ((wr.alloc o1).alloc (.cells #[.int .i64 kd, .string ⟨S.toArray⟩, .string ⟨#[]⟩, .int .i64 0, .bool false, .bool false] 49)).heap[(wr.alloc o1).heap.size]? = some (.cells #[.int .i64 kd, .string ⟨S.toArray⟩, .string ⟨#[]⟩, .int .i64 0, .bool false, .bool false] 49 (0, 0)) := World.alloc_heap_new _ _
            rw [show (wr.alloc o1).heap.size = wr.heap.size + 1 by simp] at hn
            have hj6 : j < 6 := by have := (List.getElem?_eq_some_iff.1 hj).1; simpa [gL] using this
            rw [show (⟨wr.heap.size + 1, 0, none⟩ : Addr).add j = ⟨wr.heap.size + 1, j, none⟩ by unfold Addr.add; split <;> simp_all, World.cell?, hn]
            match j, hj6 with
            | 0, _ => exact hj
            | 1, _ => exact hj
            | 2, _ => exact hj
            | 3, _ => exact hj
            | 4, _ => exact hj
            | 5, _ => exact hj
          go_wp2_with (at_builtin; refine wpList_append_own _ rfl _ _ 23 rfl w.heap.size 49 i0 _ 6 56 Tryd.underlying23 hi hz0 hz1 hz2 rfl (by decide) _ _ _ rfl (unhide HOWN _ _) ⟨wr.heap.size + 1, 0, none⟩ 1 1 (gL ⟨kd, S, [], 0, false, false⟩) rfl rfl (unhide HNEW _) ?qc3 ?qc4 ?qc5 ?qc6 ?_)
          case qc3 => intro u hu; simp only [gL, List.mem_cons, List.not_mem_nil, or_false] at hu; rcases hu with rfl | rfl | rfl | rfl | rfl | rfl <;> rfl
          case qc4 => unfold maxLen; omega
          case qc5 => omega
          case qc6 => first | omega | (simp; omega)
          intro v' w1 hown2 hgrow hnil
          have hb2 : Below w.heap.size w w1 := (unhide HBA _ _).grown hgrow (by simp; omega) (by intro j hj; exact (unhide HLT j hj).1)
          have HN2 := hide hown2
          have HB2 := hide hb2
          clear hown2 hgrow hnil hb2
          go_wp2
          go_roundg (l.length - (k + 1))
          case measure => omega
          case rel => exact ⟨k + 1, rfl, by go_num, by omega, by rw [Hid, unhide HST ⟨kd, S, [], 0, false, false⟩ (by simp [bare1, hk0])]; exact unhide HN2, HB2⟩
    · have i1 : ¬ (k : Int) < (l.length : Int) := by omega
      go_wp2
      go_ret
      have hkl : k = (bareG l).length := by rw [bareG_length]; omega
      have ho := unhide hown
      rw [List.take_of_length_le (by omega)] at ho
      exact ⟨_, rfl, TkG.of ho hkl, unhide hbb, newS_of ho⟩

def rheadQ (nm : List UInt8) : List Gt → Option (List UInt8 × Bool × List (List UInt8) × Bool × List Gt)
  | [] => some (nm, false, [], false, [])
  | b :: r => if b.s = [40] ∧ b.sp = false then (rparP r).map (fun x => (nm, true, x.1, x.2.1, r.drop x.2.2)) else if b.sp = false then none else some (nm, false, [], false, b :: r)
def rheadP (l : List Gt) : Option (List UInt8 × Bool × List (List UInt8) × Bool × List Gt) :=
  match l with
  | [] => none
  | t :: body => if t.kind = 1 then rheadQ t.s body else none
theorem rheadP_pos (l : List Gt) (h : 0 < l.length) : rheadP l = if l[0].kind = 1 then rheadQ l[0].s (l.drop 1) else none := by
  match l, h with
  | t :: r, _ => rfl
theorem rheadQ_pos (nm : List UInt8) (l : List Gt) (h : 0 < l.length) : rheadQ nm l = if l[0].s = [40] ∧ l[0].sp = false then (rparP (l.drop 1)).map (fun x => (nm, true, x.1, x.2.1, (l.drop 1).drop x.2.2)) else if l[0].sp = false then none else some (nm, false, [], false, l) := by
  match l, h with
  | t :: r, _ => rfl
def rparseM (l : List Gt) : Option Mc :=
  match rheadP l with
  | none => none
  | some (nm, fn, ps, more, body) => if rrightM ⟨nm, fn, ps, more, bareG body⟩ then some ⟨nm, fn, ps, more, bareG body⟩ else none
theorem rgoP_le : ∀ (r : List (Gt × Gt)) (ps : List (List UInt8)) (k : Nat) (x : List (List UInt8) × Bool × Nat), rgoP ps k r = some x → x.2.2 ≤ k + 2 * r.length ∧ 1 ≤ x.2.2
  | [], _, _, _, h => by simp [rgoP] at h
  | (a, b) :: r, ps, k, x, h => by
    unfold rgoP at h
    split at h
    · cases h; simp; omega
    · split at h
      · split at h
        · cases h; simp; omega
        · split at h
          · have := rgoP_le r _ _ x h; simp; omega
          · cases h
      · cases h
theorem rparP_le (l : List Gt) (x : List (List UInt8) × Bool × Nat) (h : rparP l = some x) : x.2.2 ≤ l.length ∧ 1 ≤ x.2.2 := by
  unfold rparP at h
  split at h
  · cases h
  · split at h
    · cases h; simp
    · have h1 := rgoP_le _ _ _ x h
      have h2 := prs_length (‹Gt› :: ‹List Gt›)
      omega
theorem res18P {tmps : Array Value} {w : World} {R : Nat} {cs : Array Value} (hp : tmps.getD 2 undef = .pointer (some ⟨R, 0, none⟩)) (hg : w.heap[R]? = some (.cells cs 25 (0, 0))) (hz : cs.size = 5) :
    (results Tryd.f18 tmps).run Tryd.prog w = .ok (.tuple #[.agg cs, tmps.getD 3 undef]) w := by
  rw [results_cell_tmp rfl, hp]
  have hi : (Tryd.prog.info? 25).map (·.size) = some cs.size := by rw [hz]; kernel_rfl
  simp [asAddr, run_loadVar_row w R 25 25 cs (0, 0) _ hg Tryd.underlying25 rfl hi]
/-- What stands where the body is read: the box of the answer, the macro's own box, its tokens. -/
structure PS (w : World) (W : World) (nm : List UInt8) (fn : Bool) (ps : List (List UInt8)) (q : Option Addr) (c : Nat) (more : Bool) (p : Option Addr) (cap : Nat) (body : List Gt) : Prop where
  z : MBox W w.heap.size (.string ⟨#[]⟩) false (.slice none 0 0) false (.slice none 0 0)
  m : MBox W (w.heap.size + 1) (.string ⟨nm.toArray⟩) fn (.slice q ps.length c) more (.slice none 0 0)
  be : Below w.heap.size w W
  row : W.ownsRow (w.heap.size + 2) 9 1 (.slice q ps.length c) ps.length (sCells ps)
  tk : TkG W.heap.size W (.slice p body.length cap) body
end Go.Proofs.YticiddcgafhkhaaDoor
