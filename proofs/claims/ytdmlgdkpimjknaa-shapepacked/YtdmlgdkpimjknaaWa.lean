/-
  ShapePacked: the numbers.
-/
import Derived.Test.YtdmlgdkpimjknaaVc
namespace Go.Proofs.Ytdmlgdkpimjknaa
open Go Go.RowKit Go.Shelf
set_option linter.unusedVariables false

def ShT.setPk (t : ShT) : ShT := .mk t.sh t.k t.n t.op t.oc t.of t.fp t.fc t.fs true t.al
def ShT.setSh (t : ShT) : ShT := .mk 5 t.k t.n t.op t.oc t.of t.fp t.fc t.fs t.pk t.al
theorem upM_least {n m x : Int} (h0 : 0 ≤ n) (hm : 1 ≤ m) (hx : n ≤ x) (hd : x % m = 0) : upM n m ≤ x := by
  unfold upM
  have h1 := Int.mul_ediv_add_emod x m
  rw [hd, Int.add_zero] at h1
  have h2 : (n + m - 1) / m ≤ x / m := by
    have : (n + m - 1) / m ≤ (x + m - 1) / m := Int.ediv_le_ediv (by omega) (by omega)
    have h3 : (x + m - 1) / m = x / m := by
      rw [← h1, show m * (x / m) + m - 1 = (m - 1) + m * (x / m) by omega, Int.add_mul_ediv_left _ _ (by omega), Int.ediv_eq_zero_of_lt (by omega) (by omega), Int.zero_add, Int.mul_ediv_cancel_left _ (by omega)]
    omega
  have h4 : (n + m - 1) / m * m ≤ x / m * m := Int.mul_le_mul_of_nonneg_right h2 (by omega)
  rw [Int.mul_comm] at h1
  omega
theorem up_mod8 (n c : Int) : upM n (8 * c) % 8 = 0 := by
  unfold upM
  rw [show (n + 8 * c - 1) / (8 * c) * (8 * c) = 8 * (((n + 8 * c - 1) / (8 * c)) * c) by rw [Int.mul_left_comm]]
  exact Int.mul_emod_right _ _
theorem lay_pk {e : Int × Int} {f : FdOf ShT} {en1 en2 : Int} (hok : FOk f e) (h0 : 0 ≤ en1) (h : en1 ≤ en2) (pk : Bool) :
    (layM e f en1 true).bit ≤ (layM e f en2 pk).bit ∧ (layM e f en1 true).bits = (layM e f en2 pk).bits := by
  have hb2 := (lay_bound hok (show 0 ≤ en2 by omega) pk).1
  obtain ⟨o1, o2, o3, o4, o5⟩ := hok
  unfold layM at *
  by_cases hb : 0 ≤ f.bits
  · obtain ⟨q1, q2, q3⟩ := o5 hb
    rw [if_pos hb] at hb2 ⊢
    rw [if_pos hb]
    refine ⟨?_, by unfold layB; rfl⟩
    cases hz : f.bits == 0
    · have : (layB f en1 (8 * e.1) true).bit = en1 := by unfold layB; simp [hz]
      rw [this]
      omega
    · have e1 : (layB f en1 (8 * e.1) true).bit = upM en1 (8 * e.1) := by unfold layB; simp [hz]
      have e2 : (layB f en2 (8 * e.1) pk).bit = upM en2 (8 * e.1) := by unfold layB; simp [hz]
      rw [e1, e2]
      have := upM_le (n := en2) (m := 8 * e.1) (by omega) (by omega)
      exact upM_least h0 (by omega) (by omega) (upM_mul _ _)
  · rw [if_neg hb] at hb2 ⊢
    rw [if_neg hb]
    refine ⟨?_, rfl⟩
    simp only [if_true] at *
    exact upM_least h0 (by omega) (by omega) (up_mod8 _ _)
/-- Two lists, member by member. -/
inductive F2 (R : FdOf ShT × Mb → FdOf ShT × Mb → Prop) : List (FdOf ShT × Mb) → List (FdOf ShT × Mb) → Prop where
  | nil : F2 R [] []
  | cons {x y r s} : R x y → F2 R r s → F2 R (x :: r) (y :: s)
theorem fold_max_mono : ∀ (l l' : List (FdOf ShT × Mb)) (a a' : Int), a ≤ a' → F2 (fun x y => x.2.bit + x.2.bits ≤ y.2.bit + y.2.bits) l l' → l.foldl (fun a x => max a (x.2.bit + x.2.bits)) a ≤ l'.foldl (fun a x => max a (x.2.bit + x.2.bits)) a'
  | [], _, a, a', h, hf => by cases hf; exact h
  | x :: r, _, a, a', h, hf => by
    cases hf with
    | cons h1 h2 =>
      simp only [List.foldl_cons]
      exact fold_max_mono r _ _ _ (by omega) h2
theorem ml_pk (meas : ShT → Int × Int) (pk st : Bool) : ∀ (l : List (FdOf ShT)) (en1 en2 : Int), 0 ≤ en1 → en1 ≤ en2 → (∀ f ∈ l, FOk f (meas f.t)) → F2 (fun x y => x.2.bit + x.2.bits ≤ y.2.bit + y.2.bits) (mlM meas true st en1 l) (mlM meas pk st en2 l)
  | [], _, _, _, _, _ => .nil
  | f :: r, en1, en2, h0, h, hok => by
    rw [mlM, mlM]
    obtain ⟨h1, h2⟩ := lay_pk (hok f (by simp)) h0 h pk
    have hb := lay_bound (hok f (by simp)) h0 true
    refine .cons (by simp only; omega) (ml_pk meas pk st r _ _ ?_ ?_ (fun g hg => hok g (by simp [hg])))
    · split <;> omega
    · split <;> omega
theorem ml_un (meas : ShT → Int × Int) (pk st : Bool) : ∀ (l : List (FdOf ShT)) (en : Int), 0 ≤ en → (∀ f ∈ l, FOk f (meas f.t)) → F2 (fun x y => x.2.bit + x.2.bits ≤ y.2.bit + y.2.bits ∧ x.2.al = y.2.al) (mlM meas pk false 0 l) (mlM meas pk st en l)
  | [], _, _, _ => .nil
  | f :: r, en, h0, hok => by
    rw [mlM, mlM]
    have hb := lay_bound (hok f (by simp)) h0 pk
    have hz : (layM (meas f.t) f 0 pk).bit = 0 := by
      obtain ⟨o1, o2, o3, o4, o5⟩ := hok f (by simp)
      have hu0 : ∀ u : Int, 0 < u → upM 0 u = 0 := fun u hu => by
        unfold upM
        rw [show (0 + u - 1) = u - 1 by omega, Int.ediv_eq_zero_of_lt (by omega) (by omega)]; simp
      unfold layM layB
      split
      · rename_i hbb
        have := o5 hbb
        simp only [hu0 _ (show 0 < 8 * (meas f.t).1 by omega), ite_self]
      · simp only
        exact hu0 _ (by split <;> omega)
    have hbits : (layM (meas f.t) f 0 pk).bits = (layM (meas f.t) f en pk).bits ∧ (layM (meas f.t) f 0 pk).al = (layM (meas f.t) f en pk).al := by
      unfold layM layB
      split <;> exact ⟨rfl, rfl⟩
    refine .cons ⟨by simp only; omega, hbits.2⟩ ?_
    simp only [Bool.false_eq_true, if_false]
    exact ml_un meas pk st r _ (by split <;> omega) (fun g hg => hok g (by simp [hg]))
theorem F2.imp {R S : FdOf ShT × Mb → FdOf ShT × Mb → Prop} (h : ∀ x y, R x y → S x y) : ∀ {l l'}, F2 R l l' → F2 S l l'
  | _, _, .nil => .nil
  | _, _, .cons h1 h2 => .cons (h _ _ h1) (F2.imp h h2)
theorem alF_eq (a0 : Int) : ∀ {l l' : List (FdOf ShT × Mb)}, F2 (fun x y => x.2.al = y.2.al) l l' → alF a0 l = alF a0 l' := by
  intro l l' h
  unfold alF
  generalize max 1 a0 = b
  induction h generalizing b with
  | nil => rfl
  | cons h1 _ ih => simp only [List.foldl_cons, h1]; exact ih _
theorem ml_pk_al (meas : ShT → Int × Int) (st : Bool) : ∀ (l : List (FdOf ShT)) (en : Int), ∀ x ∈ mlM meas true st en l, x.2.al = 1
  | [], _, x, hx => by cases hx
  | f :: r, en, x, hx => by
    rw [mlM] at hx
    rcases List.mem_cons.1 hx with rfl | hx
    · unfold layM layB
      split <;> simp
    · exact ml_pk_al meas st r _ x hx
theorem alF_ones (a0 : Int) : ∀ (l : List (FdOf ShT × Mb)), (∀ x ∈ l, x.2.al = 1) → alF a0 l = max 1 a0 := by
  intro l h
  unfold alF
  suffices ∀ b, 1 ≤ b → l.foldl (fun a x => max a x.2.al) b = b from this _ (by omega)
  induction l with
  | nil => intro b _; rfl
  | cons x r ih =>
    intro b hb
    simp only [List.foldl_cons, h x (by simp)]
    rw [show max b 1 = b by omega]
    exact ih (fun y hy => h y (by simp [hy])) b hb
/-- Powers of two. -/
def P2 (x : Int) : Prop := x = 1 ∨ x = 2 ∨ x = 4 ∨ x = 8 ∨ x = 16 ∨ x = 32 ∨ x = 64
theorem P2.max {x y : Int} (h : P2 x) (k : P2 y) : P2 (max x y) := by
  unfold P2 at *
  omega
theorem alF_p2 (a0 : Int) (h0 : P2 (max 1 a0)) : ∀ (l : List (FdOf ShT × Mb)), (∀ x ∈ l, P2 x.2.al) → P2 (alF a0 l) := by
  intro l h
  unfold alF
  generalize max 1 a0 = b at h0
  induction l generalizing b with
  | nil => exact h0
  | cons x r ih => exact ih (fun y hy => h y (by simp [hy])) _ (h0.max (h x (by simp)))
theorem ali_p2 {n : Int} (h : aliM n = true) : P2 (max 1 n) := by
  unfold aliM at h
  simp only [Bool.or_eq_true, beq_iff_eq] at h
  unfold P2
  omega
theorem lay_p2 {f : FdOf ShT} {e : Int × Int} (hok : FOk f e) (h1 : P2 e.2) (hk : 0 ≤ f.bits → P2 e.1) (en : Int) (pk : Bool) : P2 (layM e f en pk).al := by
  unfold layM layB
  split
  · rename_i hb
    simp only
    split
    · rw [show 8 * e.1 / 8 = e.1 by omega]
      exact hk hb
    · exact .inl rfl
  · simp only
    split
    · exact .inl rfl
    · exact h1
theorem mea_p2 : ∀ (d : Nat) (t : ShT), rigM d t = true → P2 (meaM d t).2 ∧ (t.sh = 1 → P2 (meaM d t).1)
  | 0, _, h => by cases h
  | d + 1, t, h => by
    obtain ⟨hf, hp⟩ := rig_form h
    rw [meaM]
    split
    · rename_i h1
      have hz := (form_int hf h1).1
      have hc := siz_cases t.k
      have : P2 (sizM t.k) := by unfold P2; omega
      exact ⟨this, fun _ => this⟩
    · rename_i h1
      have hn1 : t.sh ≠ 1 := by simpa using h1
      refine ⟨?_, fun h => absurd h hn1⟩
      split
      · exact .inr (.inr (.inr (.inl rfl)))
      · rename_i h2
        split
        · rename_i h3
          obtain ⟨_, q1, q2, _⟩ := form_arr hf h3
          match hof : t.of, q2 with
          | [x], _ => exact (mea_p2 d x (hp x (by unfold ShT.parts; rw [hof]; simp))).1
        · rename_i h3
          obtain ⟨_, _, _, _, ha, hs⟩ := form_struct hf (by simpa using h1) (by simpa using h2) (by simpa using h3)
          obtain ⟨f1, f2, f3, _⟩ := ffs_all hs
          refine alF_p2 _ (ali_p2 ha) _ (fun x hx => ?_)
          have hok : ∀ f ∈ t.fs, FOk f (meaM d f.t) := fun f hfm => fok_of (mea_ok d) (f3 f hfm) (hp _ (fs_part hfm))
          obtain ⟨hfm, en', q0, q1, q2⟩ := ml_mem (meaM d) t.pk (t.sh == 4) t.fs 0 (by omega) hok _ hx
          have hr := hp _ (fs_part hfm)
          rw [q2]
          refine lay_p2 (hok _ hfm) (mea_p2 d _ hr).1 (fun hb => (mea_p2 d _ hr).2 ?_) _ _
          have hff := f3 _ hfm
          unfold ffM at hff
          rw [if_neg (by omega)] at hff
          split at hff
          · cases hff
          · simp only [Bool.and_eq_true, decide_eq_true_eq, beq_iff_eq] at hff
            exact hff.1
theorem p2_div {a b x : Int} (ha : P2 a) (hb : P2 b) (h : a ≤ b) (hx : x % b = 0) : x % a = 0 := by
  unfold P2 at ha hb
  rcases ha with rfl | rfl | rfl | rfl | rfl | rfl | rfl <;> rcases hb with rfl | rfl | rfl | rfl | rfl | rfl | rfl <;> omega
theorem mem_str {d : Nat} {t : ShT} (hs : t.sh = 4 ∨ t.sh = 5) : meaM (d + 1) t = memM t (t.ml (meaM d)) := by
  have h1 : (t.sh == 1) = false := by simp; omega
  have h2 : (t.sh == 2) = false := by simp; omega
  have h3 : (t.sh == 3) = false := by simp; omega
  rw [meaM, h1, h2, h3]
  rfl
theorem chk_str {t : ShT} (hs : t.sh = 4 ∨ t.sh = 5) (hr : rigM 6 t = true) (hle : upM (upM (enF (t.ml (meaM 5))) 8 / 8) (alF t.al (t.ml (meaM 5))) ≤ 65536) :
    chkM t = ((upM (upM (enF (t.ml (meaM 5))) 8 / 8) (alF t.al (t.ml (meaM 5))), alF t.al (t.ml (meaM 5))), 0) := by
  unfold chkM
  rw [hr, if_pos rfl, mem_str hs]
  unfold memM
  simp only
  rw [if_neg (by omega), show min (upM (upM (enF (t.ml (meaM 5))) 8 / 8) (alF t.al (t.ml (meaM 5)))) 65537 = upM (upM (enF (t.ml (meaM 5))) 8 / 8) (alF t.al (t.ml (meaM 5))) by omega]
theorem rig_set {t t' : ShT} (hs : t.sh = 4 ∨ t.sh = 5) (hs' : t'.sh = 4 ∨ t'.sh = 5) (hk : t'.k = t.k) (hn : t'.n = t.n) (hof : t'.of = t.of) (hfs : t'.fs = t.fs) (hal : t'.al = t.al) (hr : rigM 6 t = true) : rigM 6 t' = true := by
  obtain ⟨hf, hp⟩ := rig_form hr
  have hparts : t'.parts = t.parts := by unfold ShT.parts; rw [hof, hfs]
  rw [rigM, hparts]
  rw [Bool.and_eq_true]
  refine ⟨?_, List.all_eq_true.2 hp⟩
  obtain ⟨q0, q1, q2, q3, q4, q5⟩ := form_struct hf (by simp; omega) (by simp; omega) (by simp; omega)
  unfold formM formW
  have h1 : (t'.sh == 1) = false := by simp; omega
  have h2 : (t'.sh == 2) = false := by simp; omega
  have h3 : (t'.sh == 3) = false := by simp; omega
  have h4 : (t'.sh == 4 || t'.sh == 5) = true := by simpa using hs'
  rw [h1, h2, h3, h4, hn, hof, hk, hal, hfs, q1, q3, q4, q5, q2]
  rfl
/-- What ShapePacked asks. -/
theorem packed_facts (t : ShT) (hrg : rigM 6 t = true) (hs : t.sh = 4 ∨ t.sh = 5) (n a : Int) (hc : chkM t = ((n, a), 0)) :
    ∃ m b k c, chkM t.setPk = ((m, b), 0) ∧ chkM t.setSh = ((k, c), 0) ∧ m ≤ n ∧ b ≤ a ∧ k ≤ n ∧ t.fs.length ≤ 40 ∧
      ∀ f ∈ t.fs, chkM f.t = (meaM 5 f.t, 0) ∧ (f.bits < 0 → (meaM 5 f.t).1 ≤ k) := by
  obtain ⟨k1, k2, k3, k4, k5, k6, k7, k8, k9⟩ := lies_facts t hrg hs n a hc
  obtain ⟨hf, hp⟩ := rig_form hrg
  obtain ⟨_, _, _, _, ha, hfs⟩ := form_struct hf (by simp; omega) (by simp; omega) (by simp; omega)
  obtain ⟨f1, f2, f3, _⟩ := ffs_all hfs
  have hok : ∀ f ∈ t.fs, FOk f (meaM 5 f.t) := fun f hfm => fok_of (mea_ok 5) (f3 f hfm) (hp _ (fs_part hfm))
  have hmo : ∀ x ∈ t.ml (meaM 5), MOk x.2 := ml_ok (meaM 5) t.pk (t.sh == 4) t.fs 0 0 hok (by omega) (by omega) (by omega)
  have hen := enF_ok _ hmo
  have hao := alF_ok t.al (ali_le ha).2 _ hmo
  have hp2 : P2 (alF t.al (t.ml (meaM 5))) := by
    have := (mea_p2 6 t hrg).1
    rw [mem_str hs] at this
    exact this
  -- the type itself
  have hn : n = upM (upM (enF (t.ml (meaM 5))) 8 / 8) (alF t.al (t.ml (meaM 5))) ∧ a = alF t.al (t.ml (meaM 5)) := by
    unfold chkM at hc
    rw [hrg, if_pos rfl, mem_str hs] at hc
    unfold memM at hc
    split at hc
    · simp at hc
    · rename_i hle
      simp only at hle
      simp only [Prod.mk.injEq, and_true] at hc
      omega
  obtain ⟨hn, hal⟩ := hn
  have hx2 := upM_le (n := enF (t.ml (meaM 5))) (m := 8) hen.1 (by omega)
  have hx3 := upM_le (n := upM (enF (t.ml (meaM 5))) 8 / 8) (m := alF t.al (t.ml (meaM 5))) (by omega) hao.1
  -- packed
  have hmoP : ∀ x ∈ t.setPk.ml (meaM 5), MOk x.2 := ml_ok (meaM 5) true (t.sh == 4) t.fs 0 0 hok (by omega) (by omega) (by omega)
  have henP := enF_ok _ hmoP
  have hleP : enF (t.setPk.ml (meaM 5)) ≤ enF (t.ml (meaM 5)) := fold_max_mono _ _ 0 0 (by omega) (ml_pk (meaM 5) t.pk (t.sh == 4) t.fs 0 0 (by omega) (by omega) hok)
  have halP : alF t.setPk.al (t.setPk.ml (meaM 5)) = max 1 t.al := alF_ones _ _ (ml_pk_al (meaM 5) (t.sh == 4) t.fs 0)
  have hbP : max 1 t.al ≤ alF t.al (t.ml (meaM 5)) := by have := alF_le t.al (t.ml (meaM 5)); omega
  have hxP := upM_le (n := enF (t.setPk.ml (meaM 5))) (m := 8) henP.1 (by omega)
  have hmP : upM (enF (t.setPk.ml (meaM 5))) 8 ≤ upM (enF (t.ml (meaM 5))) 8 := upM_least henP.1 (by omega) (by omega) (upM_mul _ _)
  have hszP : upM (upM (enF (t.setPk.ml (meaM 5))) 8 / 8) (alF t.setPk.al (t.setPk.ml (meaM 5))) ≤ n := by
    rw [halP, hn]
    exact upM_least (by omega) (by omega) (by omega) (p2_div (ali_p2 ha) hp2 hbP (upM_mul _ _))
  have hcP := chk_str (t := t.setPk) hs (rig_set hs hs rfl rfl rfl rfl rfl hrg) (by omega)
  -- a union
  have hmoU : ∀ x ∈ t.setSh.ml (meaM 5), MOk x.2 := ml_ok (meaM 5) t.pk false t.fs 0 0 hok (by omega) (by omega) (by omega)
  have henU := enF_ok _ hmoU
  have hFU := ml_un (meaM 5) t.pk (t.sh == 4) t.fs 0 (by omega) hok
  have hleU : enF (t.setSh.ml (meaM 5)) ≤ enF (t.ml (meaM 5)) := fold_max_mono _ _ 0 0 (by omega) (F2.imp (fun x y h => h.1) hFU)
  have halU : alF t.setSh.al (t.setSh.ml (meaM 5)) = alF t.al (t.ml (meaM 5)) := alF_eq t.al (F2.imp (fun x y h => h.2) hFU)
  have hxU := upM_le (n := enF (t.setSh.ml (meaM 5))) (m := 8) henU.1 (by omega)
  have hmU : upM (enF (t.setSh.ml (meaM 5))) 8 ≤ upM (enF (t.ml (meaM 5))) 8 := upM_least henU.1 (by omega) (by omega) (upM_mul _ _)
  have hszU : upM (upM (enF (t.setSh.ml (meaM 5))) 8 / 8) (alF t.setSh.al (t.setSh.ml (meaM 5))) ≤ n := by
    rw [halU, hn]
    exact upM_least (by omega) (by omega) (by omega) (upM_mul _ _)
  have hxU2 := upM_le (n := upM (enF (t.setSh.ml (meaM 5))) 8 / 8) (m := alF t.setSh.al (t.setSh.ml (meaM 5))) (by omega) (by rw [halU]; exact hao.1)
  have hcU := chk_str (t := t.setSh) (.inr rfl) (rig_set hs (.inr rfl) rfl rfl rfl rfl rfl hrg) (by omega)
  refine ⟨_, _, _, _, hcP, hcU, hszP, by rw [halP, hal]; exact hbP, hszU, k7, fun f hfm => ?_⟩
  obtain ⟨i, hi, rfl⟩ := List.getElem_of_mem hfm
  have hL := (k9 i hi (by rw [k8]; exact hi)).2
  refine ⟨hL.chk, fun hb => ?_⟩
  have hlu : i < (t.setSh.ml (meaM 5)).length := by
    have : (t.setSh.ml (meaM 5)).length = t.fs.length := ml_len _ _ _ _ _
    omega
  have hxm : (t.setSh.ml (meaM 5))[i] ∈ t.setSh.ml (meaM 5) := List.getElem_mem _
  have hfst : ((t.setSh.ml (meaM 5))[i]).1 = t.fs[i] := by
    have e1 : (t.setSh.ml (meaM 5)).map Prod.fst = t.fs := ml_fst _ _ _ _ _
    have e2 : ((t.setSh.ml (meaM 5)).map Prod.fst)[i]'(by simpa using hlu) = t.fs[i] := by simp only [e1]
    simpa using e2
  obtain ⟨_, en', q0, _, q2⟩ := ml_mem (meaM 5) t.pk false t.fs 0 (by omega) hok _ hxm
  have hme := enF_mem _ _ hxm
  have hmok := hmoU _ hxm
  rw [hfst] at q2
  have hbits : ((t.setSh.ml (meaM 5))[i]).2.bits = 8 * (meaM 5 t.fs[i].t).1 := by
    rw [q2]
    unfold layM
    rw [if_neg (by omega)]
  have hb0 := hmok.1
  omega
end Go.Proofs.Ytdmlgdkpimjknaa
