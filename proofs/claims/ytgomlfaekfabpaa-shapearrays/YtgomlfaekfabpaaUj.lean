/-
  Package shape: members: an iterator over the members of a type.
-/
import Derived.Test.YtgomlfaekfabpaaUf
import Derived.Test.YtgomlfaekfabpaaUi
namespace Go.Proofs.Ytgomlfaekfabpaa
open Go Go.RowKit Go.Shelf
attribute [local go_sem] Oper.semAt_some
set_option linter.unusedVariables false
set_option linter.unusedSimpArgs false

/-- What is asked of a member, and of what its type takes. -/
def FOk (f : FdOf ShT) (e : Int × Int) : Prop := 0 ≤ e.1 ∧ e.1 ≤ 65537 ∧ 1 ≤ e.2 ∧ e.2 ≤ 64 ∧ (0 ≤ f.bits → 1 ≤ e.1 ∧ e.1 ≤ 8 ∧ f.bits ≤ 8 * e.1)
theorem lay_bound {f : FdOf ShT} {e : Int × Int} (h : FOk f e) {en : Int} (h0 : 0 ≤ en) (pk : Bool) :
    en ≤ (layM e f en pk).bit ∧ (layM e f en pk).bit ≤ en + 511 ∧ 0 ≤ (layM e f en pk).bits ∧ (layM e f en pk).bits ≤ 524296 ∧ 1 ≤ (layM e f en pk).al ∧ (layM e f en pk).al ≤ 64 := by
  obtain ⟨h1, h2, h3, h4, h5⟩ := h
  unfold layM
  by_cases hb : 0 ≤ f.bits
  · obtain ⟨q1, q2, q3⟩ := h5 hb
    rw [if_pos hb]
    have hu := upM_le (n := en) (m := 8 * e.1) h0 (by omega)
    unfold layB
    simp only
    refine ⟨by split <;> omega, by split <;> omega, hb, by omega, by split <;> omega, by split <;> omega⟩
  · rw [if_neg hb]
    simp only
    have hu := upM_le (n := en) (m := 8 * (if pk then 1 else e.2)) h0 (by split <;> omega)
    refine ⟨hu.1, ?_, by omega, by omega, by split <;> omega, by split <;> omega⟩
    have := hu.2.1
    split at this <;> simp_all <;> omega
def mlM (meas : ShT → Int × Int) (pk st : Bool) : Int → List (FdOf ShT) → List (FdOf ShT × Mb)
  | _, [] => []
  | en, f :: r => (f, layM (meas f.t) f en pk) :: mlM meas pk st (if st then (layM (meas f.t) f en pk).bit + (layM (meas f.t) f en pk).bits else en) r
def ShT.ml (meas : ShT → Int × Int) (t : ShT) : List (FdOf ShT × Mb) := mlM meas t.pk (t.sh == 4) 0 t.fs
def encM (x : FdOf ShT × Mb) : Array Value := #[mbV x.1 x.2]
/-- What an iterator over members asks of its rounds. -/
def KpM (N0 : Nat) (A B : World) : Prop := Below N0 A B ∧ (∀ j cs, Bk A j 77 cs → Bk B j 77 cs) ∧ (∀ j cs, Bk A j 25 cs → Bk B j 25 cs)
theorem KpM.trans {N0 : Nat} {A B C : World} (h : KpM N0 A B) (k : KpM N0 B C) : KpM N0 A C := ⟨h.1.trans k.1, fun j cs b => k.2.1 j cs (h.2.1 j cs b), fun j cs b => k.2.2 j cs (h.2.2 j cs b)⟩
theorem KpM.below {N0 : Nat} {A B : World} (h : Below A.heap.size A B) (hN : N0 ≤ A.heap.size) : KpM N0 A B := ⟨h.mono hN, fun j cs b => b.below h, fun j cs b => b.below h⟩
theorem KpM.drew {N0 : Nat} (A : World) : KpM N0 A A.drew := ⟨(Below.refl _ A).drew, fun j cs b => b, fun j cs b => b⟩
theorem KpM.set {N0 : Nat} {A : World} {b i : Nat} {T : TypeId} {cs : Array Value} (hb : Bk A b T cs) (h1 : T ≠ 77) (h2 : T ≠ 25) (hN : N0 ≤ b) (v : Value) : KpM N0 A (A.setCell ⟨b, i, none⟩ v) := by
  refine ⟨(Below.refl _ A).setCell (p := ⟨b, i, none⟩) hN v, fun j cs' h => ?_, fun j cs' h => ?_⟩
  all_goals
    refine h.other _ _ (fun e => ?_)
    subst e
    unfold Bk at h hb
    rw [hb] at h
    simp at h
    first | exact h1 h.2 | exact h2 h.2
theorem KpM.put {N0 : Nat} {A : World} {l : Nat} {o : Obj} (hl : A.heap[l]? = some o) (ho : o.isCells = false) (hN : N0 ≤ l) (o' : Obj) : KpM N0 A (A.putObj l o') := by
  refine ⟨(Below.refl _ A).grown (grownBy_putObj' A l o') (by have := (Array.getElem?_eq_some_iff.1 hl).1; omega) (fun r e => by cases e; omega), fun j cs' h => ?_, fun j cs' h => ?_⟩
  all_goals
    refine (World.putObj_heap_other (fun e => ?_)).trans h
    subst e
    unfold Bk at h
    rw [hl] at h
    cases h
    cases ho
theorem members_any (t : ShT) (w : World) :
    Calls Try.prog 43 #[t.v] w fun e w' => e = .returned (.func (.func 70) #[] #[.pointer (some ⟨w.heap.size, 0, none⟩)]) ∧ w' = w.alloc (.cells t.cs 25) := by
  unfold ShT.v ShT.cs
  go_enter Try.func43, Try.ntmps43
  go_wp2
  go_ret
  exact ⟨rfl, rfl⟩
set_option maxRecDepth 100000 in
set_option maxHeartbeats 20000000 in
theorem members1_in (n : Nat) (h1 : 1 ≤ n) (lp Bd N0 : Nat) (t : ShT) (meas : ShT → Int × Int) (hfl : t.fs.length ≤ 40) (hok : ∀ f ∈ t.fs, FOk f (meas f.t))
    (hm : ∀ f ∈ t.fs, ∀ W, f.t.In W.heap.size W → Calls Try.prog 64 #[f.t.v] W fun r w' => r = .returned (extV (meas f.t)) ∧ Below W.heap.size W w')
    (J Jx : List (FdOf ShT × Mb) → World → Prop) (W : World)
    (hJ : AbidesO W.heap.size W.heap.size 0 J) (hJx : AbidesO W.heap.size W.heap.size 0 Jx)
    (hY : ∀ pre x W1, J pre W1 → W.heap.size + 0 ≤ W1.heap.size → noRow 5 W.heap.size 0 W1 → pre ++ [x] <+: t.ml meas → YieldAt Fence.wide (n - 1) Try.prog lp (encM x) W1 fun e W' =>
      (e = .returned (.bool true) ∧ J (pre ++ [x]) W' ∧ KeepsO W.heap.size 0 W1 W' ∧ KpM N0 W1 W') ∨ (e = .returned (.bool false) ∧ Jx (pre ++ [x]) W' ∧ KeepsO W.heap.size 0 W1 W'))
    (hN : N0 ≤ W.heap.size) (hb : Bk W Bd 25 t.cs) (hin : t.In N0 W) (h0 : J [] W) :
    CallsIn Fence.wide n Try.prog 70 #[.func (.yield lp) #[] #[], .pointer (some ⟨Bd, 0, none⟩)] W fun e W' => (∃ v, e = .returned v) ∧
      (J (t.ml meas) W' ∨ (∃ pre, pre <+: t.ml meas ∧ Jx pre W')) := by
  obtain ⟨c0, c1, c2, c3, c4, c5, c6⟩ := TyB.seven (t := t) hb
  have HIN := veil hin
  have HB := veil hb
  have HY := veil hY
  have HJ := veil hJ
  have HM := veil hm
  have HOK := veil hok
  clear hin hb hY hJ hm hok c0 c1 c2 c3 c5 c6
  refine callsIn_of_wp Try.func70 rfl trivial ?_ rfl
  simp only [Try.ntmps70, List.size_toArray, List.length_cons, List.length_nil, Nat.reduceAdd, Nat.reduceSub, Array.replicate_succ, Array.replicate_zero, List.push_toArray, List.append_toArray, List.nil_append, List.cons_append]
  gi_wp2
  gi_loopw [3, 10] (fun s i wr => ∃ (k : Nat) (en : Int), i = .int .i64 k ∧ s = .int .i64 en ∧ k ≤ t.fs.length ∧ 0 ≤ en ∧ en ≤ 524808 * k ∧ (∃ pre, J pre wr ∧ Hid (t.ml meas = pre ++ mlM meas t.pk (t.sh == 4) en (t.fs.drop k))) ∧ W.heap.size ≤ wr.heap.size ∧ Hid (Below N0 W wr) ∧ Hid (Bk wr Bd 25 t.cs))
    (fun s i wr => t.fs.length - (intOf i).toNat)
  case atStart => exact ⟨0, 0, rfl, rfl, Nat.zero_le _, Int.le_refl _, by omega, ⟨[], h0, by rw [List.drop_zero]; rfl⟩, Nat.le_refl _, Below.refl _ _, HB⟩
  case round =>
    obtain ⟨k, en, rfl, rfl, hk, hen0, hen1, ⟨pre, hJp, hml⟩, hsz, hbe, hbx⟩ := hrel
    by_cases hlt : k < t.fs.length
    · obtain ⟨g, o, hpp, hg, hc, _, hfin⟩ := ((unveil HIN).below (unveil hbe)).fs k hlt
      obtain ⟨d0, d1, d2, d3, d4, d5, d6, d7, d8⟩ := nine hc
      obtain ⟨e0, _, _, _, _, e5, _⟩ := TyB.seven (t := t) (unveil hbx)
      have hBlt := (unveil hbx).lt
      have hmem : t.fs[k] ∈ t.fs := List.getElem_mem _
      have hfo := unveil HOK _ hmem
      obtain ⟨b1, b2, b3, b4, b5, b6⟩ := lay_bound hfo hen0 t.pk
      have hdr : t.fs.drop k = t.fs[k] :: t.fs.drop (k + 1) := List.drop_eq_getElem_cons hlt
      have hml' := unveil hml
      rw [hdr, mlM] at hml'
      have HLA : Hid (∀ ob, Calls Try.prog 71 #[t.fs[k].v, .int .i64 en, .bool t.pk] (wr.alloc ob) fun r w' => r = .returned (mbV t.fs[k] (layM (meas t.fs[k].t) t.fs[k] en t.pk)) ∧ Below (wr.alloc ob).heap.size (wr.alloc ob) w') := fun ob =>
        lay_any t.fs[k] en t.pk (meas t.fs[k].t) _ hen0 (by omega) hfo.1 hfo.2.1 hfo.2.2.1 hfo.2.2.2.1 hfo.2.2.2.2 (fun W' hb' => unveil HM _ hmem W' (((hfin.below ((Below.refl _ wr).alloc (by have := (unveil hbe).size; omega) ob)).mono (by have := (unveil hbe).size; simp; omega)).below hb' |>.mono hb'.size))
      have HY2 : Hid (∀ ob W2, Below (wr.alloc ob).heap.size (wr.alloc ob) W2 → YieldAt Fence.wide (n - 1) Try.prog lp (encM (t.fs[k], layM (meas t.fs[k].t) t.fs[k] en t.pk)) (W2.alloc (.cells (mbC t.fs[k] (layM (meas t.fs[k].t) t.fs[k] en t.pk)) 77)) fun e W' =>
          (e = .returned (.bool true) ∧ J (pre ++ [(t.fs[k], layM (meas t.fs[k].t) t.fs[k] en t.pk)]) W' ∧ KeepsO W.heap.size 0 (W2.alloc (.cells (mbC t.fs[k] (layM (meas t.fs[k].t) t.fs[k] en t.pk)) 77)) W' ∧ KpM N0 (W2.alloc (.cells (mbC t.fs[k] (layM (meas t.fs[k].t) t.fs[k] en t.pk)) 77)) W') ∨ (e = .returned (.bool false) ∧ Jx (pre ++ [(t.fs[k], layM (meas t.fs[k].t) t.fs[k] en t.pk)]) W' ∧ KeepsO W.heap.size 0 (W2.alloc (.cells (mbC t.fs[k] (layM (meas t.fs[k].t) t.fs[k] en t.pk)) 77)) W')) := fun ob W2 h2 => by
        have hs2 := h2.size
        simp only [World.size_alloc] at hs2
        exact unveil HY pre _ _ ((unveil HJ).alloc _ ((unveil HJ).turn _ _ _ none ((unveil HJ).alloc ob hJp) (below_grown h2) (fun r e => by cases e))) (by simp; omega) (fun j c fz q1 q2 => by omega) (by rw [hml']; exact ⟨_, List.append_assoc _ _ _⟩)
      have HPRE : Hid (pre ++ [(t.fs[k], layM (meas t.fs[k].t) t.fs[k] en t.pk)] <+: t.ml meas) := by unfold Hid; rw [hml']; exact ⟨_, List.append_assoc _ _ _⟩
      have HML : Hid (t.ml meas = (pre ++ [(t.fs[k], layM (meas t.fs[k].t) t.fs[k] en t.pk)]) ++ mlM meas t.pk (t.sh == 4) (if (t.sh == 4) then (layM (meas t.fs[k].t) t.fs[k] en t.pk).bit + (layM (meas t.fs[k].t) t.fs[k] en t.pk).bits else en) (t.fs.drop (k + 1))) := by unfold Hid; rw [hml', List.append_assoc]; rfl
      have HKB : Hid (∀ ob W2 W5, Below (wr.alloc ob).heap.size (wr.alloc ob) W2 → KpM N0 (W2.alloc (.cells (mbC t.fs[k] (layM (meas t.fs[k].t) t.fs[k] en t.pk)) 77)) W5 → KeepsO W.heap.size 0 (W2.alloc (.cells (mbC t.fs[k] (layM (meas t.fs[k].t) t.fs[k] en t.pk)) 77)) W5 →
          Bk W5 W2.heap.size 77 (mbC t.fs[k] (layM (meas t.fs[k].t) t.fs[k] en t.pk)) ∧ Bk W5 Bd 25 t.cs ∧ Below N0 W W5 ∧ W.heap.size ≤ W5.heap.size) := fun ob W2 W5 h2 h5 h6 => by
        have hs2 := h2.size
        have hs6 := h6.size
        simp only [World.size_alloc] at hs2 hs6
        have hb0 := (unveil hbe).size
        have b0 : Bk W2 Bd 25 t.cs := Bk.below (Bk.alloc (unveil hbx) ob) h2
        exact ⟨h5.2.1 _ _ (Bk.new _ _ _), h5.2.2 _ _ (b0.alloc _), ((((unveil hbe).alloc (by omega) ob).trans (h2.mono (by simp; omega))).alloc (by omega) _).trans h5.1, by omega⟩
      rw [hpp]
      clear hml' hdr hc hfo hmem hfin
      generalize hf : t.fs[k] = f at *
      generalize hM : layM (meas f.t) f en t.pk = M at *
      obtain ⟨m1, m2, m3, m4⟩ := M
      simp only at b1 b2 b3 b4 b5 b6
      unfold mbV mbC FdOf.v FdOf.cs encM at *
      unfold mbV mbC at *
      simp only at *
      gi_wp2_with (refine ⟨trivial, ?_⟩; gi_at_call 71; refine (callsIn_wide.2 (unveil HLA _)).mono ?_; rintro e W2 ⟨rfl, hb2⟩; obtain ⟨fn, tmps, assign, body, hy, hRR⟩ := unveil HY2 _ W2 hb2; have HR := veil hRR; clear hRR)
      refine (unveil HR).mono ?_
      rintro e W5 (⟨rfl, hJ5, hk5, hb5⟩ | ⟨rfl, hJx5, hk5⟩)
      · obtain ⟨bm, bt, bbe, bsz⟩ := unveil HKB _ W2 W5 hb2 hb5 hk5
        have q9 := bm.cell 9
        have q10 := bm.cell 10
        simp only [List.getElem?_toArray, List.getElem?_cons_succ, List.getElem?_cons_zero] at q9 q10
        obtain ⟨r0, _, _, _, _, _, _⟩ := TyB.seven (t := t) bt
        have HBT := veil bt
        have HBB := veil bbe
        clear bm bt bbe hb2 hb5 HR hy HKB HY2 HLA e0 e5 d0 d1 d2 d3 d4 d5 d6 d7 d8
        cases hs : t.sh == 4
        · gi_wp2
          go_roundw
          case rel =>
            have hml2 := unveil HML
            rw [hs] at hml2
            exact ⟨k + 1, en, by go_num, rfl, by omega, hen0, by omega, ⟨_, hJ5, by rw [hs]; exact hml2⟩, bsz, HBB, HBT⟩
          case measure => simp [intOf]; omega
        · gi_wp2
          go_roundw
          case rel =>
            have hml2 := unveil HML
            rw [hs] at hml2
            exact ⟨k + 1, m1 + m2, by go_num, rfl, by omega, by omega, by omega, ⟨_, hJ5, by rw [hs]; exact hml2⟩, bsz, HBB, HBT⟩
          case measure => simp [intOf]; omega
      · gi_wp2
        refine bodyPost_ret (results_none rfl _ _ _) rfl ?_
        exact ⟨⟨_, rfl⟩, .inr ⟨_, unveil HPRE, hJx5⟩⟩
    · obtain rfl : k = t.fs.length := by omega
      have hml' := unveil hml
      rw [List.drop_length, mlM, List.append_nil] at hml'
      rw [← hml'] at hJp
      gi_wp2
      refine bodyPost_end (results_none (fn := Try.f70) rfl _ _ _) rfl ?_
      exact ⟨⟨_, rfl⟩, .inl hJp⟩
theorem members_stops (n : Nat) (h1 : 1 ≤ n) (Bd N0 : Nat) (t : ShT) (meas : ShT → Int × Int) (hfl : t.fs.length ≤ 40) (hok : ∀ f ∈ t.fs, FOk f (meas f.t))
    (hm : ∀ f ∈ t.fs, ∀ W, f.t.In W.heap.size W → Calls Try.prog 64 #[f.t.v] W fun r w' => r = .returned (extV (meas f.t)) ∧ Below W.heap.size W w')
    (w : World) (hN : N0 ≤ w.heap.size) (hb : Bk w Bd 25 t.cs) (hin : t.In N0 w) :
    SeqStopsO Fence.wide n 0 Try.prog 70 #[.pointer (some ⟨Bd, 0, none⟩)] encM (KpM N0) (t.ml meas) w :=
  fun lp J Jx W hW hJ hJx hY h0 => members1_in n h1 lp Bd N0 t meas hfl hok hm J Jx W hJ hJx hY (Nat.le_trans hN hW.size) (hb.below hW) (hin.below (hW.mono hN)) h0
end Go.Proofs.Ytgomlfaekfabpaa
