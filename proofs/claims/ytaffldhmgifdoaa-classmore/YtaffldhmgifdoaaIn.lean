/-
  Package class: Pass.
-/
import Derived.Test.YtaffldhmgifdoaaIm
import Derived.Test.YtaffldhmgifdoaaIh
namespace Go.Proofs.Ytaffldhmgifdoaa
open Go Go.RowKit Go.Shelf
attribute [local go_sem] Oper.semAt_some
set_option linter.unusedVariables false
set_option linter.unusedSimpArgs false

/-- Types of a list in memory. -/
def TyLs (B : Nat) (W : World) (q : Option Addr) (l : List ShT) : Prop := ∀ (i : Nat) (h : i < l.length), ∃ g o, q = some ⟨g, o, none⟩ ∧ g < B ∧ (∀ (j : Nat), j < 7 → W.cell? ⟨g, o + i * 7 + j, none⟩ = l[i].cs[j]?) ∧ l[i].In B W
theorem TyLs.below {B : Nat} {W W' : World} {q : Option Addr} {l : List ShT} (h : TyLs B W q l) (hb : Below B W W') : TyLs B W' q l := fun i hi => by
  obtain ⟨g, o, e, hg, hc, hin⟩ := h i hi
  exact ⟨g, o, e, hg, fun j hj => (hb.cell (p := ⟨g, o + i * 7 + j, none⟩) hg).trans (hc j hj), hin.below hb⟩
/-- A value as it lies in memory. -/
structure Va where
  z : Int
  a : Int
  p : Option Addr
  c : Nat
  cl : List Int
def Va.t (v : Va) : Int × Int × List Int := (v.z, v.a, v.cl)
def vaL (v : Va) : List Value := [.int .i64 v.z, .int .i64 v.a, .slice v.p v.cl.length v.c]
def vaLs (l : List Va) : List Value := l.flatMap vaL
theorem vaLs_snoc (l : List Va) (v : Va) : vaLs (l ++ [v]) = vaLs l ++ vaL v := by simp [vaLs]
theorem vaLs_at : ∀ (l : List Va) (i : Nat) (h : i < l.length), (vaLs l)[i * 3]? = some (.int .i64 l[i].z) ∧ (vaLs l)[i * 3 + 1]? = some (.int .i64 l[i].a) ∧ (vaLs l)[i * 3 + 2]? = some (.slice l[i].p l[i].cl.length l[i].c)
  | v :: r, 0, _ => ⟨rfl, rfl, rfl⟩
  | v :: r, i + 1, h => by
    have ih := vaLs_at r i (by simpa using h)
    have e : vaLs (v :: r) = vaL v ++ vaLs r := rfl
    rw [e]
    have e3 : (vaL v).length = 3 := rfl
    simp only [List.getElem_cons_succ]
    refine ⟨?_, ?_, ?_⟩
    · rw [List.getElem?_append_right (by omega), e3, show (i + 1) * 3 - 3 = i * 3 by omega]; exact ih.1
    · rw [List.getElem?_append_right (by omega), e3, show (i + 1) * 3 + 1 - 3 = i * 3 + 1 by omega]; exact ih.2.1
    · rw [List.getElem?_append_right (by omega), e3, show (i + 1) * 3 + 2 - 3 = i * 3 + 2 by omega]; exact ih.2.2
theorem infoVa : (Try.prog.info? 119).map (fun i => (i.zero, i.size, i.bytes)) = some (some (.agg #[.int .i64 0, .int .i64 0, .slice none 0 0]), 3, 40) := by kernel_rfl
theorem va_cells (W : World) (v : Va) (ty : TypeId) : ∀ (j : Nat) (u : Value), (vaL v)[j]? = some u → (W.alloc (.cells (vaL v).toArray ty)).cell? ((⟨W.heap.size, 0, none⟩ : Addr).add j) = some u := by
  intro j u h
  have hadd : (⟨W.heap.size, 0, none⟩ : Addr).add j = ⟨W.heap.size, j, none⟩ := by unfold Addr.add; split <;> simp_all
  rw [hadd, Bk.cell (Bk.new W ty _)]
  simpa using h
theorem va_at {W : World} {base n cap : Nat} {q : Option Addr} {vs : List Va} (h : W.ownsRow base 119 3 (.slice q n cap) n (vaLs vs)) (hn : vs.length = n) {i : Nat} (hi : i < vs.length) :
    ∃ g, q = some ⟨g, 0, none⟩ ∧ g < W.heap.size ∧ W.cell? ⟨g, i * 3, none⟩ = some (.int .i64 vs[i].z) ∧ W.cell? ⟨g, i * 3 + 1, none⟩ = some (.int .i64 vs[i].a) ∧ W.cell? ⟨g, i * 3 + 2, none⟩ = some (.slice vs[i].p vs[i].cl.length vs[i].c) := by
  obtain ⟨m, rfl⟩ : ∃ m, n = m + 1 := ⟨n - 1, by omega⟩
  obtain ⟨g, cp, he, h1, h2, h3, h4⟩ := row_cells h
  obtain ⟨rfl, _⟩ : q = some ⟨g, 0, none⟩ ∧ cap = cp := by simpa using he
  obtain ⟨e1, e2, e3⟩ := vaLs_at vs i hi
  exact ⟨g, rfl, h2, h4 _ _ e1, h4 _ _ e2, h4 _ _ e3⟩
theorem ownsRow_fr {Pb base n size : Nat} {e : TypeId} {W W' : World} {v : Value} {xs : List Value} (h : W.ownsRow base e size v n xs) (k : FrP Pb W W') (h1 : e ≠ 75) (h2 : e ≠ 125) : W'.ownsRow base e size v n xs := by
  refine ⟨h.1, ?_⟩
  rcases h.2 with hn | ⟨g, cap, cur, rfl, hbg, hg, hr⟩
  · exact .inl hn
  · exact .inr ⟨g, cap, cur, rfl, hbg, k.bk g e cur h1 h2 hg, hr⟩
/-- The first error. -/
def errM : List Int → Int
  | [] => 0
  | e :: r => if e != 0 then e else errM r
theorem errM_at : ∀ (l : List Int) (k : Nat) (h : k < l.length), (∀ i (hi : i < l.length), i < k → l[i] = 0) → l[k] ≠ 0 → errM l = l[k]
  | e :: r, 0, _, _, hk => by
    rw [errM, if_pos (by simpa using hk)]
    rfl
  | e :: r, k + 1, h, hz, hk => by
    have h0 : e = 0 := hz 0 (by simp) (by omega)
    rw [errM, if_neg (by simp [h0])]
    exact errM_at r k (by simpa using h) (fun i hi hik => by have := hz (i + 1) (by simpa using hi) (by omega); simpa using this) hk
theorem errM_none : ∀ (l : List Int), (∀ i (hi : i < l.length), l[i] = 0) → errM l = 0
  | [], _ => rfl
  | e :: r, hz => by
    have h0 : e = 0 := hz 0 (by simp)
    rw [errM, if_neg (by simp [h0])]
    exact errM_none r (fun i hi => by have := hz (i + 1) (by simpa using hi); simpa using this)
/-- Places of so many arguments. -/
def plK (vs : List (Int × Int × List Int)) (s0 : PlS) : Nat → PlS
  | 0 => s0
  | k + 1 => putM k (vs.getD k (0, 0, [])) (plK vs s0 k)
def plB (m : Bool) : PlS := if m then putM (-1) adrV ([], 0, 0) else ([], 0, 0)
/-- What Pass tells. -/
def pasM (sb : Bool) (args : List ShT) (ret : ShT) : (List Lc × Int) × Int :=
  if args.length > 16 then (([], 0), 2)
  else if errM (args.map (fun t => (lokM t).2)) != 0 then (([], 0), errM (args.map (fun t => (lokM t).2)))
  else if (lobM sb ret).2 != 0 then (([], 0), (lobM sb ret).2)
  else (((plK (args.map (fun t => (lokM t).1)) (plB (memB (lobM sb ret).1.2.2)) args.length).1, upM (plK (args.map (fun t => (lokM t).1)) (plB (memB (lobM sb ret).1.2.2)) args.length).2.2 16), 0)
def PasP (w : World) (r : (List Lc × Int) × Int) (e : Ending) (w' : World) : Prop :=
  ∃ v, e = .returned (.tuple #[v, .int .i64 r.1.2, .int .i64 r.2]) ∧ w'.ownsRow w.heap.size 75 4 v r.1.1.length (lcCs r.1.1) ∧ Below w.heap.size w w'
theorem lok_ok {t : ShT} (h : (lokM t).2 = 0) : VaOk (lokM t).1 := by
  obtain ⟨f1, f2, f3, f4, f5, f6, f7, f8, f9⟩ := cls_facts (t := t) (by rw [h]; rfl)
  have e1 : (lokM t).1.1 = (chkM t).1.1 := by rw [f8]
  have e2 : (lokM t).1.2.1 = (chkM t).1.2 := by rw [f8]
  unfold VaOk
  rw [e1, e2]
  refine ⟨f3, f4, f5, ?_⟩
  rcases f9 with h | ⟨h1, h2⟩
  · rw [h]; simp
  · rw [h2, List.length_map, List.length_range]; unfold nEi; omega
theorem lob_len (sb : Bool) (t : ShT) (h : (lobM sb t).2 = 0) : (lobM sb t).1.2.2.length ≤ 10 := by
  unfold lobM at h ⊢
  split
  · simp
  · rename_i hs
    rw [if_neg hs] at h
    exact (lok_ok h).2.2.2
theorem adr_ok : VaOk adrV := ⟨by decide, by decide, .inr (.inr (.inr (.inl rfl))), by decide⟩
theorem plB_ok (m : Bool) : StOk 1 (plB m) := by
  unfold plB
  have h0 : StOk 0 (([], 0, 0) : PlS) := ⟨by simp, by simp, by simp, by simp, by simp⟩
  split
  · exact putM_ok adr_ok h0
  · exact ⟨by simp, by simp, by simp, by simp, by simp⟩
theorem plK_ok (vs : List (Int × Int × List Int)) (m : Bool) (hv : ∀ v ∈ vs, VaOk v) : ∀ k, k ≤ vs.length → StOk (k + 1) (plK vs (plB m) k)
  | 0, _ => plB_ok m
  | k + 1, h => by
    rw [plK]
    refine putM_ok ?_ (plK_ok vs m hv k (by omega))
    rw [List.getD_eq_getElem?_getD, List.getElem?_eq_getElem (by omega)]
    exact hv _ (List.getElem_mem _)
/-- What the first loop of Pass keeps. -/
structure PaI (w W : World) (args : List ShT) (ret : ShT) (k : Nat) (vs : List Va) (vv : Value) : Prop where
  own : W.ownsRow w.heap.size 119 3 vv k (vaLs vs)
  len : vs.length = k
  is : ∀ v ∈ vs, IsG W.heap.size W v.p v.cl
  eq : vs.map Va.t = (args.take k).map (fun t => (lokM t).1)
  ok : ∀ (i : Nat) (h : i < args.length), i < k → (lokM args[i]).2 = 0
  tb : TyB W w.heap.size ret
  be : Below w.heap.size w W
theorem PaI.below {w W W' : World} {args : List ShT} {ret : ShT} {k : Nat} {vs : List Va} {vv : Value} (h : PaI w W args ret k vs vv) (hb : Below W.heap.size W W') : PaI w W' args ret k vs vv :=
  ⟨ownsRow_belowS h.own hb, h.len, fun v hv => (h.is v hv).size hb hb.size, h.eq, h.ok, h.tb.below hb, h.be.trans (hb.mono h.be.size)⟩
theorem PaI.push {w W W6 : World} {args : List ShT} {ret : ShT} {k : Nat} {vs : List Va} {vv v6 : Value} {x : Va} (h : PaI w W args ret k vs vv) (hk : k < args.length) (hx : IsG W.heap.size W x.p x.cl) (he : lokM args[k] = (x.t, 0))
    (hg : W.grownBy W6 vv.ownBlock) (h6 : W6.ownsRow w.heap.size 119 3 v6 (k + 1) (vaLs vs ++ vaL x)) : PaI w W6 args ret (k + 1) (vs ++ [x]) v6 := by
  have hik : ∀ j cs, Bk W j 3 cs → Bk W6 j 3 cs := fun j cs b => b.rowG h.own hg (by decide)
  refine ⟨by rw [vaLs_snoc]; exact h6, by rw [List.length_append, h.len]; rfl, fun v hv => ?_, ?_, fun i hi hik2 => ?_, ?_, h.be.grown hg h.be.size (fun r e => (row_turnS h.own r e).1)⟩
  · rcases List.mem_append.1 hv with hv | hv
    · exact (h.is v hv).keep hik hg.size
    · obtain rfl := List.mem_singleton.1 hv
      exact hx.keep hik hg.size
  · rw [List.map_append, h.eq, List.take_add_one, List.getElem?_eq_getElem hk, Option.toList_some, List.map_append, List.map_cons, List.map_nil, List.map_cons, List.map_nil, he]
  · by_cases hc : i < k
    · exact h.ok i hi hc
    · obtain rfl : i = k := by omega
      rw [he]
  · exact Bk.rowG (T := 25) h.tb h.own hg (by decide)
set_option maxRecDepth 100000 in
set_option maxHeartbeats 40000000 in
theorem Pass_any (args : List ShT) (q : Option Addr) (c : Nat) (ret : ShT) (w : World) (hl : args.length ≤ maxLen) (hs : TyLs w.heap.size w q args) (hr : ret.In w.heap.size w) (hre : ret.Len) :
    Calls Try.prog 48 #[.slice q args.length c, ret.v] w (PasP w (pasM (samM (SizeOf.sizeOf ret + 1) ret emT) args ret)) := by
  have HT0 := veil (And.intro (TyB.new w ret) (new1_below w (.cells ret.cs 25)))
  have HLB : Hid (∀ W, Below w.heap.size w W → Calls Try.prog 79 #[ret.v] W (LoP W (lobM (samM (SizeOf.sizeOf ret + 1) ret emT) ret))) := fun W h => lookBack_any ret W ((hr.below h).mono h.size) hre
  have HLK : Hid (∀ (i : Nat) (h : i < args.length) W, Below w.heap.size w W → Calls Try.prog 77 #[args[i].v] W (LoP W (lokM args[i]))) := fun i h W hW => by
    obtain ⟨g, o, _, _, _, hin⟩ := hs i h
    exact look_any _ W ((hin.below hW).mono hW.size)
  have HSQ := veil hs
  clear hs hr hre
  unfold pasM
  generalize samM (SizeOf.sizeOf ret + 1) ret emT = SB at *
  by_cases h16 : args.length > 16
  · simp only [if_pos h16]
    clear HLB HLK HSQ
    have hgt : (args.length : Int) > 16 := by omega
    unfold ShT.v ShT.cs at *
    go_enter Try.func48, Try.ntmps48
    go_wp2_with fail
    refine bodyPost_ret (results_tmp3 rfl _ _ _) rfl ?_
    exact ⟨_, rfl, World.ownsRow_nil _ _ _ _, (unveil HT0).2⟩
  · simp only [if_neg h16]
    have hgt : ¬ (args.length : Int) > 16 := by omega
    have h16' : args.length ≤ 16 := by omega
    clear h16
    obtain ⟨R, hR⟩ : ∃ R, (if errM (args.map (fun t => (lokM t).2)) != 0 then (([], 0), errM (args.map (fun t => (lokM t).2)))
      else if (lobM SB ret).2 != 0 then (([], 0), (lobM SB ret).2)
      else (((plK (args.map (fun t => (lokM t).1)) (plB (memB (lobM SB ret).1.2.2)) args.length).1, upM (plK (args.map (fun t => (lokM t).1)) (plB (memB (lobM SB ret).1.2.2)) args.length).2.2 16), 0)) = R := ⟨_, rfl⟩
    rw [hR]
    have HRR := veil hR
    clear hR
    unfold ShT.v ShT.cs at HLB ⊢
    unfold ShT.cs at HT0
    go_enter Try.func48, Try.ntmps48
    go_upto_region 1 with fail
    generalize (w.alloc (.cells #[.int .i64 ret.sh, .int .i64 ret.k, .int .i64 ret.n, .slice ret.op ret.of.length ret.oc, .slice ret.fp ret.fs.length ret.fc, .bool ret.pk, .int .i64 ret.al] 25)) = W0 at HT0 ⊢
    go_upto_region 4 with (at_make; obtain ⟨i0, hi, hz0, hz1, hz2'⟩ := info_parts infoVa; refine wpList_make_own _ rfl _ _ 123 rfl w.heap.size 119 i0 _ 3 Try.underlying123 hi hz0 hz1 .i64 .i64 _ args.length rfl rfl rfl (by rw [hz2']; omega) (by unfold maxLen; omega) (unveil HT0).2.size ?_; intro W2 hown2 hgrow2; have HO2 := veil hown2; have HB02 := veil ((Below.refl _ W0).grown hgrow2 (Nat.le_refl _) (fun r e => by cases e)); clear hi hz0 hz1 hz2' hown2 hgrow2)
    have HI0 : Hid (PaI w W2 args ret 0 [] (.slice (some ⟨W0.heap.size, 0, none⟩) 0 args.length)) := ⟨unveil HO2, rfl, fun v hv => (by cases hv), rfl, fun i _ hi => absurd hi (Nat.not_lt_zero _), (unveil HT0).1.below (unveil HB02), (unveil HT0).2.trans ((unveil HB02).mono (unveil HT0).2.size)⟩
    clear HO2 HB02
    go_wp2_with fail
    go_loopw [7, 25] (fun vv i wr => ∃ (k : Nat) (vs : List Va) (qv : Option Addr) (cv : Nat), i = .int .i64 k ∧ vv = .slice qv k cv ∧ k ≤ args.length ∧ Hid (PaI w wr args ret k vs (.slice qv k cv))) (fun vv i wr => args.length - (intOf i).toNat)
    case atStart => exact ⟨0, [], _, _, rfl, rfl, Nat.zero_le _, HI0⟩
    case round =>
      obtain ⟨k, vs, qv, cv, rfl, rfl, hk, hI⟩ := hrel
      by_cases hkl : k < args.length
      · have hkk : (k : Int) < (args.length : Int) := by omega
        obtain ⟨g, o, rfl, hg, hco, _⟩ := ((unveil HSQ).below (unveil hI).be) k hkl
        obtain ⟨c0, c1, c2, c3, c4, c5, c6⟩ := seven hco
        have hlt1 : g < wr.heap.size := World.block_lt_of_cell? wr _ c0
        have HLK1 : Hid (∀ W, Below wr.heap.size wr W → Calls Try.prog 77 #[args[k].v] W (LoP W (lokM args[k]))) := fun W h => unveil HLK k hkl W ((unveil hI).be.trans (h.mono (unveil hI).be.size))
        have HNB := veil (new1_below wr)
        have HER : Hid ((lokM args[k]).2 ≠ 0 → errM (args.map (fun t => (lokM t).2)) = (lokM args[k]).2) := fun hne => by
          have := errM_at (args.map (fun t => (lokM t).2)) k (by simpa using hkl) (fun i hi hik => by
            simp only [List.getElem_map]
            exact (unveil hI).ok i (by simpa using hi) hik) (by simpa using hne)
          rw [this]
          simp
        have HAK : Hid (∀ y, args[k] = y → lokM args[k] = lokM y) := fun y h => by rw [h]
        obtain ⟨A, hA⟩ : ∃ A, args[k] = A := ⟨_, rfl⟩
        have HA := veil hA
        rw [hA] at c0 c1 c2 c3 c4 c5 c6 HLK1 HER
        clear hA hco hg HAK
        unfold ShT.v ShT.cs at HLK1
        unfold LoP at HLK1
        obtain ⟨LK, hLK⟩ : ∃ LK, lokM A = LK := ⟨_, rfl⟩
        have HLE := veil hLK
        rw [hLK] at HLK1 HER
        clear hLK
        obtain ⟨⟨lz, la, lcl⟩, ler⟩ := LK
        simp only at HLK1 HER
        cases he : ler != 0
        · have hz : ler = 0 := by simpa using he
          subst hz
          clear HER he
          go_upto_region 10 with (go_at_call 77; refine (unveil HLK1 _ (unveil HNB _)).mono ?_; rintro r W4 ⟨p, cp, rfl, hi4, hb4⟩; have HI4 := veil hi4; have HB4 := veil ((unveil HNB _).trans (hb4.mono (unveil HNB _).size)); clear hi4 hb4)
          have hbw := new1_below W4 (.cells #[.int .i64 lz, .int .i64 la, .slice p lcl.length cp] 119)
          have hx5 := Bk.new W4 119 #[.int .i64 lz, .int .i64 la, .slice p lcl.length cp]
          have HI5 := veil ((unveil HI4).size hbw hbw.size)
          have HP5 := veil ((unveil hI).below ((unveil HB4).trans (hbw.mono (unveil HB4).size)))
          generalize (W4.alloc (.cells #[.int .i64 lz, .int .i64 la, .slice p lcl.length cp] 119)) = W5 at *
          obtain ⟨d0, d1, d2⟩ : W5.cell? ⟨W4.heap.size, 0, none⟩ = some (.int .i64 lz) ∧ W5.cell? ⟨W4.heap.size, 1, none⟩ = some (.int .i64 la) ∧ W5.cell? ⟨W4.heap.size, 2, none⟩ = some (.slice p lcl.length cp) := ⟨hx5.cell 0, hx5.cell 1, hx5.cell 2⟩
          have hl5 := hx5.lt
          clear hx5 hbw HI4 HB4 HNB hlt1 HLK1
          have hrowa := (unveil HP5).own.alloc (.cells (vaL ⟨lz, la, p, cp, lcl⟩).toArray 119)
          have hbs : w.heap.size ≤ W5.heap.size := (unveil HP5).be.size
          obtain ⟨i0, hi, hz0, hz1, hz2'⟩ := info_parts infoVa
          go_wp2_with (at_builtin; refine wpList_append_own _ rfl _ _ 123 rfl w.heap.size 119 i0 _ 3 40 Try.underlying123 hi hz0 hz1 hz2' rfl (by decide) _ _ _ rfl hrowa ⟨W5.heap.size, 0, none⟩ 1 1 (vaL ⟨lz, la, p, cp, lcl⟩) rfl rfl (va_cells W5 ⟨lz, la, p, cp, lcl⟩ 119) ?c2 ?c3 ?c4 ?c5 ?_)
          case c2 => intro u hu; simp [vaL] at hu; rcases hu with rfl | rfl | rfl <;> rfl
          case c3 => unfold maxLen; omega
          case c4 => omega
          case c5 => simp; omega
          intro v6 W6 hown6 hgrow6 _
          obtain ⟨q6, cp6, rfl⟩ := row_slice hown6
          have hPA := ((unveil HP5).below (new1_below W5 (.cells (vaL ⟨lz, la, p, cp, lcl⟩).toArray 119))).push (x := ⟨lz, la, p, cp, lcl⟩) hkl ((unveil HI5).size (new1_below W5 _) (by simp)) (by rw [unveil HA]; exact unveil HLE) hgrow6 hown6
          have HPA := veil hPA
          clear hPA hown6 hgrow6 hrowa hi hz0 hz1 hz2' d0 d1 d2 c0 c1 c2 c3 c4 c5 c6
          go_wp2_with fail
          go_roundw
          case rel => exact ⟨k + 1, _, q6, cp6, by go_num, rfl, by omega, HPA⟩
          case measure => simp [intOf]; omega
        · have hne : ler ≠ 0 := by simpa using he
          have HE2 := veil (unveil HER hne)
          clear HER hne
          go_wp2_with (go_at_call 77; refine (unveil HLK1 _ (unveil HNB _)).mono ?_; rintro r W4 ⟨p, cp, rfl, hi4, hb4⟩; have HB4 := veil ((unveil HNB _).trans (hb4.mono (unveil HNB _).size)); clear hi4 hb4)
          refine bodyPost_ret (results_tmp3 rfl _ _ _) rfl ?_
          have hRR := unveil HRR
          rw [unveil HE2, if_pos he] at hRR
          rw [← hRR]
          exact ⟨_, rfl, World.ownsRow_nil _ _ _ _, ((unveil hI).be.trans ((unveil HB4).mono (unveil hI).be.size)).alloc (by have h1 := (unveil hI).be.size; have h2 := (unveil HB4).size; omega) _⟩
      · obtain rfl : k = args.length := by omega
        have HEN : Hid (errM (args.map (fun t => (lokM t).2)) = 0) := errM_none _ (fun i hi => by simp only [List.getElem_map]; exact (unveil hI).ok i (by simpa using hi) (by simpa using hi))
        have HEQ : Hid (vs.map Va.t = args.map (fun t => (lokM t).1)) := by have := (unveil hI).eq; rw [List.take_length] at this; exact this
        have HVO : Hid (∀ v ∈ args.map (fun t => (lokM t).1), VaOk v) := fun v hv => by
          obtain ⟨t, ht, rfl⟩ := List.mem_map.1 hv
          obtain ⟨i, hi, rfl⟩ := List.mem_iff_getElem.1 ht
          exact lok_ok ((unveil hI).ok i hi hi)
        have HRR2 := unveil HRR
        rw [unveil HEN] at HRR2
        simp only [bne_self_eq_false, Bool.false_eq_true, if_false] at HRR2
        have HLB1 := veil (unveil HLB wr (unveil hI).be)
        have HBL := veil (lob_len SB ret)
        generalize lobM SB ret = LB at *
        obtain ⟨⟨bz, ba, bcl⟩, ber⟩ := LB
        simp only at HRR2
        have HR3 := veil HRR2
        unfold LoP at HLB1
        simp only at HLB1
        obtain ⟨y0, y1, y2, y3, y4, y5, y6⟩ := (unveil hI).tb.seven
        have hlt := (unveil hI).tb.lt
        clear HRR2 HRR HEN HLB HLK HSQ
        generalize args.map (fun t => (lokM t).1) = VL at *
        cases hbe : ber != 0
        · have hz : ber = 0 := by simpa using hbe
          subst hz
          clear hbe
          go_upto_region 16 with (go_at_call 79; refine (unveil HLB1).mono ?_; rintro r W4 ⟨p, cp, rfl, hi4, hb4⟩; have HI4 := veil hi4; have HP4 := veil ((unveil hI).below hb4); clear hi4 hb4)
          have hbn := below_new2 W4 (.cells #[.int .i64 bz, .int .i64 ba, .slice p bcl.length cp] 119) (.cells #[.slice none 0 0, .int .i64 0, .int .i64 0] 125)
          have HP5 := veil ((unveil HP4).below hbn)
          have HI5 := veil ((unveil HI4).size hbn hbn.size)
          have HV5 : Hid (Bk ((W4.alloc (.cells #[.int .i64 bz, .int .i64 ba, .slice p bcl.length cp] 119)).alloc (.cells #[.slice none 0 0, .int .i64 0, .int .i64 0] 125)) W4.heap.size 119 #[.int .i64 bz, .int .i64 ba, .slice p bcl.length cp]) := (Bk.new W4 _ _).alloc _
          have HG5 : Hid (PlG (W4.heap.size + 1) ([], 0, 0) ((W4.alloc (.cells #[.int .i64 bz, .int .i64 ba, .slice p bcl.length cp] 119)).alloc (.cells #[.slice none 0 0, .int .i64 0, .int .i64 0] 125))) := by
            refine ⟨.slice none 0 0, ?_, World.ownsRow_nil _ _ _ _⟩
            have := Bk.new (W4.alloc (.cells #[.int .i64 bz, .int .i64 ba, .slice p bcl.length cp] 119)) 125 #[.slice none 0 0, .int .i64 0, .int .i64 0]
            rw [World.size_alloc] at this
            exact this
          have hwPb : w.heap.size ≤ W4.heap.size + 1 := by have := (unveil HP4).be.size; omega
          generalize ((W4.alloc (.cells #[.int .i64 bz, .int .i64 ba, .slice p bcl.length cp] 119)).alloc (.cells #[.slice none 0 0, .int .i64 0, .int .i64 0] 125)) = W5 at *
          generalize hPb : W4.heap.size + 1 = Pb at *
          generalize hVb : W4.heap.size = Vb at *
          clear hbn hPb hVb HP4 HI4 y0 y1 y2 y3 y4 y5 y6 hI HI0 HT0
          have hPl := (unveil HG5).lt
          have hbl : bcl.length ≤ 10 := unveil HBL (by trivial)
          have HIM : Hid (Calls Try.prog 80 #[.agg #[.int .i64 bz, .int .i64 ba, .slice p bcl.length cp]] W5 fun e w' => e = .returned (.bool (memB bcl)) ∧ Below W5.heap.size W5 w') := inMemory_any bz ba bcl p cp W5 (by omega) (unveil HI5)
          have HAD := veil address_any
          have HPU : Hid (∀ W p c, IsG W.heap.size W p [1] → PlG Pb ([], 0, 0) W → Calls Try.prog 81 #[.pointer (some ⟨Pb, 0, none⟩), .int .i64 (-1), .agg #[.int .i64 8, .int .i64 8, .slice p 1 c]] W fun e w' => (∃ v, e = .returned v) ∧ PlG Pb (putM (-1) adrV ([], 0, 0)) w' ∧ FrP Pb W w') := fun W p c h1 h2 =>
            put_any (-1) adrV p c Pb 0 ([], 0, 0) W (by omega) adr_ok ⟨by simp, by simp, by simp, by simp, by simp⟩ h1 h2
          obtain ⟨d0, d1, d2⟩ : W5.cell? ⟨Vb, 0, none⟩ = some (.int .i64 bz) ∧ W5.cell? ⟨Vb, 1, none⟩ = some (.int .i64 ba) ∧ W5.cell? ⟨Vb, 2, none⟩ = some (.slice p bcl.length cp) := ⟨(unveil HV5).cell 0, (unveil HV5).cell 1, (unveil HV5).cell 2⟩
          have hl5 := (unveil HV5).lt
          clear hbl HBL
          go_upto_if 51 with (go_at_call 80; refine (unveil HIM).mono ?_; rintro e w6 ⟨rfl, h6⟩; have H6 := veil h6; clear h6)
          go_cut [] from 52 to 70 (fun wx => Hid (PlG Pb (plB (memB bcl)) wx) ∧ Hid (FrP Pb W5 wx))
          case first =>
            clear HI5 HP5
            generalize memB bcl = M at *
            cases M
            · go_wp2_with fail
              go_meet
              case rel => exact ⟨(unveil HG5).below (unveil H6), FrP.below (unveil H6) (by omega)⟩
            · go_wp2_with (first
                | (go_at_call 82; refine (unveil HAD _).mono ?_; rintro e w7 ⟨pa, ca, rfl, h7i, h7⟩; have H7i := veil h7i; have H7 := veil ((unveil H6).trans (h7.mono (unveil H6).size)); clear h7i h7)
                | (go_at_call 81; refine (unveil HPU _ pa ca (unveil H7i) ((unveil HG5).below (unveil H7))).mono ?_; rintro e w8 ⟨⟨v8, rfl⟩, h8, h9⟩; have H8 := veil h8; have H9 := veil h9; clear h8 h9))
              go_meet
              case rel => exact ⟨unveil H8, (FrP.below (unveil H7) (by omega)).trans (unveil H9)⟩
          case rest =>
          obtain ⟨HG6, HF6⟩ := hcut
          have HO6 := veil (ownsRow_fr (unveil HP5).own (unveil HF6) (by decide) (by decide))
          have HIS6 : Hid (∀ v ∈ vs, IsG wc.heap.size wc v.p v.cl) := fun v hv => (unveil HF6).is ((unveil HP5).is v hv)
          have HB6 : Hid (Below w.heap.size w wc) := (unveil HP5).be.trans ((unveil HF6).be.mono hwPb)
          have hvl : vs.length = args.length := (unveil HP5).len
          have HVL := veil hvl
          have hwPw : w.heap.size ≤ W5.heap.size := (unveil HP5).be.size
          clear HP5 HI5 HV5 HF6 hvl HLB1
          have hR4 := unveil HR3
          simp only [bne_self_eq_false, Bool.false_eq_true, if_false] at hR4
          have HR4 := veil hR4
          clear HR3 hR4
          generalize memB bcl = M at *
          go_wp2_with fail
          have HPK : Hid (∀ k, k ≤ VL.length → StOk (k + 1) (plK VL (plB M) k)) := plK_ok VL M (unveil HVO)
          have HVLL : Hid (VL.length = args.length) := by unfold Hid; rw [← unveil HEQ, List.length_map]; exact unveil HVL
          have hPc := (unveil HG6).lt
          go_loopw [56] (fun i wr => ∃ (k : Nat), i = .int .i64 k ∧ k ≤ args.length ∧ Hid (PlG Pb (plK VL (plB M) k) wr) ∧ Hid (FrP Pb wc wr)) (fun i wr => args.length - (intOf i).toNat)
          case atStart => exact ⟨0, rfl, Nat.zero_le _, HG6, veil ⟨Below.refl _ _, fun _ _ _ _ _ h => h⟩⟩
          case round =>
            obtain ⟨k, rfl, hk, hpl, hfr⟩ := hrel
            by_cases hkl : k < args.length
            · have hkk : (k : Int) < (args.length : Int) := by omega
              have hkv : k < vs.length := by rw [unveil HVL]; exact hkl
              obtain ⟨gv, rfl, hgv, d0, d1, d2⟩ := va_at (ownsRow_fr (unveil HO6) (unveil hfr) (by decide) (by decide)) (unveil HVL) (i := k) hkv
              have hisk := (unveil hfr).is (unveil HIS6 _ (List.getElem_mem hkv))
              have hvk : VL.getD k (0, 0, []) = (vs[k]).t := by
                rw [← unveil HEQ, List.getD_eq_getElem?_getD, List.getElem?_map, List.getElem?_eq_getElem hkv]
                rfl
              have hvo : VaOk (vs[k]).t := unveil HVO _ (by rw [← unveil HEQ]; exact List.mem_map.2 ⟨_, List.getElem_mem hkv, rfl⟩)
              have hstep : Hid (plK VL (plB M) (k + 1) = putM k (vs[k]).t (plK VL (plB M) k)) := by unfold Hid; rw [plK, hvk]
              generalize vs[k] = V at *
              obtain ⟨vz, va, vp, vc, vcl⟩ := V
              simp only at d0 d1 d2 hisk
              unfold Va.t at hvo hstep
              have HPU2 : Hid (∀ W, Below wr.heap.size wr W → Calls Try.prog 81 #[.pointer (some ⟨Pb, 0, none⟩), .int .i64 (k : Int), .agg #[.int .i64 vz, .int .i64 va, .slice vp vcl.length vc]] W fun e w' => (∃ v, e = .returned v) ∧ PlG Pb (putM k (vz, va, vcl) (plK VL (plB M) k)) w' ∧ FrP Pb W w') := fun W h =>
                put_any (k : Int) (vz, va, vcl) vp vc Pb (k + 1) (plK VL (plB M) k) W (by omega) hvo (unveil HPK k (by rw [unveil HVLL]; omega)) (hisk.size h h.size) ((unveil hpl).below h)
              have HNB := veil (new1_below wr)
              have hPw := (unveil hpl).lt
              clear hisk hvk hvo
              go_wp2_with (go_at_call 81; refine (unveil HPU2 _ (unveil HNB _)).mono ?_; rintro e w8 ⟨⟨v8, rfl⟩, h8, h9⟩; have H8 := veil h8; have H9 := veil ((FrP.below (unveil HNB _) (Nat.le_of_lt hPw)).trans h9); clear h8 h9)
              go_roundw
              case rel =>
                refine ⟨k + 1, by go_num, by omega, ?_, (unveil hfr).trans (unveil H9)⟩
                rw [unveil hstep]
                exact H8
              case measure => simp [intOf]; omega
            · obtain rfl : k = args.length := by omega
              obtain ⟨o1, o2, o3, o4, o5⟩ := unveil HPK args.length (by rw [unveil HVLL]; omega)
              obtain ⟨v, hb, hr⟩ := unveil hpl
              have HR5 := HR4
              generalize plK VL (plB M) args.length = ST at *
              obtain ⟨SL, su, sk⟩ := ST
              simp only at hb hr o1 o2 o3 o4 o5
              have HU : Hid (∀ W, Calls Try.prog 83 #[.int .i64 sk, .int .i64 16] W fun e w' => e = .returned (.int .i64 (upM sk 16)) ∧ w' = W) := fun W => up12_any sk 16 W o4 (by omega) (by omega) (by omega)
              have b0 := hb.cell 0
              have b2 := hb.cell 2
              simp only [List.getElem?_toArray, List.getElem?_cons_succ, List.getElem?_cons_zero] at b0 b2
              have hbl := hb.lt
              have HRO := veil hr
              clear o1 o2 o3 o4 o5 hb hr
              go_upto_region 23 with fail
              go_quiet ((go_at_call 83; exact Calls.quiet_of_same (unveil HU _)))
              go_wp2_with fail
              refine bodyPost_ret (results_tmp3 rfl _ _ _) rfl ?_
              rw [← unveil HR5]
              exact ⟨_, rfl, ownsRow_baseS (unveil HRO) hwPb, below_drewS ((unveil HB6).trans ((unveil hfr).be.mono hwPb)) _⟩
        · go_wp2_with (go_at_call 79; refine (unveil HLB1).mono ?_; rintro r W4 ⟨p, cp, rfl, hi4, hb4⟩; have HP4 := veil ((unveil hI).below hb4); clear hi4 hb4)
          refine bodyPost_ret (results_tmp3 rfl _ _ _) rfl ?_
          have hRR := unveil HR3
          rw [if_pos hbe] at hRR
          rw [← hRR]
          exact ⟨_, rfl, World.ownsRow_nil _ _ _ _, (unveil HP4).be.alloc (unveil HP4).be.size _⟩
end Go.Proofs.Ytaffldhmgifdoaa
