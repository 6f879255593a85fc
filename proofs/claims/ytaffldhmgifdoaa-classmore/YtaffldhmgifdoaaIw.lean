/-
  burinlaw12.ClassApart walked.
-/
import Derived.Test.YtaffldhmgifdoaaIv
import Derived.Test.YtaffldhmgifdoaaIp
namespace Go.Proofs.Ytaffldhmgifdoaa
open Go Go.RowKit Go.Shelf
attribute [local go_sem] Oper.semAt_some
set_option linter.unusedVariables false
set_option linter.unusedSimpArgs false

theorem lcCs_at : ∀ (l : List Lc) (i : Nat) (h : i < l.length), (lcCs l)[i * 4]? = some (.int .i64 l[i].arg) ∧ (lcCs l)[i * 4 + 1]? = some (.int .i64 l[i].eight) ∧ (lcCs l)[i * 4 + 2]? = some (.int .i64 l[i].reg) ∧ (lcCs l)[i * 4 + 3]? = some (.int .i64 l[i].off)
  | v :: r, 0, _ => ⟨rfl, rfl, rfl, rfl⟩
  | v :: r, i + 1, h => by
    have ih := lcCs_at r i (by simpa using h)
    have e : lcCs (v :: r) = lcC v ++ lcCs r := rfl
    rw [e]
    have e3 : (lcC v).length = 4 := rfl
    simp only [List.getElem_cons_succ]
    refine ⟨?_, ?_, ?_, ?_⟩
    · rw [List.getElem?_append_right (by omega), e3, show (i + 1) * 4 - 4 = i * 4 by omega]; exact ih.1
    · rw [List.getElem?_append_right (by omega), e3, show (i + 1) * 4 + 1 - 4 = i * 4 + 1 by omega]; exact ih.2.1
    · rw [List.getElem?_append_right (by omega), e3, show (i + 1) * 4 + 2 - 4 = i * 4 + 2 by omega]; exact ih.2.2.1
    · rw [List.getElem?_append_right (by omega), e3, show (i + 1) * 4 + 3 - 4 = i * 4 + 3 by omega]; exact ih.2.2.2
theorem lc_at {W : World} {base n cap : Nat} {q : Option Addr} {L : List Lc} (h : W.ownsRow base 75 4 (.slice q n cap) n (lcCs L)) (hn : L.length = n) {i : Nat} (hi : i < L.length) :
    ∃ g, q = some ⟨g, 0, none⟩ ∧ g < W.heap.size ∧ W.cell? ⟨g, i * 4, none⟩ = some (.int .i64 L[i].arg) ∧ W.cell? ⟨g, i * 4 + 1, none⟩ = some (.int .i64 L[i].eight) ∧ W.cell? ⟨g, i * 4 + 2, none⟩ = some (.int .i64 L[i].reg) ∧ W.cell? ⟨g, i * 4 + 3, none⟩ = some (.int .i64 L[i].off) := by
  obtain ⟨m, rfl⟩ : ∃ m, n = m + 1 := ⟨n - 1, by omega⟩
  obtain ⟨g, cp, he, h1, h2, h3, h4⟩ := row_cells h
  obtain ⟨rfl, _⟩ : q = some ⟨g, 0, none⟩ ∧ cap = cp := by simpa using he
  obtain ⟨e1, e2, e3, e4⟩ := lcCs_at L i hi
  exact ⟨g, rfl, h2, h4 _ _ e1, h4 _ _ e2, h4 _ _ e3, h4 _ _ e4⟩
theorem apE_take (L : List Lc) (k : Nat) (h : k < L.length) : apE (L.take (k + 1)) = apU (apE (L.take k)) L[k] := by
  rw [List.take_add_one, List.getElem?_eq_getElem h]
  exact apE_snoc _ _
theorem ap_lo (args : List ShT) (L : List Lc) (h : ApAll args L) : ∀ k, k ≤ L.length → -1 ≤ (apE (L.take k)).1 ∧ (apE (L.take k)).1 ≤ 5 ∧ 0 ≤ (apE (L.take k)).2 ∧ (apE (L.take k)).2 ≤ 100000010
  | 0, _ => by simp [apE]
  | k + 1, hk => by
    obtain ⟨h1, h2, h3, h4⟩ := ap_lo args L h k (by omega)
    obtain ⟨c1, c2⟩ := h k (by omega)
    rw [apE_take L k (by omega)]
    unfold apU
    split
    · rename_i hr
      obtain ⟨e1, e2, e3⟩ := c1 hr
      simp only
      omega
    · rename_i hr
      obtain ⟨_, _, _, _, _, e1, e2, e3, _⟩ := c2 hr
      simp only
      omega
set_option maxRecDepth 100000 in
set_option maxHeartbeats 40000000 in
theorem classApart_walk (args0 : List ShT) (q : Option Addr) (cap : Nat) (ret : ShT) (w : World) (hs0 : TyLs w.heap.size w q args0) (hlc : args0.length ≤ cap) (hcm : cap ≤ maxLen) (hr : ret.In w.heap.size w) (hre : ret.Len) :
    Calls Try.prog 19 #[.slice q args0.length cap, ret.v] w fun e w' => e = .returned (.bool true) ∧ Below w.heap.size w w' := by
  have HSH := veil shown12_any
  have hs' := hs0.take 20
  have hl20 : (args0.take 20).length ≤ 20 := by rw [List.length_take]; omega
  have hl' : (args0.take 20).length ≤ cap := by rw [List.length_take]; omega
  have hmin : min (args0.length : Int) 20 = ((args0.take 20).length : Int) := by rw [List.length_take]; omega
  have hmin2 : (if (args0.length : Int) ≤ 20 then (args0.length : Int) else 20) = ((args0.take 20).length : Int) := by rw [List.length_take]; split <;> omega
  have hmin3 : (if (20 : Int) < (args0.length : Int) then (20 : Int) else (args0.length : Int)) = ((args0.take 20).length : Int) := by rw [List.length_take]; split <;> omega
  have hll : ((args0.take 20).length : Int) ≤ (args0.length : Int) := by rw [List.length_take]; omega
  generalize args0.take 20 = args at *
  have HPA : Hid (∀ W, Below w.heap.size w W → Calls Try.prog 48 #[.slice q args.length cap, ret.v] W (PasP W (pasM (samM (SizeOf.sizeOf ret + 1) ret emT) args ret))) := fun W h =>
    Pass_any args q cap ret W (by unfold maxLen; omega) (fun i hi => by obtain ⟨g, o, e, hg, hc, hin⟩ := (hs'.below h) i hi; exact ⟨g, o, e, Nat.lt_of_lt_of_le hg h.size, hc, hin.mono h.size⟩) ((hr.below h).mono h.size) hre
  have HSZ : Hid (∀ (i : Nat) (h : i < args.length) W, Below w.heap.size w W → Calls Try.prog 23 #[args[i].v] W fun r w' => r = .returned (.tuple #[.int .i64 (chkM args[i]).1.1, .int .i64 (chkM args[i]).1.2, .int .i64 (chkM args[i]).2]) ∧ Below W.heap.size W w') := fun i h W hW => by
    obtain ⟨g, o, _, _, _, hin⟩ := hs' i h
    exact Size10_any _ W ((hin.below hW).mono hW.size)
  have HSQ := veil hs'
  have HPF := veil (pas_facts (samM (SizeOf.sizeOf ret + 1) ret emT) args ret)
  have HT0 := veil (And.intro (TyB.new w ret) (new1_below w (.cells ret.cs 25)))
  clear hs0 hs' hr hre
  generalize samM (SizeOf.sizeOf ret + 1) ret emT = SB at *
  unfold ShT.v ShT.cs at HPA ⊢
  unfold ShT.cs at HT0
  go_enter Try.func19, Try.ntmps19
  go_upto_region 1 with fail
  generalize (w.alloc (.cells #[.int .i64 ret.sh, .int .i64 ret.k, .int .i64 ret.n, .slice ret.op ret.of.length ret.oc, .slice ret.fp ret.fs.length ret.fc, .bool ret.pk, .int .i64 ret.al] 25)) = W0 at HT0 ⊢
  go_upto_region 2 with (go_at_call 44; refine (unveil HSH _).mono ?_; rintro e W1 ⟨rfl, hb1⟩; have HT1 := veil (And.intro ((unveil HT0).1.below hb1) ((unveil HT0).2.trans (hb1.mono (unveil HT0).2.size))); clear hb1)
  go_upto_region 3 with fail
  obtain ⟨y0, y1, y2, y3, y4, y5, y6⟩ := (unveil HT1).1.seven
  clear hmin hmin2 hmin3 hll HSH
  unfold PasP at HPA
  generalize pasM SB args ret = PM at *
  obtain ⟨⟨L, n⟩, er⟩ := PM
  simp only at HPA
  go_upto_region 4 with (go_at_call 48; refine (unveil HPA _ (unveil HT1).2).mono ?_; rintro e W2 ⟨v, rfl, hown, hb2⟩; obtain ⟨qv, cv, rfl⟩ := row_slice hown; have HO2 := veil hown; have HB2 := veil ((unveil HT1).2.trans (hb2.mono (unveil HT1).2.size)); clear hown hb2)
  clear y0 y1 y2 y3 y4 y5 y6 HT0 HT1 HPA
  rcases unveil HPF with ⟨hne, hnil⟩ | ⟨m, sk, he, h16, hok, _, _, hL, hsk⟩
  · try simp only at hne hnil
    have hne' : (er != 0) = true := by simpa using hne
    obtain ⟨rfl, rfl⟩ : L = [] ∧ n = 0 := by cases hnil; exact ⟨rfl, rfl⟩
    clear hne hnil HPF
    go_wp2_with fail
    go_ret
    exact ⟨by simp, unveil HB2⟩
  · try simp only at he hL
    subst he
    have hap := plK_ap args m h16 hok args.length (Nat.le_refl _)
    have hst := plK_ok (args.map (fun t => (lokM t).1)) m (fun v hv => by
      obtain ⟨t, ht, rfl⟩ := List.mem_map.1 hv
      obtain ⟨i, hi, rfl⟩ := List.mem_iff_getElem.1 ht
      exact lok_ok (hok i hi)) args.length (by simp)
    generalize plK (args.map (fun t => (lokM t).1)) (plB m) args.length = ST at *
    obtain ⟨SL, su, s2⟩ := ST
    obtain ⟨rfl, rfl⟩ : L = SL ∧ n = upM sk 16 := by cases hL; exact ⟨rfl, rfl⟩
    simp only at hsk
    subst hsk
    obtain ⟨p1, p2⟩ := hap
    obtain ⟨t1, t2, t3, t4, t5⟩ := hst
    simp only at p1 p2 t1 t2 t3 t4 t5
    obtain ⟨u1, u2, u3⟩ := upM_le (n := sk) (m := 16) t4 (by omega)
    have HAP := veil p1
    have HAE := veil p2
    have HLO := veil (ap_lo args L p1)
    have hskb : sk ≤ 1200000 := by omega
    have hLb : L.length ≤ 200000 := by omega
    clear p1 p2 hL t1 t2 t3 t5 hok HPF
    generalize hN : upM sk 16 = n at *
    have hnm : n.tmod 16 = n % 16 := Int.tmod_eq_emod_of_nonneg (by omega)
    clear hN
    go_wp2_with fail
    go_loopw [9, 10, 11] (fun rv ev i wr => ∃ (k : Nat), rv = .int .i64 (apE (L.take k)).1 ∧ ev = .int .i64 (apE (L.take k)).2 ∧ i = .int .i64 k ∧ k ≤ L.length ∧ Hid (Below W2.heap.size W2 wr)) (fun rv ev i wr => L.length - (intOf i).toNat)
    case atStart => exact ⟨0, rfl, rfl, rfl, Nat.zero_le _, Below.refl _ _⟩
    case round =>
      obtain ⟨k, rfl, rfl, rfl, hk, hbe⟩ := hrel
      obtain ⟨b1, b2, b3, b4⟩ := unveil HLO k hk
      by_cases hkl : k < L.length
      · have hkk : (k : Int) < (L.length : Int) := by omega
        obtain ⟨g, rfl, hg, d0, d1, d2, d3⟩ := lc_at (ownsRow_belowS (unveil HO2) (unveil hbe)) rfl hkl
        have hap := (unveil HAP) k hkl
        have HNX := veil (apE_take L k hkl)
        generalize apE (L.take k) = S at *
        generalize L[k] = X at *
        obtain ⟨sr, se⟩ := S
        obtain ⟨xa, xe, xr, xo⟩ := X
        simp only at d0 d1 d2 d3 b1 b2 b3 b4
        unfold ApC at hap
        unfold apU at HNX
        simp only at hap HNX
        obtain ⟨ap1, ap2⟩ := hap
        have HNB := veil (new1_below wr)
        have HBW : Hid (Below w.heap.size w wr) := (unveil HB2).trans ((unveil hbe).mono (unveil HB2).size)
        by_cases hx : 0 ≤ xr
        · obtain ⟨rfl, r5, rfl⟩ := ap1 hx
          clear ap1 ap2
          rw [if_pos hx] at HNX
          have r5' : ¬ sr + 1 > 5 := by omega
          go_wp2_with fail
          go_roundw
          case rel => exact ⟨k + 1, by rw [unveil HNX], by rw [unveil HNX], by go_num, by omega, (unveil hbe).trans ((unveil HNB _).mono (unveil hbe).size)⟩
          case measure => simp [intOf]; omega
        · obtain ⟨i, hi, rfl, hc0, hal, a1, a2, a3, a4, a5⟩ := ap2 hx
          clear ap1 ap2
          rw [if_neg hx] at HNX
          have hab := al_bnd hal
          obtain ⟨gt, ot, rfl, hgt, hct, _⟩ := ((unveil HSQ).below (unveil HBW)) i hi
          obtain ⟨e0, e1, e2, e3, e4, e5, e6⟩ := seven hct
          have hgl : gt < wr.heap.size := Nat.lt_of_lt_of_le hgt (unveil HBW).size
          have hii : (i : Int) < (args.length : Int) := by omega
          have HS1 : Hid (∀ W, Below wr.heap.size wr W → Calls Try.prog 23 #[args[i].v] W fun r w' => r = .returned (.tuple #[.int .i64 (chkM args[i]).1.1, .int .i64 (chkM args[i]).1.2, .int .i64 (chkM args[i]).2]) ∧ Below W.heap.size W w') := fun W h => unveil HSZ i hi W ((unveil HBW).trans (h.mono (unveil HBW).size))
          rw [hc0] at HS1
          generalize chkM args[i] = CA at *
          generalize args[i] = TA at *
          obtain ⟨⟨cz, ca⟩, ce⟩ := CA
          simp only at HS1 a5 hab
          unfold ShT.v ShT.cs at HS1
          have hnl : ¬ xo < se := by omega
          have hm8 : xo.tmod 8 = xo % 8 := Int.tmod_eq_emod_of_nonneg a3
          have hma : xo.tmod ca = xo % ca := Int.tmod_eq_emod_of_nonneg a3
          have hcn : ¬ ca = 0 := by omega
          have HBX : Hid (∀ W', Below (wr.alloc (.cells #[.int .i64 (i : Int), .int .i64 xe, .int .i64 xr, .int .i64 xo] 75)).heap.size (wr.alloc (.cells #[.int .i64 (i : Int), .int .i64 xe, .int .i64 xr, .int .i64 xo] 75)) W' → W'.cell? ⟨wr.heap.size, 1, none⟩ = some (.int .i64 xe) ∧ W'.cell? ⟨wr.heap.size, 3, none⟩ = some (.int .i64 xo)) := fun W' h => by
            have := (Bk.new wr 75 #[.int .i64 (i : Int), .int .i64 xe, .int .i64 xr, .int .i64 xo]).below h
            exact ⟨this.cell 1, this.cell 3⟩
          clear hal hc0 hct hgt
          cases hxe : xe == 0
          · go_wp2_with (go_at_call 23; refine (unveil HS1 _ (unveil HNB _)).mono ?_; rintro r W4 ⟨rfl, hb4⟩; obtain ⟨q1, q3⟩ := unveil HBX W4 hb4; have HB4 := veil ((unveil HNB _).trans (hb4.mono (unveil HNB _).size)); clear hb4)
            go_roundw
            case rel => exact ⟨k + 1, by rw [unveil HNX], by rw [unveil HNX], by go_num, by omega, (unveil hbe).trans ((unveil HB4).mono (unveil hbe).size)⟩
            case measure => simp [intOf]; omega
          · have hxe0 : xe = 0 := by simpa using hxe
            have a6 := a5 hxe0
            subst hxe0
            go_wp2_with (go_at_call 23; refine (unveil HS1 _ (unveil HNB _)).mono ?_; rintro r W4 ⟨rfl, hb4⟩; obtain ⟨q1, q3⟩ := unveil HBX W4 hb4; have HB4 := veil ((unveil HNB _).trans (hb4.mono (unveil HNB _).size)); clear hb4)
            go_roundw
            case rel => exact ⟨k + 1, by rw [unveil HNX], by rw [unveil HNX], by go_num, by omega, (unveil hbe).trans ((unveil HB4).mono (unveil hbe).size)⟩
            case measure => simp [intOf]; omega
      · obtain rfl : k = L.length := by omega
        rw [List.take_length, unveil HAE]
        have e1 : n % 16 = 0 := u3
        have e2 : n - sk < 64 := by omega
        clear HLO b1 b2 b3 b4
        go_wp2_with fail
        go_ret
        exact ⟨by simp, (unveil HB2).trans ((unveil hbe).mono (unveil HB2).size)⟩
end Go.Proofs.Ytaffldhmgifdoaa
