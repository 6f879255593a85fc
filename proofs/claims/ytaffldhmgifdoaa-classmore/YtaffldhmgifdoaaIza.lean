/-
  The document's Pass walked.
-/
import Derived.Test.YtaffldhmgifdoaaIz
namespace Go.Proofs.Ytaffldhmgifdoaa
open Go Go.RowKit Go.Shelf
attribute [local go_sem] Oper.semAt_some
set_option linter.unusedVariables false
set_option linter.unusedSimpArgs false

theorem rsame_emT (t : ShT) (w : World) (hin : t.In w.heap.size w) (hle : t.Len) : Calls Try.prog 32 #[t.v, emT.v] w fun e w' => e = .returned (.bool (samM (SizeOf.sizeOf t + 1) t emT)) ∧ Below w.heap.size w w' :=
  rsame_any _ t emT w (by omega) hin (emT_in _ _) hle emT_len
set_option maxRecDepth 100000 in
set_option maxHeartbeats 40000000 in
theorem RPass_any (args : List ShT) (q : Option Addr) (c : Nat) (ret : ShT) (w : World) (hl : args.length ≤ maxLen) (hs : TyLs w.heap.size w q args) (hll : ∀ t ∈ args, t.Len) (hr : ret.In w.heap.size w) (hre : ret.Len) :
    Calls Try.prog 49 #[.slice q args.length c, ret.v] w (PasP w (pasM (samM (SizeOf.sizeOf ret + 1) ret emT) args ret)) := by
  have HT0 := veil (And.intro (TyB.new w ret) (new1_below w (.cells ret.cs 25)))
  have HSM : Hid (∀ W, Below w.heap.size w W → Calls Try.prog 32 #[ret.v, emT.v] W fun e w' => e = .returned (.bool (samM (SizeOf.sizeOf ret + 1) ret emT)) ∧ Below W.heap.size W w') := fun W h => rsame_emT ret W ((hr.below h).mono h.size) hre
  have HCR : Hid (∀ W, Below w.heap.size w W → Calls Try.prog 46 #[ret.v] W (ClP W (lokM ret).1.2.2 (lokM ret).2)) := fun W h => RClasses_any ret W ((hr.below h).mono h.size) hre
  have HLK : Hid (∀ (i : Nat) (h : i < args.length) W, Below w.heap.size w W → Calls Try.prog 46 #[args[i].v] W (ClP W (lokM args[i]).1.2.2 (lokM args[i]).2)) := fun i h W hW => by
    obtain ⟨g, o, _, _, _, hin⟩ := hs i h
    exact RClasses_any _ W ((hin.below hW).mono hW.size) (hll _ (List.getElem_mem h))
  have HOF : Hid (∀ (i : Nat) (h : i < args.length) W, Below w.heap.size w W → Calls Try.prog 24 #[args[i].v] W (OfP W (chkM args[i]).1.1 (chkM args[i]).1.2 (chkM args[i]).2 (ofL args[i]))) := fun i h W hW => by
    obtain ⟨g, o, _, _, _, hin⟩ := hs i h
    exact Of_any _ W ((hin.below hW).mono hW.size) (hll _ (List.getElem_mem h))
  have hev : emT.v = .agg #[.int .i64 0, .int .i64 0, .int .i64 0, .slice none 0 0, .slice none 0 0, .bool false, .int .i64 0] := rfl
  rw [hev] at HSM
  clear hev
  have HSQ := veil hs
  clear hs hr hre hll
  unfold pasM
  generalize samM (SizeOf.sizeOf ret + 1) ret emT = SB at *
  by_cases h16 : args.length > 16
  · simp only [if_pos h16]
    clear HCR HLK HSQ HOF HSM
    have hgt : (args.length : Int) > 16 := by omega
    unfold ShT.v ShT.cs at *
    go_enter Try.func49, Try.ntmps49
    go_wp2_with fail
    refine bodyPost_ret (results_tmp3 rfl _ _ _) rfl ?_
    exact ⟨_, rfl, World.ownsRow_nil _ _ _ _, (unveil HT0).2⟩
  · simp only [if_neg h16]
    have hgt : ¬ (args.length : Int) > 16 := by omega
    have h16' : args.length ≤ 16 := by omega
    clear h16
    obtain ⟨R, hR⟩ : ∃ R, (if errM (args.map (fun t => (lokM t).2)) != 0 then (([], 0), errM (args.map (fun t => (lokM t).2)))
      else if (lobM SB ret).2 != 0 then (([], 0), (lobM SB ret).2)
      else (((plK (args.map (fun t => (lokM t).1)) (plB (memB (lobM SB ret).1.2.2)) args.length).1, upM (plK (args.map (fun t => (lokM t).1)) (plB (memB (lobM SB ret).1.2.2)) args.length).2.2 16), 0)) = R := ⟨_, rfl⟩
    rw [hR]
    have HRR := veil hR
    clear hR
    unfold ShT.v ShT.cs at HCR HSM ⊢
    unfold ShT.cs at HT0
    go_enter Try.func49, Try.ntmps49
    go_upto_region 1 with fail
    generalize (w.alloc (.cells #[.int .i64 ret.sh, .int .i64 ret.k, .int .i64 ret.n, .slice ret.op ret.of.length ret.oc, .slice ret.fp ret.fs.length ret.fc, .bool ret.pk, .int .i64 ret.al] 25)) = W0 at HT0 ⊢
    have HI0 : Hid (RaI w W0 args ret 0 [] (.slice none 0 0)) := ⟨World.ownsRow_nil _ _ _ _, rfl, fun v hv => (by cases hv), rfl, fun i _ hi => absurd hi (Nat.not_lt_zero _), (unveil HT0).1, (unveil HT0).2⟩
    go_wp2_with fail
    go_loopw [7, 8] (fun vv i wr => ∃ (k : Nat) (vs : List Sl) (qv : Option Addr) (cv : Nat), i = .int .i64 k ∧ vv = .slice qv k cv ∧ k ≤ args.length ∧ Hid (RaI w wr args ret k vs (.slice qv k cv))) (fun vv i wr => args.length - (intOf i).toNat)
    case atStart => exact ⟨0, [], _, _, rfl, rfl, Nat.zero_le _, HI0⟩
    case round =>
      obtain ⟨k, vs, qv, cv, rfl, rfl, hk, hI⟩ := hrel
      by_cases hkl : k < args.length
      · have hkk : (k : Int) < (args.length : Int) := by omega
        obtain ⟨g, o, rfl, hg, hco, _⟩ := ((unveil HSQ).below (unveil hI).be) k hkl
        obtain ⟨c0, c1, c2, c3, c4, c5, c6⟩ := seven hco
        have hlt1 : g < wr.heap.size := World.block_lt_of_cell? wr _ c0
        have HLK1 : Hid (Calls Try.prog 46 #[args[k].v] wr (ClP wr (lokM args[k]).1.2.2 (lokM args[k]).2)) := unveil HLK k hkl wr (unveil hI).be
        have HER : Hid ((lokM args[k]).2 ≠ 0 → errM (args.map (fun t => (lokM t).2)) = (lokM args[k]).2) := fun hne => by
          have := errM_at (args.map (fun t => (lokM t).2)) k (by simpa using hkl) (fun i hi hik => by
            simp only [List.getElem_map]
            exact (unveil hI).ok i (by simpa using hi) hik) (by simpa using hne)
          rw [this]
          simp
        obtain ⟨A, hA⟩ : ∃ A, args[k] = A := ⟨_, rfl⟩
        have HA := veil hA
        rw [hA] at c0 c1 c2 c3 c4 c5 c6 HLK1 HER
        clear hA hco hg
        unfold ShT.v ShT.cs at HLK1
        unfold ClP at HLK1
        obtain ⟨LK, hLK⟩ : ∃ LK, lokM A = LK := ⟨_, rfl⟩
        have HLE := veil hLK
        rw [hLK] at HLK1 HER
        clear hLK
        obtain ⟨⟨lz, la, lcl⟩, ler⟩ := LK
        simp only at HLK1 HER
        cases he : ler != 0
        · have hz : ler = 0 := by simpa using he
          subst hz
          clear HER he
          go_upto_region 10 with (go_at_call 46; refine (unveil HLK1).mono ?_; rintro r W5 ⟨p, cp, rfl, hi4, hb4⟩; have HI5 := veil hi4; have HP5 := veil ((unveil hI).below hb4); clear hi4 hb4)
          clear hlt1 HLK1
          have hrowa := (unveil HP5).own.alloc (.cells (slL ⟨p, cp, lcl⟩).toArray 47)
          have hbs : w.heap.size ≤ W5.heap.size := (unveil HP5).be.size
          obtain ⟨i0, hi, hz0, hz1, hz2'⟩ := info_parts infoSl
          go_wp2_with (at_builtin; refine wpList_append_own _ rfl _ _ 129 rfl w.heap.size 47 i0 _ 1 24 Try.underlying129 hi hz0 hz1 hz2' rfl (by decide) _ _ _ rfl hrowa ⟨W5.heap.size, 0, none⟩ 1 1 (slL ⟨p, cp, lcl⟩) rfl rfl (sl_cells W5 ⟨p, cp, lcl⟩ 47) ?c2 ?c3 ?c4 ?c5 ?_)
          case c2 => intro u hu; simp [slL] at hu; subst hu; rfl
          case c3 => unfold maxLen; omega
          case c4 => omega
          case c5 => simp; omega
          intro v6 W6 hown6 hgrow6 _
          obtain ⟨q6, cp6, rfl⟩ := row_slice hown6
          have hPA := ((unveil HP5).below (new1_below W5 (.cells (slL ⟨p, cp, lcl⟩).toArray 47))).push (x := ⟨p, cp, lcl⟩) hkl ((unveil HI5).size (new1_below W5 _) (by simp)) (by rw [unveil HA, unveil HLE]) (by rw [unveil HA, unveil HLE]) hgrow6 hown6
          have HPA := veil hPA
          clear hPA hown6 hgrow6 hrowa hi hz0 hz1 hz2' c0 c1 c2 c3 c4 c5 c6
          go_wp2_with fail
          go_roundw
          case rel => exact ⟨k + 1, _, q6, cp6, by go_num, rfl, by omega, HPA⟩
          case measure => simp [intOf]; omega
        · have hne : ler ≠ 0 := by simpa using he
          have HE2 := veil (unveil HER hne)
          clear HER hne
          go_wp2_with (go_at_call 46; refine (unveil HLK1).mono ?_; rintro r W4 ⟨p, cp, rfl, hi4, hb4⟩; have HB4 := veil ((unveil hI).be.trans (hb4.mono (unveil hI).be.size)); clear hi4 hb4)
          refine bodyPost_ret (results_tmp3 rfl _ _ _) rfl ?_
          have hRR := unveil HRR
          rw [unveil HE2, if_pos he] at hRR
          rw [← hRR]
          exact ⟨_, rfl, World.ownsRow_nil _ _ _ _, unveil HB4⟩
      · obtain rfl : k = args.length := by omega
        have HEN : Hid (errM (args.map (fun t => (lokM t).2)) = 0) := errM_none _ (fun i hi => by simp only [List.getElem_map]; exact (unveil hI).ok i (by simpa using hi) (by simpa using hi))
        have HOK : Hid (∀ (i : Nat) (h : i < args.length), (lokM args[i]).2 = 0) := fun i h => (unveil hI).ok i h h
        have HRR2 := unveil HRR
        rw [unveil HEN] at HRR2
        simp only [bne_self_eq_false, Bool.false_eq_true, if_false] at HRR2
        have HSM1 := veil (unveil HSM wr (unveil hI).be)
        obtain ⟨y0, y1, y2, y3, y4, y5, y6⟩ := (unveil hI).tb.seven
        have hlt := (unveil hI).tb.lt
        have HEB : Hid ((if SB then ((0, 0, []), 0) else lokM ret) = lobM SB ret) := rfl
        generalize hLB : lobM SB ret = LB at *
        obtain ⟨⟨bz, ba, bcl⟩, ber⟩ := LB
        simp only at HRR2
        have HR3 := veil HRR2
        clear HRR2 HRR HEN HSM HLK
        go_upto_if 51 with (go_at_call 32; refine (unveil HSM1).mono ?_; rintro r W5 ⟨rfl, hb5⟩; have HP5 := veil ((unveil hI).below hb5); clear hb5)
        clear y0 y1 y2 y3 y4 y5 y6 hlt
        obtain ⟨y0, y1, y2, y3, y4, y5, y6⟩ := (unveil HP5).tb.seven
        have hlt := (unveil HP5).tb.lt
        have hwW : w.heap.size ≤ W5.heap.size := (unveil HP5).be.size
        go_cut [11, 12, 14, 15] from 52 to 148 (fun vv rv _ _ wx => (ber = 0 ∧ ∃ q c, vv = .slice q (plB (memB bcl)).1.length c ∧ rv = .int .i64 (plB (memB bcl)).2.1 ∧ Hid (wx.ownsRow w.heap.size 75 4 (.slice q (plB (memB bcl)).1.length c) (plB (memB bcl)).1.length (lcCs (plB (memB bcl)).1))) ∧ Hid (FrP w.heap.size W5 wx))
        case first =>
          cases hSB : SB
          · have HEB2 := unveil HEB
            rw [hSB, if_neg (by simp)] at HEB2
            have HC1 := unveil HCR W5 (unveil HP5).be
            have HHD : Hid (ber = 0 → ∃ (hh : 0 < bcl.length), (bcl[0] == 2) = memB bcl) := fun h => by
              have := cls_head (t := ret) (by rw [HEB2]; exact h)
              rw [HEB2] at this
              exact this
            rw [HEB2] at HC1
            unfold ClP at HC1
            simp only at HC1
            have HC2 := veil HC1
            subst hSB
            clear HEB2 HC1 HEB HCR
            cases hbe : ber != 0
            · have hz : ber = 0 := by simpa using hbe
              subst hz
              obtain ⟨hh, hm⟩ := unveil HHD rfl
              clear hbe HHD
              go_upto_region 18 with (go_at_call 46; refine (unveil HC2).mono ?_; rintro r W6 ⟨p, cp, rfl, hi6, hb6⟩; have HI6 := veil hi6; have HB6 := veil hb6; clear hi6 hb6)
              obtain ⟨g, o, rfl, hg, d0⟩ := (unveil HI6).at 0 hh
              simp only [Nat.add_zero] at d0
              generalize bcl[0] = b0 at *
              have HM := veil hm
              clear hm
              cases hb2 : b0 == 2
              · have hmf : memB bcl = false := by rw [← unveil HM, hb2]
                have HMF := veil hmf
                clear hmf HM
                go_wp2_with fail
                go_meet
                case rel =>
                  rw [unveil HMF]
                  exact ⟨⟨by trivial, none, 0, rfl, rfl, World.ownsRow_nil _ _ _ _⟩, FrP.below (unveil HB6) hwW⟩
              · have hmt : memB bcl = true := by rw [← unveil HM, hb2]
                have hb22 : b0 = 2 := by simpa using hb2
                subst hb22
                have HMF := veil hmt
                clear hb2 HM hmt
                have hw6 : w.heap.size ≤ W6.heap.size := Nat.le_trans hwW (unveil HB6).size
                obtain ⟨i0, hi, hz0, hz1, hz2'⟩ := info_parts infoLc
                have hrowa : (W6.alloc (.cells (lcC ⟨-1, 0, 0, 0⟩).toArray 75)).ownsRow w.heap.size 75 4 (.slice none 0 0) 0 [] := World.ownsRow_nil _ _ _ _
                go_wp2_with (at_builtin; refine wpList_append_own _ rfl _ _ 69 rfl w.heap.size 75 i0 _ 4 32 Try.underlying69 hi hz0 hz1 hz2' rfl (by decide) _ _ _ rfl hrowa ⟨W6.heap.size, 0, none⟩ 1 1 (lcC ⟨-1, 0, 0, 0⟩) rfl rfl (lc_cells W6 ⟨-1, 0, 0, 0⟩ 75) ?c2 ?c3 ?c4 ?c5 ?_)
                case c2 => intro u hu; simp [lcC] at hu; rcases hu with rfl | rfl | rfl | rfl <;> rfl
                case c3 => unfold maxLen; omega
                case c4 => omega
                case c5 => simp; omega
                intro v8 W8 hown8 hg8 _
                obtain ⟨q8, c8, rfl⟩ := row_slice hown8
                have HO8 := veil hown8
                have HF8 := veil ((FrP.below (unveil HB6) hwW).trans (FrP.app (new1_below W6 _) hrowa hg8 hw6))
                clear hown8 hg8 hrowa hi hz0 hz1 hz2'
                go_wp2_with fail
                go_meet
                case rel =>
                  rw [unveil HMF]
                  exact ⟨⟨by trivial, q8, c8, rfl, rfl, unveil HO8⟩, unveil HF8⟩
            · go_wp2_with (go_at_call 46; refine (unveil HC2).mono ?_; rintro r W6 ⟨p, cp, rfl, hi6, hb6⟩; have HB6 := veil ((unveil HP5).be.trans (hb6.mono hwW)); clear hi6 hb6)
              refine bodyPost_ret (results_tmp3 rfl _ _ _) rfl ?_
              have hRR := unveil HR3
              rw [if_pos hbe] at hRR
              rw [← hRR]
              exact ⟨_, rfl, World.ownsRow_nil _ _ _ _, unveil HB6⟩
          · have HEB2 := unveil HEB
            rw [hSB, if_pos rfl] at HEB2
            obtain ⟨rfl, rfl⟩ : bcl = [] ∧ ber = 0 := by cases HEB2; exact ⟨rfl, rfl⟩
            subst hSB
            clear HEB2 HEB HCR
            go_wp2_with fail
            go_meet
            case rel => exact ⟨⟨by trivial, none, 0, rfl, rfl, World.ownsRow_nil _ _ _ _⟩, ⟨Below.refl _ _ , fun _ _ _ _ _ h => h⟩⟩
        case rest =>
        obtain ⟨⟨hz, qo, co, rfl, rfl, HO6⟩, HF6⟩ := hcut
        subst hz
        have HIS6 : Hid (∀ v ∈ vs, IsG wc.heap.size wc v.p v.cl) := fun v hv => (unveil HF6).is ((unveil HP5).is v hv)
        have HOV6 := veil (ownsRow_fr (unveil HP5).own (unveil HF6) (by decide) (by decide))
        have HB6 : Hid (Below w.heap.size w wc) := (unveil HP5).be.trans (unveil HF6).be
        have HVL := veil (unveil HP5).len
        have HVE : Hid (vs.map Sl.cl = args.map (fun t => (lokM t).1.2.2)) := by have := (unveil HP5).eq; rw [List.take_length] at this; exact this
        have hwc : w.heap.size ≤ wc.heap.size := (unveil HB6).size
        clear y0 y1 y2 y3 y4 y5 y6 hlt HP5 HF6 HEB HCR HSM1 hI HI0 HT0
        have hR4 := unveil HR3
        simp only [bne_self_eq_false, Bool.false_eq_true, if_false] at hR4
        have HR4 := veil hR4
        clear HR3 hR4
        generalize memB bcl = M at *
        have HPK : Hid (∀ k, k ≤ args.length → StOk (k + 1) (plK (args.map (fun t => (lokM t).1)) (plB M) k)) := fun k hk => plK_ok _ M (fun v hv => by
          obtain ⟨t, ht, rfl⟩ := List.mem_map.1 hv
          obtain ⟨i, hi, rfl⟩ := List.mem_iff_getElem.1 ht
          exact lok_ok (unveil HOK i hi)) k (by simpa using hk)
        have HSTEP : Hid (∀ (k : Nat) (h : k < args.length), plK (args.map (fun t => (lokM t).1)) (plB M) (k + 1) = putM k (lokM args[k]).1 (plK (args.map (fun t => (lokM t).1)) (plB M) k)) := fun k h => by
          rw [plK]
          congr 1
          rw [List.getD_eq_getElem?_getD, List.getElem?_map, List.getElem?_eq_getElem h]
          rfl
        generalize hPK : plK (args.map (fun t => (lokM t).1)) (plB M) = PK at *
        have hPK0 : PK 0 = plB M := by rw [← hPK]; rfl
        rw [← hPK0] at HO6 ⊢
        have hs0 : (PK 0).2.2 = 0 := by rw [hPK0]; cases M <;> rfl
        clear hPK hPK0
        go_wp2_with fail
        go_loopw [11, 12, 16, 17] (fun vv rv ov i wx => ∃ (k : Nat) (qo : Option Addr) (co : Nat), vv = .slice qo (PK k).1.length co ∧ rv = .int .i64 (PK k).2.1 ∧ ov = .int .i64 (PK k).2.2 ∧ i = .int .i64 k ∧ k ≤ args.length ∧ Hid (wx.ownsRow w.heap.size 75 4 (.slice qo (PK k).1.length co) (PK k).1.length (lcCs (PK k).1)) ∧ Hid (FrP w.heap.size wc wx)) (fun vv rv ov i wx => args.length - (intOf i).toNat)
        case atStart => exact ⟨0, qo, co, rfl, rfl, by rw [hs0], rfl, Nat.zero_le _, HO6, veil ⟨Below.refl _ _, fun _ _ _ _ _ h => h⟩⟩
        case round =>
          obtain ⟨k, qo, co, rfl, rfl, rfl, rfl, hk, HO, HF⟩ := hrel
          have HOK2 := unveil HPK k hk
          by_cases hkl : k < args.length
          · have hkk : (k : Int) < (args.length : Int) := by omega
            have hkv : k < vs.length := by rw [unveil HVL]; exact hkl
            have hww : w.heap.size ≤ wr.heap.size := Nat.le_trans hwc (unveil HF).size
            obtain ⟨gv, rfl, hgv, d0⟩ := sl_at (ownsRow_fr (unveil HOV6) (unveil HF) (by decide) (by decide)) (unveil HVL) (i := k) hkv
            have HIK := veil (unveil HIS6 _ (List.getElem_mem hkv))
            have hcl : (vs[k]).cl = (lokM args[k]).1.2.2 := by
              have h := unveil HVE
              have e : (vs.map Sl.cl)[k]? = (args.map (fun t => (lokM t).1.2.2))[k]? := by rw [h]
              rw [List.getElem?_map, List.getElem?_map, List.getElem?_eq_getElem hkv, List.getElem?_eq_getElem hkl] at e
              simpa using e
            have hk0 := unveil HOK k hkl
            obtain ⟨hh, hhd⟩ := cls_head hk0
            obtain ⟨v1, v2, v3, v4⟩ := lok_ok hk0
            obtain ⟨f1, _, _, _, _, _, _, f8, _⟩ := cls_facts (t := args[k]) (by rw [hk0]; rfl)
            have HST := veil (unveil HSTEP k hkl)
            obtain ⟨gt, ot, rfl, hgt, hct, _⟩ := ((unveil HSQ).below ((unveil HB6).trans (unveil HF).be)) k hkl
            obtain ⟨e0, e1, e2, e3, e4, e5, e6⟩ := seven hct
            have hgl : gt < wr.heap.size := Nat.lt_of_lt_of_le hgt hww
            have HOFA : Hid (∀ W, Below wr.heap.size wr W → Calls Try.prog 24 #[args[k].v] W (OfP W (chkM args[k]).1.1 (chkM args[k]).1.2 (chkM args[k]).2 (ofL args[k]))) := fun W h => unveil HOF k hkl W (((unveil HB6).trans (unveil HF).be).trans (h.mono hww))
            have hce : (chkM args[k]).2 = 0 := by simpa using f1
            have hc1 : (lokM args[k]).1.1 = (chkM args[k]).1.1 := by rw [f8]
            have hc2 : (lokM args[k]).1.2.1 = (chkM args[k]).1.2 := by rw [f8]
            rw [hce, ← hc1, ← hc2] at HOFA
            clear f8 f1 hce hc1 hc2 hct hgt hk0
            generalize lokM args[k] = LK at *
            obtain ⟨⟨lz, la, lcl⟩, ler⟩ := LK
            generalize args[k] = A at *
            simp only at hcl v1 v2 v3 v4 HOFA HST
            generalize vs[k] = V at *
            obtain ⟨vp, vc, vcl⟩ := V
            simp only at hcl d0 HIK
            subst hcl
            have hab := al_bnd v3
            obtain ⟨zn, rfl⟩ : ∃ m : Nat, lz = (m : Int) := ⟨lz.toNat, by omega⟩
            have HINT : Hid (∀ W, Below wr.heap.size wr W → Calls Try.prog 84 #[.slice vp vcl.length vc] W fun e w' => e = .returned (.int .i64 (onesM vcl : Int)) ∧ w' = W) := fun W h => integers_any vcl vp vc W (by omega) ((unveil HF).is (unveil HIK) |>.size h h.size)
            obtain ⟨gc, oc0, rfl, hgc, dc⟩ := ((unveil HF).is (unveil HIK)).at 0 hh
            simp only [Nat.add_zero] at dc
            have HPKN := veil (unveil HPK (k + 1) (by omega))
            generalize hPKk : PK k = ST at *
            obtain ⟨L, us, sk⟩ := ST
            obtain ⟨s1, s2, s3, s4, s5⟩ := HOK2
            simp only at s1 s2 s3 s4 s5 HO
            have hon := ones_le vcl
            have HFIT := veil (fit_eq vcl (6 - us) (by omega))
            unfold putM at HST
            simp only [Int.toNat_natCast] at HST
            have hmx : (if (8 : Int) ≤ la then la else 8) = max 8 la := by omega
            have hmx2 : (if la ≤ (8 : Int) then (8 : Int) else la) = max 8 la := by split <;> omega
            have hmx3 : (if (8 : Int) < la then la else 8) = max 8 la := by split <;> omega
            have HUB : Hid (∀ W, Calls Try.prog 85 #[.int .i64 sk, .int .i64 (max 8 la)] W fun e w' => e = .returned (.int .i64 (upM sk (max 8 la))) ∧ w' = W) := fun W => Rup12_any sk (max 8 la) W s4 (by omega) (by omega) (by omega)
            have HUZ : Hid (∀ W, Calls Try.prog 85 #[.int .i64 (zn : Int), .int .i64 8] W fun e w' => e = .returned (.int .i64 (upM (zn : Int) 8)) ∧ w' = W) := fun W => Rup12_any (zn : Int) 8 W (by omega) (by omega) (by omega) (by omega)
            obtain ⟨u1, u2, _⟩ := upM_le (n := sk) (m := max 8 la) s4 (by omega)
            have hu8 : upM (zn : Int) 8 = 8 * (nEi zn : Int) := by unfold upM nEi; omega
            have hnz : nEi zn ≤ 8192 := by unfold nEi; omega
            have hbg : 0 ≤ upM sk (max 8 la) ∧ upM sk (max 8 la) ≤ 2000000 := by omega
            obtain ⟨hbg0, hbg1⟩ := hbg
            clear u1 u2
            generalize upM sk (max 8 la) = bg at *
            generalize upM (zn : Int) 8 = uz at *
            generalize vcl[0] = c0 at *
            cases hc2 : c0 == 2
            · have hmb : memB vcl = false := by rw [← hhd, hc2]
              have HFIT2 := unveil HFIT
              rw [hmb] at HFIT2
              simp only [Bool.not_false, Bool.true_and] at HFIT2
              have hcne : (c0 != 2) = true := by simp only [bne, hc2]; rfl
              clear hmb hhd hc2 HFIT
              by_cases hfit : (onesM vcl : Int) ≤ 6 - us
              · rw [decide_eq_true hfit] at HFIT2
                rw [HFIT2, if_pos rfl] at HST
                have HN := HST
                clear HFIT2 HST HOFA HUB HUZ hmx hmx2 hmx3 e0 e1 e2 e3 e4 e5 e6
                go_upto_region 28 with (go_at_call 84; refine (unveil HINT _ (Below.refl _ _)).mono ?_; rintro r W4 ⟨rfl, h4⟩; obtain rfl := h4.symm)
                have HRB := veil (regK_bnd (k : Int) vcl (L, us))
                go_loopw [11, 12, 19] (fun vv rv i wy => ∃ (j : Nat) (qo : Option Addr) (co : Nat), vv = .slice qo (regK k vcl (L, us) j).1.length co ∧ rv = .int .i64 (regK k vcl (L, us) j).2 ∧ i = .int .i64 j ∧ j ≤ vcl.length ∧ Hid (wy.ownsRow w.heap.size 75 4 (.slice qo (regK k vcl (L, us) j).1.length co) (regK k vcl (L, us) j).1.length (lcCs (regK k vcl (L, us) j).1)) ∧ Hid (FrP w.heap.size wc wy)) (fun vv rv i wy => vcl.length - (intOf i).toNat)
                case atStart => exact ⟨0, qo, co, rfl, rfl, rfl, Nat.zero_le _, HO, HF⟩
                case round =>
                  obtain ⟨j, qj, cj, rfl, rfl, rfl, hj, HOj, HFj⟩ := hrel
                  obtain ⟨rb1, rb2, rb3⟩ := unveil HRB j
                  try simp only at rb1 rb2 rb3
                  by_cases hjn : j < vcl.length
                  · have hjj : (j : Int) < (vcl.length : Int) := by omega
                    obtain ⟨gx, ox, hgx, hgx2, dx⟩ := ((unveil HFj).is (unveil HIK)).at j hjn
                    obtain ⟨rfl, rfl⟩ : gc = gx ∧ oc0 = ox := by cases hgx; exact ⟨rfl, rfl⟩
                    have hgd : vcl.getD j 0 = vcl[j] := by rw [List.getD_eq_getElem?_getD, List.getElem?_eq_getElem hjn]; rfl
                    have HSN : Hid (regK k vcl (L, us) (j + 1) = regS k j (regK k vcl (L, us) j) vcl[j]) := by unfold Hid; rw [regK, hgd]
                    have hw7 : w.heap.size ≤ wr.heap.size := Nat.le_trans hwc (unveil HFj).size
                    generalize regK k vcl (L, us) j = RJ at *
                    obtain ⟨Lj, uj⟩ := RJ
                    try simp only at rb1 rb2 rb3 HOj
                    generalize vcl[j] = x at *
                    clear hgx hgd
                    cases hx : x == 1
                    · have hsn := unveil HSN
                      rw [regS, hx, if_neg (by simp)] at hsn
                      have HS2 := veil hsn
                      clear hsn HSN
                      go_wp2_with fail
                      go_roundw
                      case rel => exact ⟨j + 1, qj, cj, by rw [unveil HS2], by rw [unveil HS2], by go_num, by omega, by rw [unveil HS2]; exact HOj, HFj⟩
                      case measure => simp [intOf]; omega
                    · have hsn := unveil HSN
                      rw [regS, hx, if_pos rfl] at hsn
                      have HS2 := veil hsn
                      have hx1 : x = 1 := by simpa using hx
                      subst hx1
                      clear hsn HSN hx
                      have hrowa := (unveil HOj).alloc (.cells (lcC ⟨k, j, uj, 0⟩).toArray 75)
                      obtain ⟨i0, hi, hz0, hz1, hz2'⟩ := info_parts infoLc
                      go_wp2_with (at_builtin; refine wpList_append_own _ rfl _ _ 69 rfl w.heap.size 75 i0 _ 4 32 Try.underlying69 hi hz0 hz1 hz2' rfl (by decide) _ _ _ rfl hrowa ⟨wr.heap.size, 0, none⟩ 1 1 (lcC ⟨k, j, uj, 0⟩) rfl rfl (lc_cells wr ⟨k, j, uj, 0⟩ 75) ?c2 ?c3 ?c4 ?c5 ?_)
                      case c2 => intro u hu; simp [lcC] at hu; rcases hu with rfl | rfl | rfl | rfl <;> rfl
                      case c3 => unfold maxLen; omega
                      case c4 => omega
                      case c5 => first | (simp; omega) | omega | (rw [World.size_alloc]; omega)
                      intro v8 W8 hown8 hg8 _
                      obtain ⟨q8, c8, rfl⟩ := row_slice hown8
                      have HF8 := veil ((unveil HFj).trans (FrP.app (new1_below wr _) hrowa hg8 hw7))
                      rw [← lcCs_snoc] at hown8
                      have HO8 := veil hown8
                      clear hown8 hg8 hrowa hi hz0 hz1 hz2' dx
                      go_wp2_with fail
                      go_roundw
                      case rel =>
                        refine ⟨j + 1, q8, c8, ?_, ?_, by go_num, by omega, ?_, HF8⟩
                        · rw [unveil HS2]; first | rfl | (simp; done) | (rw [List.length_append]; rfl)
                        · rw [unveil HS2]
                        · rw [unveil HS2]; first | exact HO8 | (simp only [List.length_append, List.length_cons, List.length_nil] at HO8 ⊢; exact HO8)
                      case measure => simp [intOf]; omega
                  · have hjj : ¬ (j : Int) < (vcl.length : Int) := by omega
                    obtain rfl : j = vcl.length := by omega
                    generalize regK k vcl (L, us) vcl.length = RJ at *
                    obtain ⟨Lj, uj⟩ := RJ
                    try simp only at HOj HN
                    go_wp2_with fail
                    go_roundw
                    case rel => exact ⟨k + 1, qj, cj, by rw [unveil HN], by rw [unveil HN], by rw [unveil HN], by go_num, by omega, by rw [unveil HN]; exact HOj, HFj⟩
                    case measure => simp [intOf]; omega
              · rw [decide_eq_false hfit] at HFIT2
                rw [HFIT2, if_neg (by simp)] at HST
                have HN := HST
                clear HFIT2 HST
                have HOF1 : Hid (∀ W, Below wr.heap.size wr W → Calls Try.prog 24 #[A.v] W (OfP W (zn : Int) la 0 (ofL A))) := fun W h => unveil HOFA W (h.mono (Nat.le_refl _))
                unfold OfP bxC ShT.v ShT.cs at HOF1
                go_upto_region 34 with (first
                  | (go_at_call 84; refine (unveil HINT _ (Below.refl _ _)).mono ?_; rintro r W4 ⟨rfl, h4⟩; obtain rfl := h4.symm)
                  | (go_at_call 24; refine (unveil HOF1 _ (Below.refl _ _)).mono ?_; rintro r W5 ⟨oq, on, oc, rfl, hb5, _⟩; have HB5 := veil hb5; clear hb5))
                have hx6 := Bk.new W5 32 #[.int .i64 (zn : Int), .int .i64 la, .bool false, .slice oq on oc]
                have HO7 := veil ((ownsRow_belowS (unveil HO) (unveil HB5)).alloc (.cells #[.int .i64 (zn : Int), .int .i64 la, .bool false, .slice oq on oc] 32))
                have HF7 : Hid (FrP w.heap.size wc (W5.alloc (.cells #[.int .i64 (zn : Int), .int .i64 la, .bool false, .slice oq on oc] 32))) := ((unveil HF).trans (FrP.below (unveil HB5) hww)).trans (FrP.below (new1_below W5 _) (Nat.le_trans hww (unveil HB5).size))
                generalize (W5.alloc (.cells #[.int .i64 (zn : Int), .int .i64 la, .bool false, .slice oq on oc] 32)) = W6 at *
                generalize W5.heap.size = XB at *
                have HX6 := veil hx6
                have b0 := hx6.cell 0
                have b1 := hx6.cell 1
                simp only [List.getElem?_toArray, List.getElem?_cons_succ, List.getElem?_cons_zero] at b0 b1
                have hxl := hx6.lt
                have hxw : w.heap.size ≤ W6.heap.size := Nat.le_trans hwc (unveil HF7).size
                clear hx6 HB5
                go_wp2_with (go_at_call 85; refine (unveil HUB _).mono ?_; rintro r W7 ⟨rfl, h7⟩; obtain rfl := h7.symm)
                clear b0 b1 hmx hmx2 hmx3
                go_loopw [11, 22] (fun vv i wy => ∃ (j : Nat) (qo : Option Addr) (co : Nat), vv = .slice qo (L ++ (List.range j).map (stkF k bg)).length co ∧ i = .int .i64 j ∧ j ≤ nEi zn ∧ Hid (wy.ownsRow w.heap.size 75 4 (.slice qo (L ++ (List.range j).map (stkF k bg)).length co) (L ++ (List.range j).map (stkF k bg)).length (lcCs (L ++ (List.range j).map (stkF k bg)))) ∧ Hid (FrP w.heap.size W6 wy)) (fun vv i wy => nEi zn - (intOf i).toNat)
                case atStart => exact ⟨0, qo, co, by rw [List.range_zero, List.map_nil, List.append_nil], rfl, Nat.zero_le _, by rw [List.range_zero, List.map_nil, List.append_nil]; exact HO7, veil ⟨Below.refl _ _, fun _ _ _ _ _ h => h⟩⟩
                case round =>
                  obtain ⟨j, qj, cj, rfl, rfl, hj, HOj, HFj⟩ := hrel
                  have hxb := (unveil HFj).bk _ _ _ (by decide) (by decide) (unveil HX6)
                  have b0 := hxb.cell 0
                  simp only [List.getElem?_toArray, List.getElem?_cons_succ, List.getElem?_cons_zero] at b0
                  have hxl2 := hxb.lt
                  clear hxb
                  have hqu : uz.tdiv 8 = (nEi zn : Int) := by rw [Int.tdiv_eq_ediv_of_nonneg (by omega)]; omega
                  have hqu2 : uz / 8 = (nEi zn : Int) := by omega
                  by_cases hjn : j < nEi zn
                  · have hjj : (j : Int) < (nEi zn : Int) := by omega
                    have HSN : Hid ((L ++ (List.range j).map (stkF k bg)) ++ [stkF k bg j] = L ++ (List.range (j + 1)).map (stkF k bg)) := by unfold Hid; rw [List.range_succ, List.map_append, List.append_assoc]; rfl
                    have hLj : (L ++ (List.range j).map (stkF k bg)).length ≤ 200000 := by rw [List.length_append, List.length_map, List.length_range]; omega
                    generalize L ++ (List.range j).map (stkF k bg) = Lj at *
                    have hrowa := (unveil HOj).alloc (.cells (lcC (stkF k bg j)).toArray 75)
                    obtain ⟨i0, hi, hz0, hz1, hz2'⟩ := info_parts infoLc
                    have hw7 : w.heap.size ≤ wr.heap.size := Nat.le_trans hxw (unveil HFj).size
                    go_upto_region 38 with (go_at_call 85; refine (unveil HUZ _).mono ?_; rintro r W7 ⟨rfl, h7⟩; obtain rfl := h7.symm)
                    go_wp2_with (at_builtin; refine wpList_append_own _ rfl _ _ 69 rfl w.heap.size 75 i0 _ 4 32 Try.underlying69 hi hz0 hz1 hz2' rfl (by decide) _ _ _ rfl hrowa ⟨wr.heap.size, 0, none⟩ 1 1 (lcC (stkF k bg j)) rfl rfl (lc_cells wr (stkF k bg j) 75) ?c2 ?c3 ?c4 ?c5 ?_)
                    case c2 => intro u hu; simp [lcC] at hu; rcases hu with rfl | rfl | rfl | rfl <;> rfl
                    case c3 => unfold maxLen; omega
                    case c4 => omega
                    case c5 => first | (simp; omega) | omega | (rw [World.size_alloc]; omega)
                    intro v8 W8 hown8 hg8 _
                    obtain ⟨q8, c8, rfl⟩ := row_slice hown8
                    have HF8 := veil ((unveil HFj).trans (FrP.app (new1_below wr _) hrowa hg8 hw7))
                    rw [← lcCs_snoc] at hown8
                    have HO8 := veil hown8
                    clear hown8 hg8 hrowa hi hz0 hz1 hz2' b0
                    go_wp2_with fail
                    go_roundw
                    case rel =>
                      refine ⟨j + 1, q8, c8, ?_, by go_num, by omega, ?_, HF8⟩
                      · rw [← unveil HSN, List.length_append]; rfl
                      · rw [← unveil HSN, List.length_append]; exact HO8
                    case measure => simp [intOf]; omega
                  · have hjj : ¬ (j : Int) < (nEi zn : Int) := by omega
                    obtain rfl : j = nEi zn := by omega
                    generalize L ++ (List.range (nEi zn)).map (stkF k bg) = Ln at *
                    go_wp2_with (go_at_call 85; refine (unveil HUZ _).mono ?_; rintro r W7 ⟨rfl, h7⟩; obtain rfl := h7.symm)
                    go_roundw
                    case rel => exact ⟨k + 1, qj, cj, by rw [unveil HN], by rw [unveil HN], by rw [unveil HN]; simp only [hu8], by go_num, by omega, by rw [unveil HN]; exact HOj, (unveil HF7).trans (unveil HFj)⟩
                    case measure => simp [intOf]; omega
            · have hmb : memB vcl = true := by rw [← hhd, hc2]
              have HFIT2 := unveil HFIT
              rw [hmb] at HFIT2
              simp only [Bool.not_true, Bool.false_and] at HFIT2
              rw [HFIT2, if_neg (by simp)] at HST
              have HN := HST
              have hc22 : c0 = 2 := by simpa using hc2
              subst hc22
              clear HFIT2 HST hmb hhd hc2 HFIT
              have HOF1 : Hid (∀ W, Below wr.heap.size wr W → Calls Try.prog 24 #[A.v] W (OfP W (zn : Int) la 0 (ofL A))) := fun W h => unveil HOFA W (h.mono (Nat.le_refl _))
              unfold OfP bxC ShT.v ShT.cs at HOF1
              go_upto_region 34 with (first
                | (go_at_call 84; refine (unveil HINT _ (Below.refl _ _)).mono ?_; rintro r W4 ⟨rfl, h4⟩; obtain rfl := h4.symm)
                | (go_at_call 24; refine (unveil HOF1 _ (Below.refl _ _)).mono ?_; rintro r W5 ⟨oq, on, oc, rfl, hb5, _⟩; have HB5 := veil hb5; clear hb5))
              have hx6 := Bk.new W5 32 #[.int .i64 (zn : Int), .int .i64 la, .bool false, .slice oq on oc]
              have HO7 := veil ((ownsRow_belowS (unveil HO) (unveil HB5)).alloc (.cells #[.int .i64 (zn : Int), .int .i64 la, .bool false, .slice oq on oc] 32))
              have HF7 : Hid (FrP w.heap.size wc (W5.alloc (.cells #[.int .i64 (zn : Int), .int .i64 la, .bool false, .slice oq on oc] 32))) := ((unveil HF).trans (FrP.below (unveil HB5) hww)).trans (FrP.below (new1_below W5 _) (Nat.le_trans hww (unveil HB5).size))
              generalize (W5.alloc (.cells #[.int .i64 (zn : Int), .int .i64 la, .bool false, .slice oq on oc] 32)) = W6 at *
              generalize W5.heap.size = XB at *
              have HX6 := veil hx6
              have b0 := hx6.cell 0
              have b1 := hx6.cell 1
              simp only [List.getElem?_toArray, List.getElem?_cons_succ, List.getElem?_cons_zero] at b0 b1
              have hxl := hx6.lt
              have hxw : w.heap.size ≤ W6.heap.size := Nat.le_trans hwc (unveil HF7).size
              clear hx6 HB5
              go_wp2_with (go_at_call 85; refine (unveil HUB _).mono ?_; rintro r W7 ⟨rfl, h7⟩; obtain rfl := h7.symm)
              clear b0 b1 hmx hmx2 hmx3
              go_loopw [11, 22] (fun vv i wy => ∃ (j : Nat) (qo : Option Addr) (co : Nat), vv = .slice qo (L ++ (List.range j).map (stkF k bg)).length co ∧ i = .int .i64 j ∧ j ≤ nEi zn ∧ Hid (wy.ownsRow w.heap.size 75 4 (.slice qo (L ++ (List.range j).map (stkF k bg)).length co) (L ++ (List.range j).map (stkF k bg)).length (lcCs (L ++ (List.range j).map (stkF k bg)))) ∧ Hid (FrP w.heap.size W6 wy)) (fun vv i wy => nEi zn - (intOf i).toNat)
              case atStart => exact ⟨0, qo, co, by rw [List.range_zero, List.map_nil, List.append_nil], rfl, Nat.zero_le _, by rw [List.range_zero, List.map_nil, List.append_nil]; exact HO7, veil ⟨Below.refl _ _, fun _ _ _ _ _ h => h⟩⟩
              case round =>
                obtain ⟨j, qj, cj, rfl, rfl, hj, HOj, HFj⟩ := hrel
                have hxb := (unveil HFj).bk _ _ _ (by decide) (by decide) (unveil HX6)
                have b0 := hxb.cell 0
                simp only [List.getElem?_toArray, List.getElem?_cons_succ, List.getElem?_cons_zero] at b0
                have hxl2 := hxb.lt
                clear hxb
                have hqu : uz.tdiv 8 = (nEi zn : Int) := by rw [Int.tdiv_eq_ediv_of_nonneg (by omega)]; omega
                have hqu2 : uz / 8 = (nEi zn : Int) := by omega
                by_cases hjn : j < nEi zn
                · have hjj : (j : Int) < (nEi zn : Int) := by omega
                  have HSN : Hid ((L ++ (List.range j).map (stkF k bg)) ++ [stkF k bg j] = L ++ (List.range (j + 1)).map (stkF k bg)) := by unfold Hid; rw [List.range_succ, List.map_append, List.append_assoc]; rfl
                  have hLj : (L ++ (List.range j).map (stkF k bg)).length ≤ 200000 := by rw [List.length_append, List.length_map, List.length_range]; omega
                  generalize L ++ (List.range j).map (stkF k bg) = Lj at *
                  have hrowa := (unveil HOj).alloc (.cells (lcC (stkF k bg j)).toArray 75)
                  obtain ⟨i0, hi, hz0, hz1, hz2'⟩ := info_parts infoLc
                  have hw7 : w.heap.size ≤ wr.heap.size := Nat.le_trans hxw (unveil HFj).size
                  go_upto_region 38 with (go_at_call 85; refine (unveil HUZ _).mono ?_; rintro r W7 ⟨rfl, h7⟩; obtain rfl := h7.symm)
                  go_wp2_with (at_builtin; refine wpList_append_own _ rfl _ _ 69 rfl w.heap.size 75 i0 _ 4 32 Try.underlying69 hi hz0 hz1 hz2' rfl (by decide) _ _ _ rfl hrowa ⟨wr.heap.size, 0, none⟩ 1 1 (lcC (stkF k bg j)) rfl rfl (lc_cells wr (stkF k bg j) 75) ?c2 ?c3 ?c4 ?c5 ?_)
                  case c2 => intro u hu; simp [lcC] at hu; rcases hu with rfl | rfl | rfl | rfl <;> rfl
                  case c3 => unfold maxLen; omega
                  case c4 => omega
                  case c5 => first | (simp; omega) | omega | (rw [World.size_alloc]; omega)
                  intro v8 W8 hown8 hg8 _
                  obtain ⟨q8, c8, rfl⟩ := row_slice hown8
                  have HF8 := veil ((unveil HFj).trans (FrP.app (new1_below wr _) hrowa hg8 hw7))
                  rw [← lcCs_snoc] at hown8
                  have HO8 := veil hown8
                  clear hown8 hg8 hrowa hi hz0 hz1 hz2' b0
                  go_wp2_with fail
                  go_roundw
                  case rel =>
                    refine ⟨j + 1, q8, c8, ?_, by go_num, by omega, ?_, HF8⟩
                    · rw [← unveil HSN, List.length_append]; rfl
                    · rw [← unveil HSN, List.length_append]; exact HO8
                  case measure => simp [intOf]; omega
                · have hjj : ¬ (j : Int) < (nEi zn : Int) := by omega
                  obtain rfl : j = nEi zn := by omega
                  generalize L ++ (List.range (nEi zn)).map (stkF k bg) = Ln at *
                  go_wp2_with (go_at_call 85; refine (unveil HUZ _).mono ?_; rintro r W7 ⟨rfl, h7⟩; obtain rfl := h7.symm)
                  go_roundw
                  case rel => exact ⟨k + 1, qj, cj, by rw [unveil HN], by rw [unveil HN], by rw [unveil HN]; simp only [hu8], by go_num, by omega, by rw [unveil HN]; exact HOj, (unveil HF7).trans (unveil HFj)⟩
                  case measure => simp [intOf]; omega
          · obtain rfl : k = args.length := by omega
            have HR5 := HR4
            generalize PK args.length = ST at *
            obtain ⟨SL, su, sk⟩ := ST
            obtain ⟨o1, o2, o3, o4, o5⟩ := HOK2
            simp only at o1 o2 o3 o4 o5 HO
            have HU : Hid (∀ W, Calls Try.prog 85 #[.int .i64 sk, .int .i64 16] W fun e w' => e = .returned (.int .i64 (upM sk 16)) ∧ w' = W) := fun W => Rup12_any sk 16 W o4 (by omega) (by omega) (by omega)
            clear o1 o2 o3 o4 o5
            go_wp2_with (go_at_call 85; refine (unveil HU _).mono ?_; rintro r W7 ⟨rfl, h7⟩; obtain rfl := h7.symm)
            refine bodyPost_ret (results_tmp3 rfl _ _ _) rfl ?_
            rw [← unveil HR5]
            exact ⟨_, rfl, unveil HO, (unveil HB6).trans (unveil HF).be⟩
end Go.Proofs.Ytaffldhmgifdoaa
