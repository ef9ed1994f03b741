/-
  Contracts of the model: the bytes of fields.
-/
import Derived.Test.YtidgjjbdabifnabDoorFsw
import Derived.Deep.RegionWith
namespace Go.Proofs.YtidgjjbdabifnabDoor.Rc
open Go.ChangeShapes Go.WideShapes Go.ChangeAt Go.RowKit Go.Deep
set_option linter.unusedVariables false
set_option maxRecDepth 100000

/-- the bytes of a field as a text -/
def fbX (D : FieldD) : ByteArray := ⟨(fbF D).toArray⟩
theorem tx_cat (s : ByteArray) (b first : Nat) : (⟨(txL s b first).toArray⟩ : ByteArray) = pfT s.size b first ++ s := by
  unfold txL pfT
  apply ByteArray.ext
  rw [ByteArray.data_append]
  simp
theorem fbX_a {D : FieldD} {n : Nat} (h : fsA sT D 0 = n) : fbX D = pfT n 6 192 := by
  unfold fbX fbF
  rw [h, if_pos (by omega)]
  rfl
theorem fbX_b {D : FieldD} {n : Nat} (h0 : fsA sT D 0 = -1) (h : nmP D.f0 = n) : fbX D = pfT n 4 80 ++ (pfT D.f1.size 7 0 ++ D.f1) := by
  rw [← tx_cat]
  unfold fbX fbF
  rw [h0, fsN_is, h, if_neg (by decide), if_pos (by omega)]
  exact (cat_l _ _).symm
theorem fbX_c {D : FieldD} (h0 : fsA sT D 0 = -1) (h : nmP D.f0 = -1) : fbX D = (pfT D.f0.size 3 32 ++ D.f0) ++ (pfT D.f1.size 7 0 ++ D.f1) := by
  rw [← tx_cat, ← tx_cat]
  unfold fbX fbF
  rw [h0, fsN_is, h, if_neg (by decide), if_neg (by decide)]
  exact (cat_l _ _).symm
theorem pfT_size (n b first : Nat) : (pfT n b first).size ≤ 6 := by
  have := (pfL_len n b first).2
  unfold pfT
  show (pfL n b first).toArray.size ≤ 6
  simpa using this
set_option maxHeartbeats 8000000 in
theorem specBy (L : List FieldD) (a : Option Addr) (c : Nat) (w : World) (hg : gdF L = true) (h : Rd fieldK w a L) :
    Calls Tryd.prog 25 #[.slice a L.length c] w fun e w' => e = .returned (.string (fbT L)) ∧ Below w.heap.size w w' := by
  have hg2 := hg
  unfold gdF at hg2
  rw [Bool.and_eq_true, decide_eq_true_eq] at hg2
  have hl30 := hg2.1
  have HAL := hide hg2.2
  have HR := hide h
  clear h hg hg2
  go_enter Tryd.func25, Tryd.ntmps25
  go_wp2_with fail
  go_loopw [3, 11] (fun x i wr => ∃ (k : Nat) (S : ByteArray), k ≤ L.length ∧ x = .string S ∧ i = .int .i64 k ∧ Hid (S = ⟨(([0, 0] : List UInt8) ++ (L.take k).flatMap fbF).toArray⟩) ∧ Hid (Below w.heap.size w wr)) (fun _ i _ => L.length - (intOf i).toNat)
  case atStart => exact ⟨0, _, Nat.zero_le _, rfl, rfl, rfl, Below.refl _ _⟩
  case round =>
    obtain ⟨k, S, hk, rfl, rfl, HK, HB⟩ := hrel
    by_cases hlt : k < L.length
    · rcases (unhide HR).below (unhide HB) with h0 | ⟨b, o, rfl, _, hel⟩
      · rw [h0] at hlt; exact absurd hlt (Nat.not_lt_zero _)
      have x0 := field_r0 hel hlt
      have x1 := field_r1 hel hlt
      clear hel
      have hD := all_gt (unhide HAL) hlt
      have hz : (gt fieldK L k).f0.size ≤ 100 ∧ (gt fieldK L k).f1.size ≤ 100 := by
        unfold gdD gdN gdV at hD
        simp only [Bool.and_eq_true, decide_eq_true_eq] at hD
        omega
      have hSz : S.size ≤ 20000 := by
        have h8 := fb_len (L.take k) (all_take (unhide HAL) k)
        rw [List.length_take] at h8
        rw [unhide HK]
        show (([0, 0] : List UInt8) ++ (L.take k).flatMap fbF).toArray.size ≤ 20000
        have : ([0, 0] : List UInt8).length = 2 := rfl
        simp only [List.size_toArray, List.length_append]
        omega
      have HN := hide (show S ++ fbX (gt fieldK L k) = ⟨(([0, 0] : List UInt8) ++ (L.take (k + 1)).flatMap fbF).toArray⟩ by
        rw [unhide HK, fb_take hlt, ← List.append_assoc]
        exact cat_l _ _)
      obtain ⟨V, hV⟩ : ∃ V, V = wr.alloc (.cells #[.string (gt fieldK L k).f0, .string (gt fieldK L k).f1] 33) := ⟨_, rfl⟩
      have hBV : Below w.heap.size w V := by rw [hV]; exact (unhide HB).alloc (unhide HB).size _
      have hbx : Bx V wr.heap.size [.string (gt fieldK L k).f0, .string (gt fieldK L k).f1] := by rw [hV]; exact Bx.new wr _ _
      have hA := fsA_lo sT (gt fieldK L k) 0
      have hNN := fsN_lo sT (gt fieldK L k).f0 0
      rw [sT_len] at hA hNN
      rw [fsN_is] at hNN
      have hXa := @fbX_a (gt fieldK L k)
      have hXb := @fbX_b (gt fieldK L k)
      have hXc := @fbX_c (gt fieldK L k)
      have HAT := hide (fun W => specAt (gt fieldK L k) W)
      generalize gt fieldK L k = D at *
      obtain ⟨p, hp⟩ : ∃ p, fsA sT D 0 = p := ⟨_, rfl⟩
      obtain ⟨q, hq⟩ : ∃ q, nmP D.f0 = q := ⟨_, rfl⟩
      unfold atV2 at HAT
      rw [hp] at hA HAT hXa hXb hXc
      rw [hq] at hNN HAT hXb hXc
      have hA2 : p = -1 ∨ 0 ≤ p ∧ p < 16 := by omega
      have hN2 : q = -1 ∨ 0 ≤ q ∧ q < 16 := by omega
      obtain ⟨nm, vl⟩ := D
      dsimp only at x0 x1 hz hbx hXa hXb hXc hV
      obtain ⟨F, hF⟩ : ∃ F, fbX ⟨nm, vl⟩ = F := ⟨_, rfl⟩
      rw [hF] at hXa hXb hXc HN
      have y0 := hbx.cv
      have yl := hbx.lt
      have HBX := hide hbx
      have HBV := hide hBV
      have HVV := hide hV
      have HP7 := hide (fun W => specPf vl.size 7 0 W (by omega) (by omega) (by omega) (by omega) (by decide))
      have HP3 := hide (fun W => specPf nm.size 3 32 W (by omega) (by omega) (by omega) (by omega) (by decide))
      have s7 := pfT_size vl.size 7 0
      have s3 := pfT_size nm.size 3 32
      clear hV hBV hbx hD hA hNN HB HK hp hq hF
      go_upto_region 5 with fail
      rw [← unhide HVV]
      clear HVV
      go_wp2_with fail
      refine (unhide HAT _).mono ?_
      rintro e w2 ⟨rfl, b2⟩
      have B2 := hide ((unhide HBV).trans (b2.mono (unhide HBV).size))
      have X2 := hide ((unhide HBX).below b2)
      clear b2 HBV HBX HAT y0 yl
      generalize wr.heap.size = fb at *
      go_upto_region 6 with fail
      go_cut [8] (fun s8 wx => s8 = .string (pfT vl.size 7 0 ++ vl) ∧ Hid (Below w2.heap.size w2 wx))
      case first =>
        have y0 := (unhide X2).cv
        have yl := (unhide X2).lt
        have hcur : Below w2.heap.size w2 w2.drew := (Below.refl _ _).drew
        go_region_with (go_at_call 43; refine (unhide HP7 _).mono ?_; rintro e w3 ⟨rfl, b3⟩; have hcur := hcur.trans (b3.mono hcur.size); have xx := ((unhide X2).below hcur).cv; have xl := ((unhide X2).below hcur).lt)
        all_goals
          have HC := hide hcur
          go_wp2
          go_meet
          exact ⟨rfl, HC⟩
      case rest =>
      obtain ⟨rfl, HB3⟩ := hcut
      obtain ⟨w3, hw3⟩ : ∃ V, V = wc := ⟨_, rfl⟩
      rw [← hw3] at HB3 ⊢
      clear hw3
      have B3 := hide ((unhide B2).trans ((unhide HB3).mono (unhide B2).size))
      have X3 := hide ((unhide X2).below (unhide HB3))
      clear HB3 B2 X2 HP7
      have hvz : (pfT vl.size 7 0 ++ vl).size ≤ 200 := by rw [ByteArray.size_append]; omega
      rcases hA2 with rfl | ⟨hp0, hp1⟩
      · rcases hN2 with rfl | ⟨hq0, hq1⟩
        · have hX := hXc rfl rfl
          have hFz : F.size ≤ 1000 := by rw [hX, ByteArray.size_append, ByteArray.size_append]; omega
          have HX := hide hX
          clear hX hXa hXb hXc s7
          generalize pfT vl.size 7 0 ++ vl = val at *
          go_upto_region 7 with fail
          have y0 := (unhide X3).cv
          have yl := (unhide X3).lt
          have hcur : Below w3.heap.size w3 w3.drew := (Below.refl _ _).drew
          have q1 : ((pfT nm.size 3 32 ++ nm) ++ val).size = (pfT nm.size 3 32).size + nm.size + val.size := by rw [ByteArray.size_append, ByteArray.size_append]
          go_region_with (go_at_call 43; refine (unhide HP3 _).mono ?_; rintro e w4 ⟨rfl, b4⟩; have hcur := hcur.trans (b4.mono hcur.size); have xx := ((unhide X3).below hcur).cv; have xl := ((unhide X3).below hcur).lt)
          all_goals
            have B4 := hide ((unhide B3).trans (hcur.mono (unhide B3).size))
            go_wp2
            exact ⟨⟨k + 1, S ++ F, by omega, by rw [unhide HX], by go_num, HN, B4⟩, by simp [intOf]; omega⟩
        · obtain ⟨n, rfl⟩ := Int.eq_ofNat_of_zero_le hq0
          have hX := hXb rfl rfl
          have s4 := pfT_size n 4 80
          have hFz : F.size ≤ 1000 := by rw [hX, ByteArray.size_append]; omega
          have HX := hide hX
          have hq : (pfT n 4 80 ++ (pfT vl.size 7 0 ++ vl)).size = (pfT n 4 80).size + (pfT vl.size 7 0 ++ vl).size := by rw [ByteArray.size_append]
          have HP4 := hide (fun W => specPf n 4 80 W (by omega) (by omega) (by omega) (by omega) (by decide))
          have hnn : (0 : Int) ≤ (n : Int) := by omega
          clear hX hXa hXb hXc s7
          generalize pfT vl.size 7 0 ++ vl = val at *
          generalize pfT n 4 80 = P4 at *
          go_wp2_with fail
          refine (unhide HP4 _).mono ?_
          rintro e w4 ⟨rfl, b4⟩
          have B4 := hide ((unhide B3).trans (b4.mono (unhide B3).size))
          clear b4 B3
          go_wp2
          exact ⟨⟨k + 1, S ++ F, by omega, by rw [unhide HX], by go_num, HN, B4⟩, by simp [intOf]; omega⟩
      · obtain ⟨n, rfl⟩ := Int.eq_ofNat_of_zero_le hp0
        have hX := hXa rfl
        have s6 := pfT_size n 6 192
        have HX := hide hX
        have HP6 := hide (fun W => specPf n 6 192 W (by omega) (by omega) (by omega) (by omega) (by decide))
        have hnn : (0 : Int) ≤ (n : Int) := by omega
        clear hX hXa hXb hXc s7
        generalize pfT n 6 192 = P6 at *
        go_wp2_with fail
        refine (unhide HP6 _).mono ?_
        rintro e w4 ⟨rfl, b4⟩
        have B4 := hide ((unhide B3).trans (b4.mono (unhide B3).size))
        clear b4 B3
        go_wp2
        exact ⟨⟨k + 1, S ++ F, by omega, by rw [unhide HX], by go_num, HN, B4⟩, by simp [intOf]; omega⟩
    · obtain rfl : k = L.length := by omega
      have HE := hide (show S = fbT L by
        have := unhide HK
        rw [List.take_length] at this
        exact this)
      go_wp2
      go_ret
      exact ⟨by rw [unhide HE]; rfl, unhide HB⟩
set_option maxHeartbeats 2000000 in
theorem specFB (L : List FieldD) (a : Option Addr) (c : Nat) (w : World) (hm : L.length ≤ 1048576) (ho : ∀ i, i < L.length → (gt fieldK L i).f0.size ≤ 1048576 ∧ (gt fieldK L i).f1.size ≤ 1048576) (h : Rd fieldK w a L) :
    Calls Tryd.prog 12 #[.slice a L.length c] w fun e w' => e = .returned (.tuple #[.string (fbR L), .bool (gdF L)]) ∧ Below w.heap.size w w' := by
  have HG := hide (specGF L a c w hm ho h)
  have HR := hide h
  clear h ho
  rcases Bool.eq_false_or_eq_true (gdF L) with hg | hg
  · have HY := hide (fun W (b : Below w.heap.size w W) => specBy L a c W hg ((unhide HR).below b))
    have HE := hide (show fbR L = fbT L by unfold fbR; rw [if_pos hg])
    have HGT := hide hg
    rw [hg] at HG
    clear hg
    go_enter Tryd.func12, Tryd.ntmps12
    go_wp2_with fail
    refine (unhide HG).mono ?_
    rintro e w1 ⟨rfl, b1⟩
    have B1 := hide b1
    clear b1
    go_wp2_with fail
    refine (unhide HY _ (unhide B1)).mono ?_
    rintro e w2 ⟨rfl, b2⟩
    have B2 := hide ((unhide B1).trans (b2.mono (unhide B1).size))
    clear b2
    go_wp2
    go_ret2
    exact ⟨by rw [unhide HE, unhide HGT]; rfl, unhide B2⟩
  · have HE := hide (show fbR L = ⟨#[]⟩ by unfold fbR; rw [if_neg (by rw [hg]; decide)])
    have HGT := hide hg
    rw [hg] at HG
    clear hg
    go_enter Tryd.func12, Tryd.ntmps12
    go_wp2_with fail
    refine (unhide HG).mono ?_
    rintro e w1 ⟨rfl, b1⟩
    go_wp2
    go_ret2
    exact ⟨by rw [unhide HE, unhide HGT]; rfl, b1⟩
end Go.Proofs.YtidgjjbdabifnabDoor.Rc
