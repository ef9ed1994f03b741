/-
  A good frame's bytes: the model's text and what the program puts behind are one list.
-/
import Derived.Test.YtcnpbcigndcheaaDoorAph
import Derived.Test.YtcnpbcigndcheaaDoorGfj
namespace Go.Proofs.YtcnpbcigndcheaaDoor
open Go.ChangeShapes Go.WideShapes Go.ChangeAt Go.RowKit
set_option linter.unusedVariables false
theorem ba_list {B : ByteArray} {L : List UInt8} (h : B.data.toList = L) : B = ⟨L.toArray⟩ := by subst h; rfl
theorem str_len (s : ByteArray) : s.data.toList.length = s.size := by simp
/-- L are the frame's bytes, on both sides -/
structure FB (k a b c : Int) (fin : Bool) (s : ByteArray) (n : Nat) (F T : Nat → Int) (L : List UInt8) : Prop where
  le : L.length ≤ 1000
  spec : ∀ (g off cap : Nat) (w : World), Rr w g off n F T → Calls Tryd.prog 11 #[fv k a b c fin s g off n cap] w fun e w' => e = .returned (.string ⟨L.toArray⟩) ∧ Below w.heap.size w w'
  impl : ∀ (v : Value) (xs : List UInt8) (g off cap : Nat) (w : World) (base : Nat), Ow base w v xs → base ≤ w.heap.size → Tz w → 1 < base → xs.length ≤ 900000 → Rr w g off n F T → (n = 0 ∨ g < base) → n ≤ cap →
    Calls Tryd.prog 14 #[v, fv k a b c fin s g off n cap] w fun e w' => ∃ v', e = .returned v' ∧ Ow base w' v' (xs ++ L) ∧ Below base w w'

set_option maxHeartbeats 1000000 in
theorem frame_bytes (k a b c : Int) (fin : Bool) (s : ByteArray) (n : Nat) (F T : Nat → Int) (h : gf k a b c fin s.size n F T = true) : ∃ L, FB k a b c fin s n F T L := by
  unfold gf at h
  rw [decide_eq_true_eq] at h
  obtain ⟨h1, h2, h3, h4, h5, h6, h7, h8, h9, h10, h11, h12, h13, h14, h15⟩ := h
  obtain ⟨ha0, ha1⟩ := knB_yes h2
  obtain ⟨hb0, hb1⟩ := knB_yes h3
  obtain ⟨hc0, hc1⟩ := knB_yes h4
  have va := vb_le a
  have vbb := vb_le b
  have vc := vb_le c
  have vs := vb_le (s.size : Int)
  have sl := str_len s
  rcases kinds k with rfl | rfl | rfl | rfl | rfl | rfl | rfl | rfl | rfl | rfl | rfl | rfl | rfl | rfl | rfl | hno
  · rw [show shp 0 = (0, 0, 0) by decide] at h5 h6 h8 h9 h10
    simp only at h5 h6 h8 h9 h10
    obtain rfl : c = 0 := h8 (by decide)
    obtain rfl : b = 0 := h9 (by decide)
    obtain rfl : a = 0 := h10 (by decide)
    obtain rfl : fin = false := by cases fin with
      | false => rfl
      | true => exact absurd (h7 rfl) (by decide)
    have vk := vb_le 0
    refine ⟨vb 0, ⟨by (try simp only [List.length_append, fx_length]); omega, fun g off cap w hr => (l1Bytes_0 s g off n cap w (by omega)).mono (fun e w' ⟨he, hb⟩ => ⟨he.trans (congrArg (fun x => Ending.returned (Value.string x)) (ba_list (by simp [VB_list]))), hb⟩), fun v xs g off cap w base ho hbase htz hg1 hlen hr hgb hcap => appendFrame_0 v xs s g off n cap w base ho hbase htz hg1 hlen (by omega)⟩⟩
  · rw [show shp 1 = (0, 0, 0) by decide] at h5 h6 h8 h9 h10
    simp only at h5 h6 h8 h9 h10
    obtain rfl : c = 0 := h8 (by decide)
    obtain rfl : b = 0 := h9 (by decide)
    obtain rfl : a = 0 := h10 (by decide)
    obtain rfl : fin = false := by cases fin with
      | false => rfl
      | true => exact absurd (h7 rfl) (by decide)
    have vk := vb_le 1
    refine ⟨vb 1, ⟨by (try simp only [List.length_append, fx_length]); omega, fun g off cap w hr => (l1Bytes_1 s g off n cap w (by omega)).mono (fun e w' ⟨he, hb⟩ => ⟨he.trans (congrArg (fun x => Ending.returned (Value.string x)) (ba_list (by simp [VB_list]))), hb⟩), fun v xs g off cap w base ho hbase htz hg1 hlen hr hgb hcap => appendFrame_1 v xs s g off n cap w base ho hbase htz hg1 hlen (by omega)⟩⟩
  · rw [show shp 2 = (1, 0, 0) by decide] at h5 h6 h8 h9 h10
    simp only at h5 h6 h8 h9 h10
    obtain rfl : c = 0 := h8 (by decide)
    obtain rfl : b = 0 := h9 (by decide)
    obtain rfl : fin = false := by cases fin with
      | false => rfl
      | true => exact absurd (h7 rfl) (by decide)
    have hn1 : 1 ≤ n := h11.1 rfl
    obtain ⟨hA, hn2⟩ := h12 rfl
    have hal := ackL_length a n F T (n - 1)
    have ackT_eq : (ackT a n F T n).data.toList = vb 2 ++ ackL a n F T (n - 1) := by
      have := ackT_list a n F T (n - 1)
      rwa [Nat.sub_add_cancel hn1] at this
    have vk := vb_le 2
    refine ⟨vb 2 ++ ackL a n F T (n - 1), ⟨by (try simp only [List.length_append]); omega, fun g off cap w hr => (l1Bytes_2 a s g off n cap F T w (by omega) hn1 hn2 hr hA ha0 ha1).mono (fun e w' ⟨he, hb⟩ => ⟨he.trans (congrArg (fun x => Ending.returned (Value.string x)) (ba_list (by simp [ackT_eq]))), hb⟩), fun v xs g off cap w base ho hbase htz hg1 hlen hr hgb hcap => appendFrame_2 v xs a s g off n cap w base ho hbase htz hg1 hlen (by omega) ha0 ha1 F T hn1 hn2 hr (by omega) hA hcap⟩⟩
  · rw [show shp 4 = (3, 0, 0) by decide] at h5 h6 h8 h9 h10
    simp only at h5 h6 h8 h9 h10
    obtain rfl : fin = false := by cases fin with
      | false => rfl
      | true => exact absurd (h7 rfl) (by decide)
    have vk := vb_le 4
    refine ⟨vb 4 ++ (vb a ++ vb b ++ vb c), ⟨by (try simp only [List.length_append]); omega, fun g off cap w hr => (l1Bytes_4 a b c s g off n cap w (by omega) ha0 ha1 hb0 hb1 hc0 hc1).mono (fun e w' ⟨he, hb⟩ => ⟨he.trans (congrArg (fun x => Ending.returned (Value.string x)) (ba_list (by simp [VB_list, List.append_assoc]))), hb⟩), fun v xs g off cap w base ho hbase htz hg1 hlen hr hgb hcap => appendFrame_4 v xs a b c s g off n cap w base ho hbase htz hg1 hlen (by omega) ha0 ha1 hb0 hb1 hc0 hc1⟩⟩
  · rw [show shp 5 = (2, 0, 0) by decide] at h5 h6 h8 h9 h10
    simp only at h5 h6 h8 h9 h10
    obtain rfl : c = 0 := h8 (by decide)
    obtain rfl : fin = false := by cases fin with
      | false => rfl
      | true => exact absurd (h7 rfl) (by decide)
    have vk := vb_le 5
    refine ⟨vb 5 ++ (vb a ++ vb b), ⟨by (try simp only [List.length_append]); omega, fun g off cap w hr => (l1Bytes_5 a b s g off n cap w (by omega) ha0 ha1 hb0 hb1).mono (fun e w' ⟨he, hb⟩ => ⟨he.trans (congrArg (fun x => Ending.returned (Value.string x)) (ba_list (by simp [VB_list]))), hb⟩), fun v xs g off cap w base ho hbase htz hg1 hlen hr hgb hcap => appendFrame_5 v xs a b s g off n cap w base ho hbase htz hg1 hlen (by omega) ha0 ha1 hb0 hb1⟩⟩
  · rw [show shp 6 = (1, 0, 200) by decide] at h5 h6 h8 h9 h10
    simp only at h5 h6 h8 h9 h10
    obtain rfl : c = 0 := h8 (by decide)
    obtain rfl : b = 0 := h9 (by decide)
    obtain rfl : fin = false := by cases fin with
      | false => rfl
      | true => exact absurd (h7 rfl) (by decide)
    have vk := vb_le 6
    refine ⟨vb 6 ++ (vb a ++ (vb s.size ++ s.data.toList)), ⟨by (try simp only [List.length_append]); omega, fun g off cap w hr => (l1Bytes_6 a s g off n cap w (by omega) ha0 ha1).mono (fun e w' ⟨he, hb⟩ => ⟨he.trans (congrArg (fun x => Ending.returned (Value.string x)) (ba_list (by simp [VB_list]))), hb⟩), fun v xs g off cap w base ho hbase htz hg1 hlen hr hgb hcap => appendFrame_6 v xs a s g off n cap w base ho hbase htz hg1 hlen (by omega) ha0 ha1⟩⟩
  · rw [show shp 7 = (0, 1, 200) by decide] at h5 h6 h8 h9 h10
    simp only at h5 h6 h8 h9 h10
    obtain rfl : c = 0 := h8 (by decide)
    obtain rfl : b = 0 := h9 (by decide)
    obtain rfl : a = 0 := h10 (by decide)
    obtain rfl : fin = false := by cases fin with
      | false => rfl
      | true => exact absurd (h7 rfl) (by decide)
    have vk := vb_le 7
    refine ⟨vb 7 ++ (vb s.size ++ s.data.toList), ⟨by (try simp only [List.length_append]); omega, fun g off cap w hr => (l1Bytes_7 s g off n cap w (by omega)).mono (fun e w' ⟨he, hb⟩ => ⟨he.trans (congrArg (fun x => Ending.returned (Value.string x)) (ba_list (by simp [VB_list]))), hb⟩), fun v xs g off cap w base ho hbase htz hg1 hlen hr hgb hcap => appendFrame_7 v xs s g off n cap w base ho hbase htz hg1 hlen (by omega)⟩⟩
  · rw [show shp 8 = (2, 0, 200) by decide] at h5 h6 h8 h9 h10
    simp only at h5 h6 h8 h9 h10
    obtain rfl : c = 0 := h8 (by decide)
    by_cases hbz : b = 0
    · subst hbz
      cases fin with
      | false =>
        have vk := vb_le 10
        refine ⟨vb 10 ++ (vb a ++ (vb s.size ++ s.data.toList)), ⟨by (try simp only [List.length_append]); omega, fun g off cap w hr => (l1Bytes_80F a s g off n cap w (by omega) ha0 ha1).mono (fun e w' ⟨he, hb⟩ => ⟨he.trans (congrArg (fun x => Ending.returned (Value.string x)) (ba_list (by simp [VB_list]))), hb⟩), fun v xs g off cap w base ho hbase htz hg1 hlen hr hgb hcap => appendFrame_80F v xs a s g off n cap w base ho hbase htz hg1 hlen (by omega) ha0 ha1⟩⟩
      | true =>
        have vk := vb_le 11
        refine ⟨vb 11 ++ (vb a ++ (vb s.size ++ s.data.toList)), ⟨by (try simp only [List.length_append]); omega, fun g off cap w hr => (l1Bytes_80T a s g off n cap w (by omega) ha0 ha1).mono (fun e w' ⟨he, hb⟩ => ⟨he.trans (congrArg (fun x => Ending.returned (Value.string x)) (ba_list (by simp [VB_list]))), hb⟩), fun v xs g off cap w base ho hbase htz hg1 hlen hr hgb hcap => appendFrame_80T v xs a s g off n cap w base ho hbase htz hg1 hlen (by omega) ha0 ha1⟩⟩
    · have hbn : (b != 0) = true := by rw [bne_iff_ne]; exact hbz
      cases fin with
      | false =>
        have vk := vb_le 14
        refine ⟨vb 14 ++ (vb a ++ vb b ++ (vb s.size ++ s.data.toList)), ⟨by (try simp only [List.length_append]); omega, fun g off cap w hr => (l1Bytes_81F a b s g off n cap w (by omega) ha0 ha1 hb0 hb1 hbn).mono (fun e w' ⟨he, hb⟩ => ⟨he.trans (congrArg (fun x => Ending.returned (Value.string x)) (ba_list (by simp [VB_list, List.append_assoc]))), hb⟩), fun v xs g off cap w base ho hbase htz hg1 hlen hr hgb hcap => appendFrame_81F v xs a b s g off n cap w base ho hbase htz hg1 hlen (by omega) ha0 ha1 hb0 hb1 hbz hbn⟩⟩
      | true =>
        have vk := vb_le 15
        refine ⟨vb 15 ++ (vb a ++ vb b ++ (vb s.size ++ s.data.toList)), ⟨by (try simp only [List.length_append]); omega, fun g off cap w hr => (l1Bytes_81T a b s g off n cap w (by omega) ha0 ha1 hb0 hb1 hbn).mono (fun e w' ⟨he, hb⟩ => ⟨he.trans (congrArg (fun x => Ending.returned (Value.string x)) (ba_list (by simp [VB_list, List.append_assoc]))), hb⟩), fun v xs g off cap w base ho hbase htz hg1 hlen hr hgb hcap => appendFrame_81T v xs a b s g off n cap w base ho hbase htz hg1 hlen (by omega) ha0 ha1 hb0 hb1 hbz hbn⟩⟩
  · rw [show shp 16 = (1, 0, 0) by decide] at h5 h6 h8 h9 h10
    simp only at h5 h6 h8 h9 h10
    obtain rfl : c = 0 := h8 (by decide)
    obtain rfl : b = 0 := h9 (by decide)
    obtain rfl : fin = false := by cases fin with
      | false => rfl
      | true => exact absurd (h7 rfl) (by decide)
    have vk := vb_le 16
    refine ⟨vb 16 ++ vb a, ⟨by (try simp only [List.length_append]); omega, fun g off cap w hr => (l1Bytes_16 a s g off n cap w (by omega) ha0 ha1).mono (fun e w' ⟨he, hb⟩ => ⟨he.trans (congrArg (fun x => Ending.returned (Value.string x)) (ba_list (by simp [VB_list]))), hb⟩), fun v xs g off cap w base ho hbase htz hg1 hlen hr hgb hcap => appendFrame_16 v xs a s g off n cap w base ho hbase htz hg1 hlen (by omega) ha0 ha1⟩⟩
  · rw [show shp 17 = (2, 0, 0) by decide] at h5 h6 h8 h9 h10
    simp only at h5 h6 h8 h9 h10
    obtain rfl : c = 0 := h8 (by decide)
    obtain rfl : fin = false := by cases fin with
      | false => rfl
      | true => exact absurd (h7 rfl) (by decide)
    have vk := vb_le 17
    refine ⟨vb 17 ++ (vb a ++ vb b), ⟨by (try simp only [List.length_append]); omega, fun g off cap w hr => (l1Bytes_17 a b s g off n cap w (by omega) ha0 ha1 hb0 hb1).mono (fun e w' ⟨he, hb⟩ => ⟨he.trans (congrArg (fun x => Ending.returned (Value.string x)) (ba_list (by simp [VB_list]))), hb⟩), fun v xs g off cap w base ho hbase htz hg1 hlen hr hgb hcap => appendFrame_17 v xs a b s g off n cap w base ho hbase htz hg1 hlen (by omega) ha0 ha1 hb0 hb1⟩⟩
  · rw [show shp 24 = (3, 1, 20) by decide] at h5 h6 h8 h9 h10
    simp only at h5 h6 h8 h9 h10
    obtain rfl : fin = false := by cases fin with
      | false => rfl
      | true => exact absurd (h7 rfl) (by decide)
    have vk := vb_le 24
    refine ⟨vb 24 ++ (vb a ++ vb b ++ (fx s.size 1 1 ++ (s.data.toList ++ fx c 1 1))), ⟨by (try simp only [List.length_append, fx_length]); omega, fun g off cap w hr => (l1Bytes_24 a b c s g off n cap w (by omega) ha0 ha1 hb0 hb1 hc0 hc1).mono (fun e w' ⟨he, hb⟩ => ⟨he.trans (congrArg (fun x => Ending.returned (Value.string x)) (ba_list (by simp [VB_list, VF_list, List.append_assoc]))), hb⟩), fun v xs g off cap w base ho hbase htz hg1 hlen hr hgb hcap => appendFrame_24 v xs a b c s g off n cap w base ho hbase htz hg1 hlen (by omega) ha0 ha1 hb0 hb1 hc0 hc1 (by omega) (by omega) (h15 rfl).2⟩⟩
  · rw [show shp 26 = (0, 8, 8) by decide] at h5 h6 h8 h9 h10
    simp only at h5 h6 h8 h9 h10
    obtain rfl : c = 0 := h8 (by decide)
    obtain rfl : b = 0 := h9 (by decide)
    obtain rfl : a = 0 := h10 (by decide)
    obtain rfl : fin = false := by cases fin with
      | false => rfl
      | true => exact absurd (h7 rfl) (by decide)
    have vk := vb_le 26
    refine ⟨vb 26 ++ s.data.toList, ⟨by (try simp only [List.length_append]); omega, fun g off cap w hr => (l1Bytes_26 s g off n cap w (by omega)).mono (fun e w' ⟨he, hb⟩ => ⟨he.trans (congrArg (fun x => Ending.returned (Value.string x)) (ba_list (by simp [VB_list]))), hb⟩), fun v xs g off cap w base ho hbase htz hg1 hlen hr hgb hcap => appendFrame_26 v xs s g off n cap w base ho hbase htz hg1 hlen (by omega)⟩⟩
  · rw [show shp 27 = (0, 8, 8) by decide] at h5 h6 h8 h9 h10
    simp only at h5 h6 h8 h9 h10
    obtain rfl : c = 0 := h8 (by decide)
    obtain rfl : b = 0 := h9 (by decide)
    obtain rfl : a = 0 := h10 (by decide)
    obtain rfl : fin = false := by cases fin with
      | false => rfl
      | true => exact absurd (h7 rfl) (by decide)
    have vk := vb_le 27
    refine ⟨vb 27 ++ s.data.toList, ⟨by (try simp only [List.length_append]); omega, fun g off cap w hr => (l1Bytes_27 s g off n cap w (by omega)).mono (fun e w' ⟨he, hb⟩ => ⟨he.trans (congrArg (fun x => Ending.returned (Value.string x)) (ba_list (by simp [VB_list]))), hb⟩), fun v xs g off cap w base ho hbase htz hg1 hlen hr hgb hcap => appendFrame_27 v xs s g off n cap w base ho hbase htz hg1 hlen (by omega)⟩⟩
  · rw [show shp 28 = (2, 0, 200) by decide] at h5 h6 h8 h9 h10
    simp only at h5 h6 h8 h9 h10
    obtain rfl : c = 0 := h8 (by decide)
    obtain rfl : fin = false := by cases fin with
      | false => rfl
      | true => exact absurd (h7 rfl) (by decide)
    have vk := vb_le 28
    refine ⟨vb 28 ++ (vb a ++ vb b ++ (vb s.size ++ s.data.toList)), ⟨by (try simp only [List.length_append]); omega, fun g off cap w hr => (l1Bytes_28 a b s g off n cap w (by omega) ha0 ha1 hb0 hb1).mono (fun e w' ⟨he, hb⟩ => ⟨he.trans (congrArg (fun x => Ending.returned (Value.string x)) (ba_list (by simp [VB_list, List.append_assoc]))), hb⟩), fun v xs g off cap w base ho hbase htz hg1 hlen hr hgb hcap => appendFrame_28 v xs a b s g off n cap w base ho hbase htz hg1 hlen (by omega) ha0 ha1 hb0 hb1⟩⟩
  · rw [show shp 48 = (0, 0, 200) by decide] at h5 h6 h8 h9 h10
    simp only at h5 h6 h8 h9 h10
    obtain rfl : c = 0 := h8 (by decide)
    obtain rfl : b = 0 := h9 (by decide)
    obtain rfl : a = 0 := h10 (by decide)
    obtain rfl : fin = false := by cases fin with
      | false => rfl
      | true => exact absurd (h7 rfl) (by decide)
    have vk := vb_le 49
    refine ⟨vb 49 ++ (vb s.size ++ s.data.toList), ⟨by (try simp only [List.length_append]); omega, fun g off cap w hr => (l1Bytes_48 s g off n cap w (by omega)).mono (fun e w' ⟨he, hb⟩ => ⟨he.trans (congrArg (fun x => Ending.returned (Value.string x)) (ba_list (by simp [VB_list]))), hb⟩), fun v xs g off cap w base ho hbase htz hg1 hlen hr hgb hcap => appendFrame_48 v xs s g off n cap w base ho hbase htz hg1 hlen (by omega)⟩⟩
  · rw [shp_none k hno] at h1
    exact absurd h1 (by decide)
end Go.Proofs.YtcnpbcigndcheaaDoor
