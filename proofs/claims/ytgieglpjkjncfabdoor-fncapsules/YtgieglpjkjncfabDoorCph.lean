/-
  Contract of the program: FeedCapsules.
-/
import Derived.Test.YtgieglpjkjncfabDoorCpf
namespace Go.Proofs.YtgieglpjkjncfabDoor.Rc
open Go.ChangeShapes Go.WideShapes Go.ChangeAt Go.RowKit Go.Deep
set_option linter.unusedVariables false
set_option maxRecDepth 100000

theorem fdC_up (P : List ByteArray) : ∀ (d k : Nat), k + d = P.length → fdC (cat (P.take k)).data.toList = none → fdC (cat P).data.toList = none
  | 0, k, h, e => by rw [List.take_of_length_le (by omega)] at e; exact e
  | d + 1, k, h, e => by
    refine fdC_up P d (k + 1) (by omega) ?_
    rw [cat_take (by omega), app_list]
    exact fdC_app e _
theorem ro_rd {α : Type} {K : Kd α} {e : TypeId} {base : Nat} {w : World} {a : Option Addr} {n c : Nat} {L : List α} (h : Ro K e base w (.slice a n c) L) : Rd K w a L := by
  obtain ⟨a', c', hv, _, ri⟩ := h.form
  injection hv with h1 h2 h3
  subst h1
  exact ri.rd
theorem ro_ri {α : Type} {K : Kd α} {e : TypeId} {base : Nat} {w : World} {a : Option Addr} {n c : Nat} {L : List α} (h : Ro K e base w (.slice a n c) L) : Ri K base w.heap.size w a L := by
  obtain ⟨a', c', hv, _, ri⟩ := h.form
  injection hv with h1 h2 h3
  subst h1
  exact ri
/-- how feeding stands -/
structure Iq (w wr : World) (bl bk b3 cnt : Nat) (T : ByteArray) (v : Value) (L : List CapsuleD) : Prop where
  b : Below w.heap.size w wr
  x1 : Bx wr bl [.string T]
  x2 : Bx wr bk [.int .i64 (cnt : Int)]
  ro : Ro capsuleK 30 b3 wr v L
  hs : b3 ≤ wr.heap.size
/-- how pieces so far read, and what is left of them -/
def Sg (P : List ByteArray) (k : Nat) (L : List CapsuleD) (n : Nat) (T : ByteArray) : Prop := fdC (cat (P.take k)).data.toList = some (L, n) ∧ T = (cat (P.take k)).extract n (cat (P.take k)).size ∧ n ≤ (cat (P.take k)).size
theorem sg_zero (P : List ByteArray) : Sg P 0 [] 0 ⟨#[]⟩ := ⟨fdC_nil, rfl, Nat.zero_le _⟩
theorem sg_step {P : List ByteArray} {k n : Nat} {L : List CapsuleD} {T : ByteArray} (h : Sg P k L n T) (hk : k < P.length) :
    ((wh (T ++ gt textK P k).data.toList).2.2 = true ∧ L.length + (wh (T ++ gt textK P k).data.toList).1.length ≤ 30 → Sg P (k + 1) (L ++ (wh (T ++ gt textK P k).data.toList).1) (n + (wh (T ++ gt textK P k).data.toList).2.1) ((T ++ gt textK P k).extract (wh (T ++ gt textK P k).data.toList).2.1 (T ++ gt textK P k).size))
    ∧ (¬ ((wh (T ++ gt textK P k).data.toList).2.2 = true ∧ L.length + (wh (T ++ gt textK P k).data.toList).1.length ≤ 30) → fdC (cat P).data.toList = none)
    ∧ (T ++ gt textK P k).size + n = (cat (P.take (k + 1))).size := by
  obtain ⟨h1, h2, h3⟩ := h
  have ht : T ++ gt textK P k = (cat (P.take (k + 1))).extract n (cat (P.take (k + 1))).size := by rw [cat_take hk, h2, left_app _ _ h3]
  have hle : n ≤ (cat (P.take (k + 1))).size := by rw [cat_take hk, ByteArray.size_append]; omega
  have hl : (T ++ gt textK P k).data.toList = (cat (P.take k)).data.toList.drop n ++ (gt textK P k).data.toList := by rw [h2, app_list, left_list]
  have hs := fdC_step h1 (gt textK P k).data.toList
  rw [← app_list, ← cat_take hk, ← hl] at hs
  have hw := wh_le (T ++ gt textK P k).data.toList
  have hz : (T ++ gt textK P k).size + n = (cat (P.take (k + 1))).size := by rw [ht, ByteArray.size_extract]; omega
  have hlen : (T ++ gt textK P k).data.toList.length = (T ++ gt textK P k).size := by rw [Array.length_toList]; rfl
  refine ⟨fun hy => ⟨?_, ?_, ?_⟩, fun hn => ?_, hz⟩
  · rw [hs, if_pos hy]
  · conv => lhs; rw [ht, ext_twice _ hle]
    rw [← ht]
  · rw [hlen] at hw
    omega
  · rw [if_neg hn] at hs
    exact fdC_up P (P.length - (k + 1)) (k + 1) (by omega) hs
set_option maxHeartbeats 8000000 in
theorem implFC (P : List ByteArray) (a : Option Addr) (c : Nat) (w : World) (hN : P.length ≤ 1048576) (ho : ∀ i, i < P.length → (gt textK P i).size ≤ 1048576) (h : Rd textK w a P) :
    Calls Tryd.prog 11 #[.slice a P.length c] w fun e w' => FcP w.heap.size (feed P) e w' ∧ Below w.heap.size w w' := by
  have hmf : ∀ (fn : Fn) (first cap : Array Value) (w : World), (Instr.makeFunc fn first cap).run Tryd.prog w = .ok (.func fn first cap) w := fun _ _ _ _ => rfl
  have HW : Hid (∀ W, Below w.heap.size w W → Calls Tryd.prog 27 #[.int .i64 1500, .slice a P.length c] W fun e w' => e = .returned (.bool (decide ((cat P).size ≤ 1500))) ∧ Below W.heap.size W w') := fun W b => implWT 1500 P a c W (by omega) hN ho (h.below b)
  have HR := hide h
  clear h ho
  by_cases hl : P.length ≤ 60
  · have d0 : ¬ (60 : Int) < (P.length : Int) := by omega
    by_cases hc : (cat P).size ≤ 1500
    · rw [decide_eq_true hc] at HW
      have HF : Hid (feed P = fedO (cat P).size (fdC (cat P).data.toList)) := by show _ = _; unfold feed; rw [if_pos ⟨hl, hc⟩]
      go_enter Tryd.func11, Tryd.ntmps11
      go_wp2_with fail
      refine (unhide HW _ (Below.refl _ _)).mono ?_
      rintro e w1 ⟨rfl, b1⟩
      have B1 := hide b1
      clear HW b1
      go_wp2_with fail
      refine (implNT w1).mono ?_
      rintro e w3 ⟨rfl, x1, x2, b3, hs3⟩
      have hge := (unhide B1).size
      obtain ⟨bl, hbl⟩ : ∃ bl, w1.heap.size = bl := ⟨_, rfl⟩
      obtain ⟨bk, hbk⟩ : ∃ bk, w1.heap.size + 1 = bk := ⟨_, rfl⟩
      have hq : Iq w w3 bl bk w3.heap.size 0 ⟨#[]⟩ (.slice none 0 0) [] := ⟨(unhide B1).trans (b3.mono hge), by rw [← hbl]; exact x1, by rw [← hbk]; exact x2, Ro.nil _ _ _ _, Nat.le_refl _⟩
      rw [hbk, hbl]
      have hne : bl ≠ bk := by omega
      have hb3 : w.heap.size ≤ bl ∧ bl < w3.heap.size ∧ bk < w3.heap.size ∧ w.heap.size ≤ bk := by omega
      obtain ⟨b3', hb3'⟩ : ∃ b, w3.heap.size = b := ⟨_, rfl⟩
      rw [hb3'] at hq hb3
      have H0 := hide hq
      clear hbl hbk hb3' hs3 x1 x2 b3 hq hge B1
      go_wp2_with fail
      go_loopw [6, 7, 24] (fun lv fv iv wr => ∃ (k n : Nat) (v : Value) (L : List CapsuleD) (T : ByteArray), k ≤ P.length ∧ iv = .int .i64 k ∧ lv = v ∧ fv = .int .i64 (T.size : Int) ∧ Hid (Sg P k L n T) ∧ Hid (Iq w wr bl bk b3' L.length T v L)) (fun _ _ iv _ => P.length - (intOf iv).toNat)
      case atStart => exact ⟨0, 0, _, [], ⟨#[]⟩, Nat.zero_le _, rfl, rfl, rfl, sg_zero P, H0⟩
      case round =>
        obtain ⟨k, n, v, L, T, hk, rfl, rfl, rfl, hS, hI⟩ := hrel
        clear H0
        by_cases hlt : k < P.length
        · rcases (unhide HR).below (unhide hI).b with h9 | ⟨b, o, rfl, _, hel⟩
          · rw [h9] at hlt; exact absurd hlt (Nat.not_lt_zero _)
          have c0 := text_r0 hel hlt
          have hst := sg_step (unhide hS) hlt
          have hcl := (fdC_k (unhide hS).1).2.1
          have hin := cat_in (P := P) (k := k + 1) hlt
          clear hel
          generalize gt textK P k = t at *
          have hsz : T.size + t.size ≤ 1048576 := by have h1 := hst.2.2; rw [ByteArray.size_append] at h1; omega
          have HT := hide (implTk bl bk L.length T t wr hsz (by omega) hne (unhide hI).x1 (unhide hI).x2)
          obtain ⟨T2, hT2⟩ : ∃ T2, T ++ t = T2 := ⟨_, rfl⟩
          rw [hT2] at hst HT
          have hw2 := wh_le T2.data.toList
          rw [show T2.data.toList.length = T2.size by rw [Array.length_toList]; rfl] at hw2
          obtain ⟨r, hr⟩ : ∃ r, wh T2.data.toList = r := ⟨_, rfl⟩
          rw [hr] at hst HT hw2
          clear hr hT2 hsz
          have HST := hide hst
          have hnk : (k : Int) < (P.length : Int) := by omega
          have hk0 : (0 : Int) ≤ (k : Int) := by omega
          clear hst
          go_upto_region 9 with fail
          go_wp2_with fail
          refine (unhide HT).mono ?_
          rintro e w2 ⟨a2, c2, rfl, R2, y1, y2, kq⟩
          have hlen := (unhide hI).hs
          have hbelow := (unhide hI).b
          have hz : ((T2.extract r.2.1 T2.size).size : Int) = (T2.size : Int) - (r.2.1 : Int) := by rw [ByteArray.size_extract]; omega
          have hk2 : Below w.heap.size w w2 := hbelow.trans (kq.below hbelow.size (fun q hq => by omega))
          by_cases hy : r.2.2 = true ∧ L.length + r.1.length ≤ 30
          · have hf : (r.2.2 && decide ((L.length : Int) + (r.1.length : Int) ≤ 30)) = true := by rw [hy.1, decide_eq_true (by have := hy.2; omega)]; rfl
            have ro2 := (unhide hI).ro.kq kq (fun q hq => by omega)
            obtain ⟨v3, w4, run, o3, b4, _⟩ := joinCapsule w2 b3' _ L r.1 a2 c2 ro2 (ro_rd R2) (by have := hy.2; omega) (Nat.le_trans hlen kq.size)
            have RUN := hide run
            have HS2 := hide ((unhide HST).1 hy)
            have HI2 : Hid (Iq w w4 bl bk b3' (L ++ r.1).length (T2.extract r.2.1 T2.size) v3 (L ++ r.1)) :=
              ⟨hk2.trans (b4.mono (by omega)), y1.kept b4.size (b4.block _ (by omega)), by rw [List.length_append]; exact y2.kept b4.size (b4.block _ (by omega)), o3, Nat.le_trans (Nat.le_trans hlen kq.size) b4.size⟩
            have HZ := hide hz
            rw [hf]
            clear hf ro2 run o3 b4 R2 y1 y2 kq hk2 hz hlen hbelow hS hI HST HT hy hin hcl hw2
            go_wp2_with (at_builtin; refine wpl_app rfl _ _ 23 rfl _ _ _ _ rfl rfl (unhide RUN) ?_)
            exact ⟨⟨k + 1, n + r.2.1, v3, L ++ r.1, T2.extract r.2.1 T2.size, by omega, by go_num, rfl, by rw [unhide HZ], HS2, HI2⟩, by simp [intOf]; omega⟩
          · have hf : (r.2.2 && decide ((L.length : Int) + (r.1.length : Int) ≤ 30)) = false := by
              cases h2 : r.2.2 with
              | false => rfl
              | true => rw [Bool.true_and]; exact decide_eq_false (fun z => hy ⟨h2, by omega⟩)
            have HE := hide (show feed P = none by rw [unhide HF, (unhide HST).2.1 hy]; rfl)
            have HB2 := hide hk2
            rw [hf]
            clear hf R2 y1 y2 kq hk2 hz hlen hbelow hS hI HST HT hy hin hcl hw2
            go_wp2_with fail
            refine bodyPost_ret (v := .tuple #[.slice none 0 0, .int .i64 0, .bool false]) (by simp [results, Tryd.results11, go_sem]) rfl ?_
            rw [unhide HE]
            exact ⟨FcP.no _ _, unhide HB2⟩
        · obtain rfl : k = P.length := by omega
          have hS2 := unhide hS
          rw [show Sg P P.length L n T = (fdC (cat P).data.toList = some (L, n) ∧ T = (cat P).extract n (cat P).size ∧ n ≤ (cat P).size) by unfold Sg; rw [List.take_length]] at hS2
          have HE : Hid (feed P = some (L, T.size)) := by
            show _ = _
            rw [unhide HF, hS2.1]
            unfold fedO
            dsimp only
            rw [show (cat P).size - n = T.size by rw [hS2.2.1, ByteArray.size_extract]; have := hS2.2.2; omega]
          clear hS2
          obtain ⟨a2, c2, rfl⟩ := (unhide hI).ro.opens
          go_wp2_with fail
          refine bodyPost_ret (v := .tuple #[.slice a2 L.length c2, .int .i64 (T.size : Int), .bool true]) (by simp [results, Tryd.results11, go_sem]) rfl ?_
          rw [unhide HE]
          exact ⟨⟨a2, c2, rfl, (unhide hI).ro.mono (by omega)⟩, (unhide hI).b⟩
    · rw [decide_eq_false hc] at HW
      have HF : Hid (feed P = none) := by show _ = _; unfold feed; rw [if_neg (fun z => hc z.2)]
      go_enter Tryd.func11, Tryd.ntmps11
      go_wp2_with fail
      refine (unhide HW _ (Below.refl _ _)).mono ?_
      rintro e w1 ⟨rfl, b1⟩
      go_wp2_with fail
      refine bodyPost_ret (v := .tuple #[.slice none 0 0, .int .i64 0, .bool false]) (by simp [results, Tryd.results11, go_sem]) rfl ?_
      rw [unhide HF]
      exact ⟨FcP.no _ _, b1⟩
  · have d0 : (60 : Int) < (P.length : Int) := by omega
    have HF : Hid (feed P = none) := by show _ = _; unfold feed; rw [if_neg (fun z => hl z.1)]
    go_enter Tryd.func11, Tryd.ntmps11
    go_wp2_with fail
    refine bodyPost_ret (v := .tuple #[.slice none 0 0, .int .i64 0, .bool false]) (by simp [results, Tryd.results11, go_sem]) rfl ?_
    rw [unhide HF]
    exact ⟨FcP.no _ _, Below.refl _ _⟩
end Go.Proofs.YtgieglpjkjncfabDoor.Rc
