/-
  Contracts: FeedCapsules of the model, ReadCapsules of both sides.
-/
import Derived.Test.YtgieglpjkjncfabDoorCps
import Derived.Test.YtgieglpjkjncfabDoorCph
namespace Go.Proofs.YtgieglpjkjncfabDoor.Rc
open Go.ChangeShapes Go.WideShapes Go.ChangeAt Go.RowKit Go.Deep
set_option linter.unusedVariables false
set_option maxRecDepth 100000

theorem textW_le {L : List TextD} (h : ∀ i, i < L.length → (gt textK L i).size ≤ 1048576) : textW L ≤ L.length * 1048576 := by
  have key : ∀ k, k ≤ L.length → textW (L.take k) ≤ k * 1048576 := by
    intro k
    induction k with
    | zero => intro _; simp [textW]
    | succ k ih =>
      intro hk
      have h1 := ih (by omega)
      have h2 := h k (by omega)
      rw [textW_take (by omega)]
      unfold textT
      omega
  have := key L.length (Nat.le_refl _)
  rw [List.take_length] at this
  exact this
/-- what reading answers: the capsules and how many bytes they take -/
def readC (s : ByteArray) : Option (List CapsuleD × Nat) := if s.size ≤ 1500 then fdC s.data.toList else none
set_option maxHeartbeats 4000000 in
theorem specFC (P : List ByteArray) (a : Option Addr) (c : Nat) (w : World) (hN : P.length ≤ 1048576) (ho : ∀ i, i < P.length → (gt textK P i).size ≤ 1048576) (h : Rd textK w a P) :
    Calls Tryd.prog 12 #[.slice a P.length c] w fun e w' => FcP w.heap.size (feed P) e w' ∧ Below w.heap.size w w' := by
  have hcs : (cat P).size ≤ 1099511627776 := by rw [cat_w]; have := textW_le ho; omega
  have HR := hide h
  have HL : Hid ((cat P).size ≤ 1500 → ∀ W, Calls Tryd.prog 29 #[.string (cat P)] W fun e w' => FcP W.heap.size (fdC (cat P).data.toList) e w' ∧ Below W.heap.size W w') := fun hc W => by
    rw [← rdC_fd]
    exact specRd (cat P) W (by omega)
  clear h ho
  have hz : ((((cat P).size : Nat)) : Int).toNat = (cat P).size := by omega
  go_enter Tryd.func12, Tryd.ntmps12
  go_wp2_with fail
  go_loopw [5, 13] (fun sv iv wr => ∃ k : Nat, k ≤ P.length ∧ iv = .int .i64 k ∧ sv = .string (cat (P.take k)) ∧ wr = w) (fun _ iv _ => P.length - (intOf iv).toNat)
  case atStart => exact ⟨0, Nat.zero_le _, rfl, rfl, rfl⟩
  case round =>
    obtain ⟨k, hk, rfl, rfl, rfl⟩ := hrel
    by_cases hlt : k < P.length
    · rcases (unhide HR) with h9 | ⟨b, o, rfl, _, hel⟩
      · rw [h9] at hlt; exact absurd hlt (Nat.not_lt_zero _)
      have c0 := text_r0 hel hlt
      have hC := hide (cat_take hlt)
      have hst : (cat (P.take k)).size + (gt textK P k).size ≤ 1099511627776 := by
        have h1 := cat_in (P := P) (k := k + 1) hlt
        rw [cat_take hlt, ByteArray.size_append] at h1
        omega
      have hnk : (k : Int) < (P.length : Int) := by omega
      have hk0 : (0 : Int) ≤ (k : Int) := by omega
      clear hel
      generalize gt textK P k = t at *
      generalize cat (P.take k) = s at *
      go_wp2
      exact ⟨⟨k + 1, by omega, by go_num, by rw [unhide hC], by trivial⟩, by simp [intOf]; omega⟩
    · obtain rfl : k = P.length := by omega
      rw [List.take_length]
      by_cases hl : P.length ≤ 60
      · have d0 : ¬ (60 : Int) < (P.length : Int) := by omega
        by_cases hc : (cat P).size ≤ 1500
        · have d1 : ¬ (1500 : Int) < ((cat P).size : Int) := by omega
          have HF : Hid (feed P = fedO (cat P).size (fdC (cat P).data.toList)) := by show _ = _; unfold feed; rw [if_pos ⟨hl, hc⟩]
          have HL2 := hide (unhide HL hc)
          have HK := hide (fun L n (h : fdC (cat P).data.toList = some (L, n)) => (fdC_k h).1)
          rw [show (cat P).data.toList.length = (cat P).size by rw [Array.length_toList]; rfl] at HK
          clear hc HL hl
          generalize cat P = s at *
          obtain ⟨o, ho⟩ : ∃ o, fdC s.data.toList = o := ⟨_, rfl⟩
          rw [ho] at HF HL2 HK
          clear ho
          go_wp2_with fail
          refine (unhide HL2 _).mono ?_
          rintro e w1 ⟨⟨a2, c2, rfl, R2⟩, b2⟩
          have HB := hide b2
          have HRo := hide R2
          clear b2 R2 HL2
          cases o with
          | none =>
            go_wp2_with fail
            refine bodyPost_ret (v := .tuple #[.slice none 0 0, .int .i64 0, .bool false]) (by simp [results, Tryd.results12, go_sem]) rfl ?_
            rw [unhide HF]
            exact ⟨FcP.no _ _, unhide HB⟩
          | some x =>
            obtain ⟨L, n⟩ := x
            have hn := unhide HK L n rfl
            have w0 : IntKind.i64.wrap ((s.size : Int) - (n : Int)) = (s.size : Int) - (n : Int) := wraps_i64 _ (by omega) (by omega)
            have HE := hide (show ((s.size - n : Nat) : Int) = (s.size : Int) - (n : Int) by omega)
            dsimp only [Option.getD, Option.isSome] at HRo ⊢
            go_wp2_with fail
            refine bodyPost_ret (v := .tuple #[.slice a2 L.length c2, .int .i64 ((s.size : Int) - (n : Int)), .bool true]) (by simp [results, Tryd.results12, go_sem]) rfl ?_
            rw [unhide HF, ← unhide HE]
            exact ⟨⟨a2, c2, rfl, unhide HRo⟩, unhide HB⟩
        · have d1 : (1500 : Int) < ((cat P).size : Int) := by omega
          have HF : Hid (feed P = none) := by show _ = _; unfold feed; rw [if_neg (fun z => hc z.2)]
          clear HL
          go_wp2_with fail
          refine bodyPost_ret (v := .tuple #[.slice none 0 0, .int .i64 0, .bool false]) (by simp [results, Tryd.results12, go_sem]) rfl ?_
          rw [unhide HF]
          exact ⟨FcP.no _ _, Below.refl _ _⟩
      · have d0 : (60 : Int) < (P.length : Int) := by omega
        have HF : Hid (feed P = none) := by show _ = _; unfold feed; rw [if_neg (fun z => hl z.1)]
        clear HL
        go_wp2_with fail
        refine bodyPost_ret (v := .tuple #[.slice none 0 0, .int .i64 0, .bool false]) (by simp [results, Tryd.results12, go_sem]) rfl ?_
        rw [unhide HF]
        exact ⟨FcP.no _ _, Below.refl _ _⟩
theorem feed_one (s : ByteArray) : feed [s] = match readC s with | none => none | some (L, n) => some (L, s.size - n) := by
  have e : cat [s] = s := by
    apply ByteArray.ext
    apply Array.toList_inj.1
    unfold cat
    rw [List.foldl_cons, List.foldl_nil, app_list]
    rfl
  unfold feed readC
  rw [e]
  by_cases hc : s.size ≤ 1500
  · rw [if_pos ⟨by simp, hc⟩, if_pos hc]
    cases fdC s.data.toList with
    | none => rfl
    | some x => rfl
  · rw [if_neg (fun z => hc z.2), if_neg hc]
set_option maxHeartbeats 4000000 in
theorem implRC (s : ByteArray) (w : World) (hs : s.size ≤ 1048576) :
    Calls Tryd.prog 8 #[.string s] w fun e w' => FcP w.heap.size (readC s) e w' ∧ Below w.heap.size w w' := by
  obtain ⟨V, hV⟩ : ∃ V, V = w.alloc (.cells #[.string s] 9) := ⟨_, rfl⟩
  have hA : Below w.heap.size w V := by rw [hV]; exact (Below.refl _ _).alloc (Nat.le_refl _) _
  have hb : Bx V w.heap.size [.string s] := by rw [hV]; exact Bx.new w _ _
  have hRd : Rd textK V (some ⟨w.heap.size, 0, none⟩) [s] := Or.inr ⟨_, _, rfl, hb.lt, fun q hq => by
    have h0 : q = 0 := by change q < 1 * 1 at hq; omega
    subst h0
    exact hb.cv 0⟩
  have HL := hide (implFC [s] (some ⟨w.heap.size, 0, none⟩) 1 V (by simp) (fun i hi => by
    have h0 : i = 0 := by change i < 1 at hi; omega
    subst h0
    exact hs) hRd)
  change Hid (Calls Tryd.prog 11 #[.slice (some ⟨w.heap.size, 0, none⟩) 1 1] V _) at HL
  rw [feed_one] at HL
  have HV := hide hV
  have HA := hide hA
  have HK := hide (fun L n (h : readC s = some (L, n)) => show n ≤ s.size by
    unfold readC at h
    split at h
    · have := (fdC_k h).1
      rw [Array.length_toList] at this
      exact this
    · cases h)
  clear hV hb hRd hA
  obtain ⟨o, ho⟩ : ∃ o, readC s = o := ⟨_, rfl⟩
  rw [ho] at HL HK ⊢
  clear ho
  cases o with
  | none =>
    dsimp only at HL
    go_enter Tryd.func8, Tryd.ntmps8
    go_wp2_with fail
    rw [← unhide HV]
    refine (unhide HL).mono ?_
    rintro e w1 ⟨⟨a2, c2, rfl, R2⟩, b2⟩
    have HB := hide ((unhide HA).trans (b2.mono (unhide HA).size))
    clear R2 b2 HL
    go_wp2_with fail
    refine bodyPost_ret (v := .tuple #[.slice none 0 0, .int .i64 0, .bool false]) (by simp [results, Tryd.results8, go_sem]) rfl ?_
    exact ⟨FcP.no _ _, unhide HB⟩
  | some x =>
    obtain ⟨L, n⟩ := x
    dsimp only at HL
    have hn := unhide HK L n rfl
    have e1 : (s.size : Int) - ((s.size - n : Nat) : Int) = (n : Int) := by omega
    obtain ⟨z, hz⟩ : ∃ z, s.size - n = z := ⟨_, rfl⟩
    rw [hz] at HL e1
    have w0 : IntKind.i64.wrap ((s.size : Int) - (z : Int)) = (n : Int) := by rw [wraps_i64 _ (by omega) (by omega)]; exact e1
    clear e1 hz hn HK
    go_enter Tryd.func8, Tryd.ntmps8
    go_wp2_with fail
    rw [← unhide HV]
    refine (unhide HL).mono ?_
    rintro e w1 ⟨⟨a2, c2, rfl, R2⟩, b2⟩
    have HB := hide ((unhide HA).trans (b2.mono (unhide HA).size))
    have HRo := hide (R2.mono (base' := w.heap.size) (unhide HA).size)
    clear R2 b2 HL
    dsimp only [Option.getD, Option.isSome] at HRo ⊢
    go_wp2_with fail
    refine bodyPost_ret (v := .tuple #[.slice a2 L.length c2, .int .i64 (n : Int), .bool true]) (by simp [results, Tryd.results8, go_sem]) rfl ?_
    exact ⟨⟨a2, c2, rfl, unhide HRo⟩, unhide HB⟩
end Go.Proofs.YtgieglpjkjncfabDoor.Rc
