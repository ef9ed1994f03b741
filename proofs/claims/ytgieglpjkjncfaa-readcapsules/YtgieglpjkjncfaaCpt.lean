/-
  Contracts: FeedCapsules of the model, ReadCapsules of both sides.
-/
import Derived.Test.YtgieglpjkjncfaaCps
import Derived.Test.YtgieglpjkjncfaaCph
namespace Go.Proofs.Ytgieglpjkjncfaa.Rc
open Go.ChangeShapes Go.WideShapes Go.ChangeAt Go.RowKit Go.Deep
set_option linter.unusedVariables false
set_option maxRecDepth 100000

theorem textW_le {L : List TextD} (h : ∀ i, i < L.length → (gt textK L i).size ≤ 1048576) : textW L ≤ L.length * 1048576 := by
  have key : ∀ k, k ≤ L.length → textW (L.take k) ≤ k * 1048576 := by
    intro k
    induction k with
    | zero => intro _; simp [textW]
    | succ k ih =>
      intro hk
      have h1 := ih (by omega)
      have h2 := h k (by omega)
      rw [textW_take (by omega)]
      unfold textT
      omega
  have := key L.length (Nat.le_refl _)
  rw [List.take_length] at this
  exact this
/-- what reading answers: the capsules and how many bytes they take -/
def readC (s : ByteArray) : Option (List CapsuleD × Nat) := if s.size ≤ 1500 then fdC s.data.toList else none
set_option maxHeartbeats 4000000 in
theorem specRC (s : ByteArray) (w : World) (hs : s.size ≤ 1048576) :
    Calls Try.prog 7 #[.string s] w fun e w' => FcP w.heap.size (readC s) e w' ∧ Below w.heap.size w w' := by
  by_cases hc : s.size ≤ 1500
  · have d1 : ¬ (1500 : Int) < (s.size : Int) := by omega
    have HF : Hid (readC s = fdC s.data.toList) := by show _ = _; unfold readC; rw [if_pos hc]
    have HL := hide (fun W => specRd s W hs)
    rw [rdC_fd] at HL
    obtain ⟨o, ho⟩ : ∃ o, fdC s.data.toList = o := ⟨_, rfl⟩
    rw [ho] at HF HL
    rw [unhide HF]
    clear ho hc
    go_enter Try.func7, Try.ntmps7
    go_wp2_with fail
    refine (unhide HL _).mono ?_
    rintro e w1 ⟨⟨a2, c2, rfl, R2⟩, b2⟩
    have HP := hide (And.intro R2 b2)
    clear R2 b2 HL
    go_wp2_with fail
    refine bodyPost_ret (v := .tuple #[.slice a2 (o.getD ([], 0)).1.length c2, .int .i64 ((o.getD ([], 0)).2 : Int), .bool o.isSome]) (by simp [results, Try.results7, go_sem]) rfl ?_
    exact ⟨⟨a2, c2, rfl, (unhide HP).1⟩, (unhide HP).2⟩
  · have d1 : (1500 : Int) < (s.size : Int) := by omega
    have HF : Hid (readC s = none) := by show _ = _; unfold readC; rw [if_neg hc]
    go_enter Try.func7, Try.ntmps7
    go_wp2_with fail
    refine bodyPost_ret (v := .tuple #[.slice none 0 0, .int .i64 0, .bool false]) (by simp [results, Try.results7, go_sem]) rfl ?_
    rw [unhide HF]
    exact ⟨FcP.no _ _, Below.refl _ _⟩
theorem feed_one (s : ByteArray) : feed [s] = match readC s with | none => none | some (L, n) => some (L, s.size - n) := by
  have e : cat [s] = s := by
    apply ByteArray.ext
    apply Array.toList_inj.1
    unfold cat
    rw [List.foldl_cons, List.foldl_nil, app_list]
    rfl
  unfold feed readC
  rw [e]
  by_cases hc : s.size ≤ 1500
  · rw [if_pos ⟨by simp, hc⟩, if_pos hc]
    cases fdC s.data.toList with
    | none => rfl
    | some x => rfl
  · rw [if_neg (fun z => hc z.2), if_neg hc]
set_option maxHeartbeats 4000000 in
theorem implRC (s : ByteArray) (w : World) (hs : s.size ≤ 1048576) :
    Calls Try.prog 8 #[.string s] w fun e w' => FcP w.heap.size (readC s) e w' ∧ Below w.heap.size w w' := by
  obtain ⟨V, hV⟩ : ∃ V, V = w.alloc (.cells #[.string s] 9) := ⟨_, rfl⟩
  have hA : Below w.heap.size w V := by rw [hV]; exact (Below.refl _ _).alloc (Nat.le_refl _) _
  have hb : Bx V w.heap.size [.string s] := by rw [hV]; exact Bx.new w _ _
  have hRd : Rd textK V (some ⟨w.heap.size, 0, none⟩) [s] := Or.inr ⟨_, _, rfl, hb.lt, fun q hq => by
    have h0 : q = 0 := by change q < 1 * 1 at hq; omega
    subst h0
    exact hb.cv 0⟩
  have HL := hide (implFC [s] (some ⟨w.heap.size, 0, none⟩) 1 V (by simp) (fun i hi => by
    have h0 : i = 0 := by change i < 1 at hi; omega
    subst h0
    exact hs) hRd)
  change Hid (Calls Try.prog 24 #[.slice (some ⟨w.heap.size, 0, none⟩) 1 1] V _) at HL
  rw [feed_one] at HL
  have HV := hide hV
  have HA := hide hA
  have HK := hide (fun L n (h : readC s = some (L, n)) => show n ≤ s.size by
    unfold readC at h
    split at h
    · have := (fdC_k h).1
      rw [Array.length_toList] at this
      exact this
    · cases h)
  clear hV hb hRd hA
  obtain ⟨o, ho⟩ : ∃ o, readC s = o := ⟨_, rfl⟩
  rw [ho] at HL HK ⊢
  clear ho
  cases o with
  | none =>
    dsimp only at HL
    go_enter Try.func8, Try.ntmps8
    go_wp2_with fail
    rw [← unhide HV]
    refine (unhide HL).mono ?_
    rintro e w1 ⟨⟨a2, c2, rfl, R2⟩, b2⟩
    have HB := hide ((unhide HA).trans (b2.mono (unhide HA).size))
    clear R2 b2 HL
    go_wp2_with fail
    refine bodyPost_ret (v := .tuple #[.slice none 0 0, .int .i64 0, .bool false]) (by simp [results, Try.results8, go_sem]) rfl ?_
    exact ⟨FcP.no _ _, unhide HB⟩
  | some x =>
    obtain ⟨L, n⟩ := x
    dsimp only at HL
    have hn := unhide HK L n rfl
    have e1 : (s.size : Int) - ((s.size - n : Nat) : Int) = (n : Int) := by omega
    obtain ⟨z, hz⟩ : ∃ z, s.size - n = z := ⟨_, rfl⟩
    rw [hz] at HL e1
    have w0 : IntKind.i64.wrap ((s.size : Int) - (z : Int)) = (n : Int) := by rw [wraps_i64 _ (by omega) (by omega)]; exact e1
    clear e1 hz hn HK
    go_enter Try.func8, Try.ntmps8
    go_wp2_with fail
    rw [← unhide HV]
    refine (unhide HL).mono ?_
    rintro e w1 ⟨⟨a2, c2, rfl, R2⟩, b2⟩
    have HB := hide ((unhide HA).trans (b2.mono (unhide HA).size))
    have HRo := hide (R2.mono (base' := w.heap.size) (unhide HA).size)
    clear R2 b2 HL
    dsimp only [Option.getD, Option.isSome] at HRo ⊢
    go_wp2_with fail
    refine bodyPost_ret (v := .tuple #[.slice a2 L.length c2, .int .i64 (n : Int), .bool true]) (by simp [results, Try.results8, go_sem]) rfl ?_
    exact ⟨⟨a2, c2, rfl, unhide HRo⟩, unhide HB⟩
end Go.Proofs.Ytgieglpjkjncfaa.Rc
