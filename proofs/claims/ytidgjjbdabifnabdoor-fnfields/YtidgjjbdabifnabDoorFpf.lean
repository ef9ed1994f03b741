/-
  Fields: the static table, which fields are good, their bytes, and how they are read (pure).
-/
import Derived.Test.YtidgjjbdabifnabDoorFpp
import Derived.Test.YtidgjjbdabifnabDoorRcField
namespace Go.Proofs.YtidgjjbdabifnabDoor.Rc
set_option linter.unusedVariables false
set_option maxRecDepth 100000

/-- the static table -/
def sT : List FieldD := [
  ⟨⟨#[58, 97, 117, 116, 104, 111, 114, 105, 116, 121]⟩, ⟨#[]⟩⟩,
  ⟨⟨#[58, 112, 97, 116, 104]⟩, ⟨#[47]⟩⟩,
  ⟨⟨#[58, 109, 101, 116, 104, 111, 100]⟩, ⟨#[67, 79, 78, 78, 69, 67, 84]⟩⟩,
  ⟨⟨#[58, 109, 101, 116, 104, 111, 100]⟩, ⟨#[71, 69, 84]⟩⟩,
  ⟨⟨#[58, 109, 101, 116, 104, 111, 100]⟩, ⟨#[80, 79, 83, 84]⟩⟩,
  ⟨⟨#[58, 115, 99, 104, 101, 109, 101]⟩, ⟨#[104, 116, 116, 112]⟩⟩,
  ⟨⟨#[58, 115, 99, 104, 101, 109, 101]⟩, ⟨#[104, 116, 116, 112, 115]⟩⟩,
  ⟨⟨#[58, 115, 116, 97, 116, 117, 115]⟩, ⟨#[50, 48, 48]⟩⟩,
  ⟨⟨#[58, 115, 116, 97, 116, 117, 115]⟩, ⟨#[52, 48, 52]⟩⟩,
  ⟨⟨#[58, 115, 116, 97, 116, 117, 115]⟩, ⟨#[53, 48, 51]⟩⟩,
  ⟨⟨#[58, 112, 114, 111, 116, 111, 99, 111, 108]⟩, ⟨#[99, 111, 110, 110, 101, 99, 116, 45, 117, 100, 112]⟩⟩,
  ⟨⟨#[99, 97, 112, 115, 117, 108, 101, 45, 112, 114, 111, 116, 111, 99, 111, 108]⟩, ⟨#[63, 49]⟩⟩,
  ⟨⟨#[99, 111, 110, 116, 101, 110, 116, 45, 108, 101, 110, 103, 116, 104]⟩, ⟨#[48]⟩⟩,
  ⟨⟨#[100, 97, 116, 101]⟩, ⟨#[]⟩⟩,
  ⟨⟨#[117, 115, 101, 114, 45, 97, 103, 101, 110, 116]⟩, ⟨#[]⟩⟩,
  ⟨⟨#[97, 99, 99, 101, 112, 116]⟩, ⟨#[42, 47, 42]⟩⟩]
/-- the first place with a name, from a place on -/
def fsN : List FieldD → ByteArray → Nat → Int
  | [], _, _ => -1
  | x :: l, s, i => if x.f0 = s then i else fsN l s (i + 1)
/-- the first place with just this field -/
def fsA : List FieldD → FieldD → Nat → Int
  | [], _, _ => -1
  | x :: l, D, i => if x.f0 = D.f0 ∧ x.f1 = D.f1 then i else fsA l D (i + 1)
/-- all of the first n -/
def allB (p : Nat → Bool) (n : Nat) : Bool := (List.range n).all p
theorem allB_succ (p : Nat → Bool) (n : Nat) : allB p (n + 1) = (allB p n && p n) := by unfold allB; rw [List.range_succ]; simp
theorem allB_no {p : Nat → Bool} {n k : Nat} (hk : k < n) (h : p k = false) : allB p n = false := by
  unfold allB
  rw [List.all_eq_false]
  exact ⟨k, List.mem_range.2 hk, by rw [h]; decide⟩
/-- the byte at a place -/
def by0 (s : ByteArray) (i : Nat) : Nat := (s.data.toList.getD i 0).toNat
theorem by0_lt (s : ByteArray) (i : Nat) : by0 s i < 256 := (s.data.toList.getD i 0).toNat_lt
theorem by0_at (s : ByteArray) (i : Nat) (h : i < s.size) : s[i].toNat = by0 s i := by
  unfold by0
  have : s.data.toList.getD i 0 = s[i] := by
    rw [List.getD_eq_getElem?_getD, List.getElem?_eq_getElem (by simpa using h)]
    simp [ByteArray.getElem_eq_getElem_data]
  rw [this]
/-- a byte that a name may have at a place -/
def nmB (s : ByteArray) (i : Nat) : Bool := (decide (97 ≤ by0 s i) && decide (by0 s i ≤ 122)) || (decide (48 ≤ by0 s i) && decide (by0 s i ≤ 57)) || decide (by0 s i = 45) || (decide (by0 s i = 58) && decide (i = 0))
def gdN (s : ByteArray) : Bool := decide (1 ≤ s.size) && decide (s.size ≤ 100) && allB (nmB s) s.size
def vlB (s : ByteArray) (i : Nat) : Bool := decide (32 ≤ by0 s i) && decide (by0 s i ≤ 126)
def gdV (s : ByteArray) : Bool := decide (s.size ≤ 100) && allB (vlB s) s.size
/-- which fields are good -/
def gdD (D : FieldD) : Bool := gdN D.f0 && gdV D.f1
def gdF (L : List FieldD) : Bool := decide (L.length ≤ 30) && L.all gdD
/-- a text as bytes, with its length ahead -/
def txL (s : ByteArray) (b first : Nat) : List UInt8 := pfL s.size b first ++ s.data.toList
/-- the bytes of a field -/
def fbF (D : FieldD) : List UInt8 := if 0 ≤ fsA sT D 0 then pfL (fsA sT D 0).toNat 6 192 else if 0 ≤ fsN sT D.f0 0 then pfL (fsN sT D.f0 0).toNat 4 80 ++ txL D.f1 7 0 else txL D.f0 3 32 ++ txL D.f1 7 0
/-- the bytes of fields -/
def fbL (L : List FieldD) : List UInt8 := [0, 0] ++ L.flatMap fbF
/-- a text with its length ahead, read -/
def tkX (l : List UInt8) (b : Nat) : Option (ByteArray × Nat) := match tkP l b with
  | none => none
  | some (n, _, k) => if l.length < k + n then none else some (⟨((l.drop k).take n).toArray⟩, k + n)
/-- the model reads one -/
def stM (l : List UInt8) : Option (FieldD × Nat) := match l with
  | [] => none
  | c :: _ => if 192 ≤ c.toNat then (match tkP l 6 with | none => none | some (k, _, n) => if 15 < k then none else some (gt fieldK sT k, n))
    else if c.toNat / 16 = 5 then (match tkP l 4 with | none => none | some (k, _, n) => if 15 < k then none else match tkX (l.drop n) 7 with | none => none | some (v, q) => some (⟨(gt fieldK sT k).f0, v⟩, n + q))
    else if c.toNat / 8 = 4 then (match tkX l 3 with | none => none | some (m, n) => match tkX (l.drop n) 7 with | none => none | some (v, q) => some (⟨m, v⟩, n + q))
    else none
/-- the program reads one -/
def stI (l : List UInt8) : Option (FieldD × Nat) := match l with
  | [] => none
  | c :: _ => if 192 ≤ c.toNat then (match tkP l 6 with | none => none | some (k, _, n) => if 15 < k then none else some (gt fieldK sT k, n))
    else if 80 ≤ c.toNat then (match tkP l 4 with | none => none | some (k, _, n) => if 15 < k then none else match tkX (l.drop n) 7 with | none => none | some (v, q) => some (⟨(gt fieldK sT k).f0, v⟩, n + q))
    else (match tkX l 3 with | none => none | some (m, n) => match tkX (l.drop n) 7 with | none => none | some (v, q) => some (⟨m, v⟩, n + q))
/-- the model reads on -/
def rlM : Nat → List UInt8 → List FieldD → Option (List FieldD)
  | 0, _, out => some out
  | _ + 1, [], out => some out
  | f + 1, c :: l, out => match stM (c :: l) with | none => none | some (D, n) => rlM f ((c :: l).drop n) (out ++ [D])
/-- the program reads on -/
def rlI : Nat → List UInt8 → List FieldD → Option (List FieldD)
  | _, [], out => some out
  | 0, _ :: _, _ => none
  | f + 1, c :: l, out => match stI (c :: l) with | none => none | some (D, n) => rlI f ((c :: l).drop n) (out ++ [D])
/-- what is read is held against what is told -/
def chk (l : List UInt8) : Option (List FieldD) → Option (List FieldD)
  | none => none
  | some out => if gdF out = true ∧ fbL out = l then some out else none
theorem fsN_lo : ∀ (l : List FieldD) (s : ByteArray) (i : Nat), fsN l s i = -1 ∨ (i : Int) ≤ fsN l s i ∧ fsN l s i < i + l.length ∧ (gt fieldK l (fsN l s i - i).toNat).f0 = s
  | [], s, i => Or.inl rfl
  | x :: l, s, i => by
    unfold fsN
    by_cases h : x.f0 = s
    · rw [if_pos h]
      refine Or.inr ⟨by omega, by simp only [List.length_cons]; omega, ?_⟩
      rw [Int.sub_self]
      exact h
    · rw [if_neg h]
      rcases fsN_lo l s (i + 1) with h1 | ⟨h1, h2, h3⟩
      · exact Or.inl h1
      · refine Or.inr ⟨by omega, by simp only [List.length_cons]; omega, ?_⟩
        rw [show (fsN l s (i + 1) - i).toNat = (fsN l s (i + 1) - (i + 1 : Nat)).toNat + 1 by omega]
        exact h3
theorem fsA_lo : ∀ (l : List FieldD) (D : FieldD) (i : Nat), fsA l D i = -1 ∨ (i : Int) ≤ fsA l D i ∧ fsA l D i < i + l.length ∧ gt fieldK l (fsA l D i - i).toNat = D
  | [], s, i => Or.inl rfl
  | x :: l, D, i => by
    unfold fsA
    by_cases h : x.f0 = D.f0 ∧ x.f1 = D.f1
    · rw [if_pos h]
      refine Or.inr ⟨by omega, by simp only [List.length_cons]; omega, ?_⟩
      rw [Int.sub_self]
      obtain ⟨a, b⟩ := x
      obtain ⟨c, d⟩ := D
      obtain ⟨h1, h2⟩ := h
      dsimp only at h1 h2
      subst h1
      subst h2
      rfl
    · rw [if_neg h]
      rcases fsA_lo l D (i + 1) with h1 | ⟨h1, h2, h3⟩
      · exact Or.inl h1
      · refine Or.inr ⟨by omega, by simp only [List.length_cons]; omega, ?_⟩
        rw [show (fsA l D (i + 1) - i).toNat = (fsA l D (i + 1) - (i + 1 : Nat)).toNat + 1 by omega]
        exact h3
theorem tkX_txL (s : ByteArray) (b first : Nat) (more : List UInt8) (hs : s.size ≤ 100) (h0 : 3 ≤ b) (h1 : b ≤ 8) (hf : first ≤ 255) (hd : first % 2 ^ b = 0) :
    tkX (txL s b first ++ more) b = some (s, (txL s b first).length) := by
  have h := tkP_pfL s.size b first (s.data.toList ++ more) (by omega) h0 h1 hf hd
  unfold tkX txL
  rw [List.append_assoc, h]
  dsimp only
  have hl : s.data.toList.length = s.size := by rw [Array.length_toList]; rfl
  rw [if_neg (by simp only [List.length_append]; omega), List.drop_left, ← hl, List.take_left, List.length_append, hl]
theorem txL_ne (s : ByteArray) (b first : Nat) : txL s b first ≠ [] := by
  intro h
  have := congrArg List.length h
  have h1 := pfL_len s.size b first
  unfold txL at this
  rw [List.length_append, List.length_nil] at this
  omega
theorem drop_app {α : Type} (a b : List α) : (a ++ b).drop a.length = b := by simp
/-- what is told of a good field is read by both -/
theorem st_fbF (D : FieldD) (more : List UInt8) (hg : gdD D = true) : stM (fbF D ++ more) = some (D, (fbF D).length) ∧ stI (fbF D ++ more) = some (D, (fbF D).length) := by
  have hz : 1 ≤ D.f0.size ∧ D.f0.size ≤ 100 ∧ D.f1.size ≤ 100 := by
    unfold gdD gdN gdV at hg
    simp only [Bool.and_eq_true, decide_eq_true_eq] at hg
    omega
  unfold fbF
  by_cases hA : 0 ≤ fsA sT D 0
  · rw [if_pos hA]
    rcases fsA_lo sT D 0 with h | ⟨_, h2, h3⟩
    · rw [h] at hA; exact absurd hA (by decide)
    have h4 : sT.length = 16 := rfl
    obtain ⟨a, ha⟩ : ∃ a : Nat, fsA sT D 0 = a := ⟨_, (Int.toNat_of_nonneg hA).symm⟩
    rw [ha] at h2 h3 ⊢
    have ha2 : a < 16 := by omega
    rw [show ((a : Int) - (0 : Nat)).toNat = a by omega] at h3
    have ep : pfL (a : Int).toNat 6 192 = [UInt8.ofNat (192 + a)] := by
      rw [Int.toNat_natCast]
      unfold pfL
      rw [if_pos (by unfold mI; omega)]
    have ht := tkP_pfL a 6 192 more (by omega) (by omega) (by omega) (by omega) (by decide)
    rw [show pfL a 6 192 = pfL (a : Int).toNat 6 192 by rw [Int.toNat_natCast], ep] at ht
    rw [ep]
    have hc : (UInt8.ofNat (192 + a)).toNat = 192 + a := by simp; omega
    constructor
    · show (if 192 ≤ (UInt8.ofNat (192 + a)).toNat then _ else _) = _
      rw [if_pos (by omega)]
      show (match tkP ([UInt8.ofNat (192 + a)] ++ more) 6 with | none => none | some (k, _, n) => if 15 < k then none else some (gt fieldK sT k, n)) = _
      rw [ht]
      dsimp only
      rw [if_neg (by omega), h3]
    · show (if 192 ≤ (UInt8.ofNat (192 + a)).toNat then _ else _) = _
      rw [if_pos (by omega)]
      show (match tkP ([UInt8.ofNat (192 + a)] ++ more) 6 with | none => none | some (k, _, n) => if 15 < k then none else some (gt fieldK sT k, n)) = _
      rw [ht]
      dsimp only
      rw [if_neg (by omega), h3]
  rw [if_neg hA]
  by_cases hN : 0 ≤ fsN sT D.f0 0
  · rw [if_pos hN]
    rcases fsN_lo sT D.f0 0 with h | ⟨_, h2, h3⟩
    · rw [h] at hN; exact absurd hN (by decide)
    have h4 : sT.length = 16 := rfl
    obtain ⟨a, ha⟩ : ∃ a : Nat, fsN sT D.f0 0 = a := ⟨_, (Int.toNat_of_nonneg hN).symm⟩
    rw [ha] at h2 h3 ⊢
    have ha2 : a < 16 := by omega
    rw [show ((a : Int) - (0 : Nat)).toNat = a by omega] at h3
    rw [Int.toNat_natCast]
    have ht := tkP_pfL a 4 80 (txL D.f1 7 0 ++ more) (by omega) (by omega) (by omega) (by omega) (by decide)
    have hx := tkX_txL D.f1 7 0 more (by omega) (by omega) (by omega) (by omega) (by decide)
    rw [List.append_assoc]
    obtain ⟨c, r, hp, hc0, hc1⟩ : ∃ c r, pfL a 4 80 = c :: r ∧ 80 ≤ c.toNat ∧ c.toNat ≤ 95 := by
      unfold pfL mI
      by_cases h : a < 15
      · rw [if_pos h]; exact ⟨_, _, rfl, by simp; omega, by simp; omega⟩
      · rw [if_neg h]; exact ⟨_, _, rfl, by simp, by simp⟩
    have hd : (pfL a 4 80 ++ (txL D.f1 7 0 ++ more)).drop (pfL a 4 80).length = txL D.f1 7 0 ++ more := drop_app _ _
    generalize txL D.f1 7 0 = V at *
    rw [hp] at ht hd ⊢
    constructor
    · show (if 192 ≤ c.toNat then _ else if c.toNat / 16 = 5 then _ else _) = _
      rw [if_neg (by omega), if_pos (by omega)]
      show (match tkP (c :: r ++ (V ++ more)) 4 with | none => none | some (k, _, n) => if 15 < k then none else match tkX ((c :: r ++ (V ++ more)).drop n) 7 with | none => none | some (v, q) => some ((⟨(gt fieldK sT k).f0, v⟩ : FieldD), n + q)) = _
      rw [ht]
      dsimp only
      rw [if_neg (by omega), hd, hx, h3, List.length_append]
    · show (if 192 ≤ c.toNat then _ else if 80 ≤ c.toNat then _ else _) = _
      rw [if_neg (by omega), if_pos (by omega)]
      show (match tkP (c :: r ++ (V ++ more)) 4 with | none => none | some (k, _, n) => if 15 < k then none else match tkX ((c :: r ++ (V ++ more)).drop n) 7 with | none => none | some (v, q) => some ((⟨(gt fieldK sT k).f0, v⟩ : FieldD), n + q)) = _
      rw [ht]
      dsimp only
      rw [if_neg (by omega), hd, hx, h3, List.length_append]
  · rw [if_neg hN, List.append_assoc]
    have ht := tkX_txL D.f0 3 32 (txL D.f1 7 0 ++ more) (by omega) (by omega) (by omega) (by omega) (by decide)
    have hx := tkX_txL D.f1 7 0 more (by omega) (by omega) (by omega) (by omega) (by decide)
    obtain ⟨c, r, hp, hc0, hc1⟩ : ∃ c r, txL D.f0 3 32 = c :: r ∧ 32 ≤ c.toNat ∧ c.toNat ≤ 39 := by
      unfold txL pfL mI
      by_cases h : D.f0.size < 7
      · rw [if_pos h]; exact ⟨_, _, rfl, by simp; omega, by simp; omega⟩
      · rw [if_neg h]; exact ⟨_, _, rfl, by simp, by simp⟩
    have hd : (txL D.f0 3 32 ++ (txL D.f1 7 0 ++ more)).drop (txL D.f0 3 32).length = txL D.f1 7 0 ++ more := drop_app _ _
    generalize txL D.f1 7 0 = V at *
    rw [hp] at ht hd ⊢
    constructor
    · show (if 192 ≤ c.toNat then _ else if c.toNat / 16 = 5 then _ else if c.toNat / 8 = 4 then _ else _) = _
      rw [if_neg (by omega), if_neg (by omega), if_pos (by omega)]
      show (match tkX (c :: r ++ (V ++ more)) 3 with | none => none | some (m, n) => match tkX ((c :: r ++ (V ++ more)).drop n) 7 with | none => none | some (v, q) => some ((⟨m, v⟩ : FieldD), n + q)) = _
      rw [ht]
      dsimp only
      rw [hd, hx, List.length_append]
    · show (if 192 ≤ c.toNat then _ else if 80 ≤ c.toNat then _ else _) = _
      rw [if_neg (by omega), if_neg (by omega)]
      show (match tkX (c :: r ++ (V ++ more)) 3 with | none => none | some (m, n) => match tkX ((c :: r ++ (V ++ more)).drop n) 7 with | none => none | some (v, q) => some ((⟨m, v⟩ : FieldD), n + q)) = _
      rw [ht]
      dsimp only
      rw [hd, hx, List.length_append]
theorem fbF_ne (D : FieldD) : fbF D ≠ [] := by
  intro h
  have := congrArg List.length h
  unfold fbF txL at this
  split at this
  · have := pfL_len (fsA sT D 0).toNat 6 192
    rw [List.length_nil] at *
    omega
  · split at this
    · have := pfL_len (fsN sT D.f0 0).toNat 4 80
      rw [List.length_append, List.length_nil] at *
      omega
    · have := pfL_len D.f0.size 3 32
      rw [List.length_append, List.length_append, List.length_nil] at *
      omega
theorem rl_all : ∀ (L : List FieldD) (f : Nat) (out : List FieldD), L.all gdD = true → L.length ≤ f → rlM f (L.flatMap fbF) out = some (out ++ L) ∧ rlI f (L.flatMap fbF) out = some (out ++ L)
  | [], f, out, _, _ => by
    rw [List.flatMap_nil, List.append_nil]
    cases f with
    | zero => exact ⟨rfl, rfl⟩
    | succ f => exact ⟨rfl, rfl⟩
  | D :: L, 0, out, _, h => absurd h (Nat.not_succ_le_zero _)
  | D :: L, f + 1, out, hg, h => by
    rw [List.all_cons, Bool.and_eq_true] at hg
    rw [List.flatMap_cons]
    obtain ⟨h1, h2⟩ := st_fbF D (L.flatMap fbF) hg.1
    obtain ⟨h3, h4⟩ := rl_all L f (out ++ [D]) hg.2 (by simpa using h)
    have hd := drop_app (fbF D) (L.flatMap fbF)
    have hne := fbF_ne D
    generalize fbF D = a at *
    generalize L.flatMap fbF = m at *
    cases a with
    | nil => exact absurd rfl hne
    | cons c a =>
      constructor
      · show (match stM (c :: a ++ m) with | none => none | some (D, n) => rlM f ((c :: a ++ m).drop n) (out ++ [D])) = _
        rw [h1]
        dsimp only
        rw [hd, h3, List.append_assoc]
        rfl
      · show (match stI (c :: a ++ m) with | none => none | some (D, n) => rlI f ((c :: a ++ m).drop n) (out ++ [D])) = _
        rw [h2]
        dsimp only
        rw [hd, h4, List.append_assoc]
        rfl
/-- what both read that is held against what is told -/
def rdM (l : List UInt8) : Option (List FieldD) := if l.length < 2 then none else chk l (rlM 31 (l.drop 2) [])
def rdI (l : List UInt8) : Option (List FieldD) := chk l (rlI 30 (l.drop 2) [])
theorem chk_some {l : List UInt8} {o : Option (List FieldD)} {L : List FieldD} (h : chk l o = some L) : gdF L = true ∧ fbL L = l := by
  cases o with
  | none => cases h
  | some out =>
    unfold chk at h
    dsimp only at h
    split at h
    · rename_i hh
      injection h with h
      subst h
      exact hh
    · cases h
theorem rd_back (L : List FieldD) (hg : gdF L = true) : rdM (fbL L) = some L ∧ rdI (fbL L) = some L := by
  have hg2 := hg
  unfold gdF at hg2
  rw [Bool.and_eq_true, decide_eq_true_eq] at hg2
  obtain ⟨h1, h2⟩ := rl_all L 31 [] hg2.2 (by omega)
  obtain ⟨h3, h4⟩ := rl_all L 30 [] hg2.2 (by omega)
  have e : (fbL L).drop 2 = L.flatMap fbF := rfl
  unfold rdM rdI
  rw [e, h1, h4, List.nil_append, if_neg (by unfold fbL; simp)]
  unfold chk
  dsimp only
  rw [if_pos ⟨hg, rfl⟩]
  exact ⟨rfl, rfl⟩
theorem rd_same (l : List UInt8) : rdI l = rdM l := by
  cases h : rdM l with
  | some L =>
    have h2 : gdF L = true ∧ fbL L = l := by
      unfold rdM at h
      split at h
      · cases h
      · exact chk_some h
    have := (rd_back L h2.1).2
    rw [h2.2] at this
    exact this
  | none =>
    cases h2 : rdI l with
    | none => rfl
    | some L =>
      have h3 := chk_some (show chk l (rlI 30 (l.drop 2) []) = some L from h2)
      have := (rd_back L h3.1).1
      rw [h3.2, h] at this
      cases this
def nm0 : ByteArray := ⟨#[58, 97, 117, 116, 104, 111, 114, 105, 116, 121]⟩
def nm1 : ByteArray := ⟨#[58, 112, 97, 116, 104]⟩
def nm2 : ByteArray := ⟨#[58, 109, 101, 116, 104, 111, 100]⟩
def nm5 : ByteArray := ⟨#[58, 115, 99, 104, 101, 109, 101]⟩
def nm7 : ByteArray := ⟨#[58, 115, 116, 97, 116, 117, 115]⟩
def nm10 : ByteArray := ⟨#[58, 112, 114, 111, 116, 111, 99, 111, 108]⟩
def nm11 : ByteArray := ⟨#[99, 97, 112, 115, 117, 108, 101, 45, 112, 114, 111, 116, 111, 99, 111, 108]⟩
def nm12 : ByteArray := ⟨#[99, 111, 110, 116, 101, 110, 116, 45, 108, 101, 110, 103, 116, 104]⟩
def nm13 : ByteArray := ⟨#[100, 97, 116, 101]⟩
def nm14 : ByteArray := ⟨#[117, 115, 101, 114, 45, 97, 103, 101, 110, 116]⟩
def nm15 : ByteArray := ⟨#[97, 99, 99, 101, 112, 116]⟩
/-- the first place with a name, as the program looks for it -/
def nmP (s : ByteArray) : Int := if s = nm0 then 0 else if s = nm1 then 1 else if s = nm2 then 2 else if s = nm5 then 5 else if s = nm7 then 7 else if s = nm10 then 10 else if s = nm11 then 11 else if s = nm12 then 12 else if s = nm13 then 13 else if s = nm14 then 14 else if s = nm15 then 15 else -1
theorem fsN_is (s : ByteArray) : fsN sT s 0 = nmP s := by
  have F : fsN sT s 0 = (if nm0 = s then 0 else if nm1 = s then 1 else if nm2 = s then 2 else if nm2 = s then 3 else if nm2 = s then 4 else if nm5 = s then 5 else if nm5 = s then 6 else if nm7 = s then 7 else if nm7 = s then 8 else if nm7 = s then 9 else if nm10 = s then 10 else if nm11 = s then 11 else if nm12 = s then 12 else if nm13 = s then 13 else if nm14 = s then 14 else if nm15 = s then 15 else -1 : Int) := rfl
  rw [F]
  unfold nmP
  by_cases h0 : nm0 = s
  · rw [if_pos h0, if_pos h0.symm]
  rw [if_neg h0, if_neg (show ¬ s = nm0 from fun e => h0 e.symm)]
  by_cases h1 : nm1 = s
  · rw [if_pos h1, if_pos h1.symm]
  rw [if_neg h1, if_neg (show ¬ s = nm1 from fun e => h1 e.symm)]
  by_cases h2 : nm2 = s
  · rw [if_pos h2, if_pos h2.symm]
  rw [if_neg h2, if_neg h2, if_neg h2, if_neg (show ¬ s = nm2 from fun e => h2 e.symm)]
  by_cases h5 : nm5 = s
  · rw [if_pos h5, if_pos h5.symm]
  rw [if_neg h5, if_neg h5, if_neg (show ¬ s = nm5 from fun e => h5 e.symm)]
  by_cases h7 : nm7 = s
  · rw [if_pos h7, if_pos h7.symm]
  rw [if_neg h7, if_neg h7, if_neg h7, if_neg (show ¬ s = nm7 from fun e => h7 e.symm)]
  by_cases h10 : nm10 = s
  · rw [if_pos h10, if_pos h10.symm]
  rw [if_neg h10, if_neg (show ¬ s = nm10 from fun e => h10 e.symm)]
  by_cases h11 : nm11 = s
  · rw [if_pos h11, if_pos h11.symm]
  rw [if_neg h11, if_neg (show ¬ s = nm11 from fun e => h11 e.symm)]
  by_cases h12 : nm12 = s
  · rw [if_pos h12, if_pos h12.symm]
  rw [if_neg h12, if_neg (show ¬ s = nm12 from fun e => h12 e.symm)]
  by_cases h13 : nm13 = s
  · rw [if_pos h13, if_pos h13.symm]
  rw [if_neg h13, if_neg (show ¬ s = nm13 from fun e => h13 e.symm)]
  by_cases h14 : nm14 = s
  · rw [if_pos h14, if_pos h14.symm]
  rw [if_neg h14, if_neg (show ¬ s = nm14 from fun e => h14 e.symm)]
  by_cases h15 : nm15 = s
  · rw [if_pos h15, if_pos h15.symm]
  rw [if_neg h15, if_neg (show ¬ s = nm15 from fun e => h15 e.symm)]
theorem fsA_none : ∀ (l : List FieldD) (D : FieldD) (i : Nat), fsN l D.f0 i = -1 → fsA l D i = -1
  | [], D, i, _ => rfl
  | x :: l, D, i, h => by
    unfold fsN at h
    unfold fsA
    by_cases e : x.f0 = D.f0
    · rw [if_pos e] at h; omega
    · rw [if_neg e] at h
      rw [if_neg (fun q => e q.1)]
      exact fsA_none l D (i + 1) h
theorem fsA_drop : ∀ (l : List FieldD) (D : FieldD) (i j : Nat), fsN l D.f0 i = ((i + j : Nat) : Int) → fsA l D i = fsA (l.drop j) D (i + j)
  | [], D, i, j, h => by unfold fsN at h; omega
  | x :: l, D, i, 0, h => rfl
  | x :: l, D, i, j + 1, h => by
    unfold fsN at h
    by_cases e : x.f0 = D.f0
    · rw [if_pos e] at h; omega
    · rw [if_neg e] at h
      rw [fsA, if_neg (fun q => e q.1), List.drop_succ_cons, show i + (j + 1) = i + 1 + j by omega]
      exact fsA_drop l D (i + 1) j (by rw [h]; omega)
end Go.Proofs.YtidgjjbdabifnabDoor.Rc
