/-
  The field of blocks: products do not hang on order and brackets, go with xor, and none of two that are not 0 is 0.
-/
import Derived.Test.YtgoafbhhihfkfaaBase
namespace Go.Proofs.Ytgoafbhhihfkfaa
set_option linter.unusedVariables false

theorem xor_lft (a b c : Nat) : a ^^^ (b ^^^ c) = b ^^^ (a ^^^ c) := by rw [← Nat.xor_assoc, Nat.xor_comm a b, Nat.xor_assoc]
theorem xor_bck (a b : Nat) : a ^^^ (a ^^^ b) = b := by rw [← Nat.xor_assoc, Nat.xor_self, Nat.zero_xor]
theorem xor_four (a b c d : Nat) : (a ^^^ b) ^^^ (c ^^^ d) = (a ^^^ c) ^^^ (b ^^^ d) := by rw [Nat.xor_assoc, xor_lft b c d, ← Nat.xor_assoc]
/-- a block times x -/
def xT (n : Nat) : Nat := n / 2 ^^^ n % 2 * 299076299051606071403356588563077529600
/-- the product by the bits of a, from the last one on -/
def hm (a b : Nat) : Nat → Nat
  | 0 => 0
  | k + 1 => xT (hm a b k) ^^^ bif a.testBit k then b else 0
/-- the product of two blocks -/
def gm (a b : Nat) : Nat := hm a b 128
/-- a block times x, i times -/
def xI (b : Nat) : Nat → Nat
  | 0 => b
  | i + 1 => xT (xI b i)
theorem xT_zero : xT 0 = 0 := rfl
theorem xT_lt (n : Nat) (h : n < 2 ^ 128) : xT n < 2 ^ 128 := by
  unfold xT
  refine Nat.xor_lt_two_pow (n := 128) (by omega) ?_
  have : n % 2 = 0 ∨ n % 2 = 1 := by omega
  rcases this with h | h <;> rw [h] <;> decide
theorem xT_xor (a b : Nat) : xT (a ^^^ b) = xT a ^^^ xT b := by
  unfold xT
  rw [Nat.xor_div_two, xor_four]
  congr 1
  have hx : (a ^^^ b) % 2 = (a % 2 ^^^ b % 2) := Nat.xor_mod_two_pow (n := 1)
  rw [hx]
  have ha : a % 2 = 0 ∨ a % 2 = 1 := by omega
  have hb : b % 2 = 0 ∨ b % 2 = 1 := by omega
  rcases ha with h1 | h1 <;> rcases hb with h2 | h2 <;> rw [h1, h2] <;> rfl
theorem xI_xor (a b : Nat) : ∀ i, xI (a ^^^ b) i = xI a i ^^^ xI b i
  | 0 => rfl
  | i + 1 => by rw [xI, xI_xor a b i, xT_xor]; rfl
theorem xI_zero : ∀ i, xI 0 i = 0
  | 0 => rfl
  | i + 1 => by rw [xI, xI_zero i, xT_zero]
theorem xI_lt (b : Nat) (h : b < 2 ^ 128) : ∀ i, xI b i < 2 ^ 128
  | 0 => h
  | i + 1 => xT_lt _ (xI_lt b h i)
theorem xI_add (b i : Nat) : ∀ j, xI b (i + j) = xI (xI b i) j
  | 0 => rfl
  | j + 1 => by rw [← Nat.add_assoc, xI, xI_add b i j]; rfl
theorem hm_right (a b c : Nat) : ∀ k, hm a (b ^^^ c) k = hm a b k ^^^ hm a c k
  | 0 => by simp [hm]
  | k + 1 => by
    rw [hm, hm, hm, hm_right a b c k, xT_xor, xor_four]
    congr 1
    cases a.testBit k <;> simp
theorem hm_left (a b c : Nat) : ∀ k, hm (a ^^^ b) c k = hm a c k ^^^ hm b c k
  | 0 => by simp [hm]
  | k + 1 => by
    rw [hm, hm, hm, hm_left a b c k, xT_xor, xor_four]
    congr 1
    rw [Nat.testBit_xor]
    cases a.testBit k <;> cases b.testBit k <;> simp
theorem hm_lt (a b : Nat) (h : b < 2 ^ 128) : ∀ k, hm a b k < 2 ^ 128
  | 0 => by rw [hm]; decide
  | k + 1 => by
    rw [hm]
    refine Nat.xor_lt_two_pow (xT_lt _ (hm_lt a b h k)) ?_
    cases a.testBit k
    · show 0 < _; decide
    · exact h
theorem gm_right (a b c : Nat) : gm a (b ^^^ c) = gm a b ^^^ gm a c := hm_right a b c 128
theorem gm_left (a b c : Nat) : gm (a ^^^ b) c = gm a c ^^^ gm b c := hm_left a b c 128
theorem gm_lt (a b : Nat) (h : b < 2 ^ 128) : gm a b < 2 ^ 128 := hm_lt a b h 128
theorem hm_zero (b : Nat) : ∀ k, hm 0 b k = 0
  | 0 => rfl
  | k + 1 => by rw [hm, hm_zero b k, Nat.zero_testBit, xT_zero]; simp
theorem gm_zero (b : Nat) : gm 0 b = 0 := hm_zero b 128
theorem split_pow (k x : Nat) (h1 : 2 ^ k ≤ x) (hy : x - 2 ^ k < 2 ^ k) : x = 2 ^ k ^^^ (x - 2 ^ k) := by
  have h1 := Nat.two_pow_add_eq_or_of_lt (i := k) (b := x - 2 ^ k) hy 1
  apply Nat.eq_of_testBit_eq
  intro i
  rw [Nat.mul_one, Nat.add_sub_cancel' (by omega)] at h1
  rw [Nat.testBit_xor, Nat.testBit_two_pow]
  by_cases hi : k = i
  · subst hi
    rw [Nat.testBit_lt_two_pow hy, h1, Nat.testBit_or, Nat.testBit_two_pow]
    simp
  · have h2 := congrArg (fun z => Nat.testBit z i) h1
    simp only [Nat.testBit_or, Nat.testBit_two_pow] at h2
    rw [h2]
    simp [hi]
/-- what goes with xor is told by the powers of two -/
theorem ext_k (F G : Nat → Nat) (hF : ∀ x y, F (x ^^^ y) = F x ^^^ F y) (hG : ∀ x y, G (x ^^^ y) = G x ^^^ G y) : ∀ k, (∀ i, i < k → F (2 ^ i) = G (2 ^ i)) → ∀ x, x < 2 ^ k → F x = G x
  | 0, _, x, hx => by
    obtain rfl : x = 0 := by simpa using hx
    have h1 := hF 0 0
    have h2 := hG 0 0
    rw [Nat.xor_self] at h1 h2
    rw [h1, h2, Nat.xor_self, Nat.xor_self]
  | k + 1, hb, x, hx => by
    by_cases h : x < 2 ^ k
    · exact ext_k F G hF hG k (fun i hi => hb i (by omega)) x h
    · have hp : 2 ^ (k + 1) = 2 * 2 ^ k := by rw [Nat.pow_succ]; omega
      have hy : x - 2 ^ k < 2 ^ k := by omega
      have e := split_pow k x (by omega) hy
      rw [e, hF, hG, hb k (by omega), ext_k F G hF hG k (fun i hi => hb i (by omega)) _ hy]
theorem xT_pow (j : Nat) : xT (2 ^ (j + 1)) = 2 ^ j := by
  unfold xT
  rw [Nat.pow_succ, Nat.mul_mod_left, Nat.zero_mul, Nat.xor_zero, Nat.mul_div_cancel _ (by omega)]
theorem xI_top : ∀ i, i ≤ 127 → xI (2 ^ 127) i = 2 ^ (127 - i)
  | 0, _ => rfl
  | i + 1, h => by
    rw [xI, xI_top i (by omega), show 127 - i = 127 - (i + 1) + 1 by omega, xT_pow]
theorem hm_pow (j b : Nat) : ∀ k, hm (2 ^ j) b k = if j < k then xI b (k - 1 - j) else 0
  | 0 => rfl
  | k + 1 => by
    rw [hm, hm_pow j b k, Nat.testBit_two_pow]
    by_cases h1 : j < k
    · rw [if_pos h1, if_pos (by omega), decide_eq_false (by omega), show k + 1 - 1 - j = k - 1 - j + 1 by omega]
      simp [xI]
    · rw [if_neg h1, xT_zero]
      by_cases h2 : j = k
      · rw [if_pos (by omega), decide_eq_true h2, show k + 1 - 1 - j = 0 by omega]
        simp [xI]
      · rw [if_neg (by omega), decide_eq_false h2]
        simp
theorem gm_pow (j b : Nat) (h : j < 128) : gm (2 ^ j) b = xI b (127 - j) := by
  unfold gm
  rw [hm_pow, if_pos h]
theorem pow_xI (j : Nat) (h : j < 128) : 2 ^ j = xI (2 ^ 127) (127 - j) := by
  rw [xI_top _ (by omega), show 127 - (127 - j) = j by omega]
theorem gm_comm (a b : Nat) (ha : a < 2 ^ 128) (hb : b < 2 ^ 128) : gm a b = gm b a := by
  refine ext_k (fun x => gm x b) (fun x => gm b x) (fun x y => gm_left x y b) (fun x y => gm_right b x y) 128 (fun i hi => ?_) a ha
  refine ext_k (fun y => gm (2 ^ i) y) (fun y => gm y (2 ^ i)) (fun x y => gm_right _ x y) (fun x y => gm_left x y _) 128 (fun j hj => ?_) b hb
  show gm (2 ^ i) (2 ^ j) = gm (2 ^ j) (2 ^ i)
  rw [gm_pow i _ hi, gm_pow j _ hj, pow_xI j hj, pow_xI i hi, ← xI_add, ← xI_add, Nat.add_comm]
theorem xT_xI (b : Nat) : ∀ i, xI (xT b) i = xT (xI b i)
  | 0 => rfl
  | i + 1 => by rw [xI, xT_xI b i]; rfl
theorem gm_rest (b : Nat) (hb : b < 2 ^ 128) : gm 299076299051606071403356588563077529600 b = xI b 128 := by
  have e : (299076299051606071403356588563077529600 : Nat) = ((2 ^ 127 ^^^ 2 ^ 126) ^^^ 2 ^ 125) ^^^ 2 ^ 120 := by decide
  have e2 : (299076299051606071403356588563077529600 : Nat) = ((xI (2 ^ 127) 0 ^^^ xI (2 ^ 127) 1) ^^^ xI (2 ^ 127) 2) ^^^ xI (2 ^ 127) 7 := by decide
  have e3 : xI (2 ^ 127) 128 = 299076299051606071403356588563077529600 := by
    rw [show (128 : Nat) = 127 + 1 from rfl, xI, xI_top 127 (by omega)]
    rfl
  rw [e, gm_left, gm_left, gm_left, gm_pow 127 b (by omega), gm_pow 126 b (by omega), gm_pow 125 b (by omega), gm_pow 120 b (by omega)]
  refine ext_k (fun b => ((xI b 0 ^^^ xI b 1) ^^^ xI b 2) ^^^ xI b 7) (fun b => xI b 128) (fun x y => ?_) (fun x y => xI_xor x y 128) 128 (fun j hj => ?_) b hb
  · show ((xI (x ^^^ y) 0 ^^^ xI (x ^^^ y) 1) ^^^ xI (x ^^^ y) 2) ^^^ xI (x ^^^ y) 7 = _
    rw [xI_xor, xI_xor, xI_xor, xI_xor, xor_four (xI x 0), xor_four (xI x 0 ^^^ xI x 1), xor_four ((xI x 0 ^^^ xI x 1) ^^^ xI x 2)]
  · show ((xI (2 ^ j) 0 ^^^ xI (2 ^ j) 1) ^^^ xI (2 ^ j) 2) ^^^ xI (2 ^ j) 7 = xI (2 ^ j) 128
    have h9 : ∀ n, xI (2 ^ j) n = xI (xI (2 ^ 127) n) (127 - j) := fun n => by rw [pow_xI j hj, ← xI_add, ← xI_add, Nat.add_comm]
    rw [h9 0, h9 1, h9 2, h9 7, h9 128, ← xI_xor, ← xI_xor, ← xI_xor, ← e2, e3]
theorem gm_xT (a b : Nat) (ha : a < 2 ^ 128) (hb : b < 2 ^ 128) : gm (xT a) b = xT (gm a b) := by
  refine ext_k (fun x => gm (xT x) b) (fun x => xT (gm x b)) (fun x y => ?_) (fun x y => ?_) 128 (fun i hi => ?_) a ha
  · show gm (xT (x ^^^ y)) b = _
    rw [xT_xor, gm_left]
  · show xT (gm (x ^^^ y) b) = _
    rw [gm_left, xT_xor]
  · show gm (xT (2 ^ i)) b = xT (gm (2 ^ i) b)
    match i, hi with
    | 0, _ =>
      rw [gm_pow 0 b (by omega), show xT (2 ^ 0) = 299076299051606071403356588563077529600 from rfl, gm_rest b hb]
      rfl
    | i + 1, hi =>
      rw [xT_pow, gm_pow i b (by omega), gm_pow (i + 1) b hi, show 127 - i = 127 - (i + 1) + 1 by omega]
      rfl
theorem gm_xI (a b : Nat) (ha : a < 2 ^ 128) (hb : b < 2 ^ 128) : ∀ i, gm (xI a i) b = xI (gm a b) i
  | 0 => rfl
  | i + 1 => by rw [xI, gm_xT _ b (xI_lt a ha i) hb, gm_xI a b ha hb i]; rfl
theorem gm_assoc (a b c : Nat) (ha : a < 2 ^ 128) (hb : b < 2 ^ 128) (hc : c < 2 ^ 128) : gm (gm a b) c = gm a (gm b c) := by
  refine ext_k (fun x => gm (gm x b) c) (fun x => gm x (gm b c)) (fun x y => ?_) (fun x y => gm_left x y _) 128 (fun i hi => ?_) a ha
  · show gm (gm (x ^^^ y) b) c = _
    rw [gm_left, gm_left]
  · show gm (gm (2 ^ i) b) c = gm (2 ^ i) (gm b c)
    rw [gm_pow i b hi, gm_pow i _ hi, gm_xI b c hb hc]
theorem gm_one (b : Nat) : gm (2 ^ 127) b = b := gm_pow 127 b (by omega)

/-- squares -/
def sqI (a : Nat) : Nat → Nat
  | 0 => a
  | i + 1 => gm (sqI a i) (sqI a i)
theorem sqI_lt (a : Nat) (h : a < 2 ^ 128) : ∀ i, sqI a i < 2 ^ 128
  | 0 => h
  | i + 1 => gm_lt _ _ (sqI_lt a h i)
theorem sq_xor (a b : Nat) (ha : a < 2 ^ 128) (hb : b < 2 ^ 128) : gm (a ^^^ b) (a ^^^ b) = gm a a ^^^ gm b b := by
  rw [gm_left, gm_right, gm_right, gm_comm b a hb ha, Nat.xor_assoc, xor_bck]
theorem gm_four (a b c d : Nat) (ha : a < 2 ^ 128) (hb : b < 2 ^ 128) (hc : c < 2 ^ 128) (hd : d < 2 ^ 128) : gm (gm a b) (gm c d) = gm (gm a c) (gm b d) := by
  rw [gm_assoc a b _ ha hb (gm_lt c d hd), ← gm_assoc b c d hb hc hd, gm_comm b c hb hc, gm_assoc c b d hc hb hd, ← gm_assoc a c _ ha hc (gm_lt b d hd)]
theorem sqI_mul (a b : Nat) (ha : a < 2 ^ 128) (hb : b < 2 ^ 128) : ∀ i, sqI (gm a b) i = gm (sqI a i) (sqI b i)
  | 0 => rfl
  | i + 1 => by
    have h1 := sqI_lt a ha i
    have h2 := sqI_lt b hb i
    rw [sqI, sqI_mul a b ha hb i, gm_four _ _ _ _ h1 h2 h1 h2]
    rfl
theorem sqI_xor (a b : Nat) (ha : a < 2 ^ 128) (hb : b < 2 ^ 128) : ∀ i, sqI (a ^^^ b) i = sqI a i ^^^ sqI b i
  | 0 => rfl
  | i + 1 => by rw [sqI, sqI_xor a b ha hb i, sq_xor _ _ (sqI_lt a ha i) (sqI_lt b hb i)]; rfl
theorem sq_x : sqI (2 ^ 126) 128 = 2 ^ 126 := by decide +kernel
theorem sqI_one : ∀ i, sqI (2 ^ 127) i = 2 ^ 127
  | 0 => rfl
  | i + 1 => by rw [sqI, sqI_one i, gm_one]
theorem sq_pow : ∀ j, j ≤ 127 → sqI (2 ^ (127 - j)) 128 = 2 ^ (127 - j)
  | 0, _ => sqI_one 128
  | j + 1, h => by
    have e : 2 ^ (127 - (j + 1)) = gm (2 ^ 126) (2 ^ (127 - j)) := by
      rw [gm_pow 126 _ (by omega), show 127 - 126 = 0 + 1 from rfl, xI, xI, show 127 - j = 127 - (j + 1) + 1 by omega, xT_pow]
    have h2 : 2 ^ (127 - j) < 2 ^ 128 := Nat.pow_lt_pow_right (by omega) (by omega)
    rw [e, sqI_mul _ _ (by decide) h2, sq_x, sq_pow j (by omega)]
theorem add_sqI (m : Nat) : ∀ k, k ≤ 128 → ∀ x, x < 2 ^ k → sqI x 128 = x
  | 0, _, x, hx => by
    obtain rfl : x = 0 := by simpa using hx
    have : ∀ i, sqI 0 i = 0 := fun i => by
      induction i with
      | zero => rfl
      | succ i ih => rw [sqI, ih, gm_zero]
    exact this 128
  | k + 1, hk, x, hx => by
    by_cases h : x < 2 ^ k
    · exact add_sqI m k (by omega) x h
    · have hp : 2 ^ (k + 1) = 2 * 2 ^ k := by rw [Nat.pow_succ]; omega
      have hy : x - 2 ^ k < 2 ^ k := by omega
      have h8 : 2 ^ k < 2 ^ 128 := Nat.pow_lt_pow_right (by omega) (by omega)
      have e := split_pow k x (by omega) hy
      have hq := sq_pow (127 - k) (by omega)
      rw [show 127 - (127 - k) = k by omega] at hq
      have := sqI_xor (2 ^ k) (x - 2 ^ k) h8 (by omega) 128
      rw [← e, hq, add_sqI m k (by omega) _ hy, ← e] at this
      exact this
theorem sqI_all (x : Nat) (hx : x < 2 ^ 128) : sqI x 128 = x := add_sqI 0 128 (by omega) x hx
/-- a to the power 2^k - 1 -/
def pwI (a : Nat) : Nat → Nat
  | 0 => 2 ^ 127
  | k + 1 => gm (gm (pwI a k) (pwI a k)) a
theorem pwI_lt (a : Nat) (h : a < 2 ^ 128) : ∀ k, pwI a k < 2 ^ 128
  | 0 => by rw [pwI]; decide
  | k + 1 => gm_lt _ _ h
theorem pwI_mul (a : Nat) (h : a < 2 ^ 128) : ∀ k, gm (pwI a k) a = sqI a k
  | 0 => gm_one a
  | k + 1 => by
    have h1 := pwI_lt a h k
    rw [pwI, gm_assoc _ a a (gm_lt _ _ h1) h h, gm_four _ _ _ _ h1 h1 h h, pwI_mul a h k]
    rfl
/-- what undoes squares and themselves -/
def unG : List Nat := [0, 6161591008139076202154902373133594561, 71430717218983613641036104277415506289, 87518597585245962833849474628053070758, 72921817864677867521778898634038080609, 163309321578052146879237778733101511783, 126814247099887467207929949960147586332, 133487668004820722767044853458355047125, 108887185710678174598840578861931466132, 72978216601350599296199603180564021825, 126976600203468727039316187211004055892, 49689517519420395515082114066310337331, 12764899024296983899235621676887115841, 59792954277794326371429463258526948146, 275464514806027128612938827324864, 33882886127255646541338116557250298163, 133385434108064708788808215410435911893, 153238470225796905537047657204766862374, 127777348636302309636952298273557535380, 58594334107495617071392172125656399538, 5725366257701666555538562805218717057, 159324042485362592547018579093184240551, 149021274876537960721224429182834492454, 94333773739946854309780815578084996199, 161752945482599484730126084874801441767, 115575792119390728221592460023876181333, 133436244703473040169882794575366898389, 34751610155981195849944733847405496627, 100972845268357601278728964017462078439, 44935323831972008745566419208193456946, 132003651752985294974180122299820886164, 45594221442569777339127844318073854322, 100983558286137050684044238585428660711, 140308235276559149970208740923126577813, 92325303522414418149753570460923091879, 26944628100264108509229864938392397555, 81071795988965022717357904530596407232, 58275656592719279154056000246173111091, 51613027339492204128265575524803459891, 142140898696765075202304690604976981845, 53639910565545342273528145980335791795, 4726979706490419237355323591502507968, 161542955870533464563010084267448332775, 65334779303751560239471195525024588352, 122557457634345817322758110469731963540, 79569572988994598121356082874814992321, 9537274821874957483351388617584152641, 109427184872331881977228478262674814292, 96504253903287235160744645914913229863, 35809052500294759256374056413191545715, 63089105448741488643398279942380763954, 84108490886122099842324906724524496768, 161537358671016203777973217828391545831, 49921000058860506912943830473554996979, 113870918609522322281985099445019275925, 45994406431766860863727072382817147250, 6116654749483988959971426010360459777, 88394181539591460295416373139500891046, 93226277353508642900164249188457535015, 123506241354959402090274531190302866772, 72992884249465865451566362034747193217, 123492369307601207700488716387690115284, 67288019353279926038130604499846823936, 96617416833907240315124182200439430055, 6161591008139076220601646446843146177, 87518597585245962796955986480633967526, 163309321578052146805450802438263305319, 133487668004820722619470900868678634197, 72978216601350599591347508359916847681, 49689517519420396105377924425015989043, 59792954277794325190837842541115644722, 33882886127255648902521357992072905011, 153238470225796900814681174335121648678, 58594334107495626516125137864946826930, 159324042485362573657552647614603385767, 94333773739946892088712678535246705767, 115575792119390803779456185938199600469, 34751610155981346965672185676052334899, 44935323831971706514111515550899780402, 45594221442570381802037651632661207410, 140308235276560358896028355552301283989, 26944628100266526360869094196741809907, 58275656592714443450777541729474286387, 142140898696755403795747773571579332437, 4726979706471076424241489524707209152, 65334779303712874613243527391433990720, 79569572989071969373811419141996187585, 109427184872177139472317805728312423764, 35809052500604244266195401481916326771, 84108490886741069861967596861974058880, 49921000057622566873658450198655872755, 45994406429290980785156311833018898802, 88394181544543220452557894239097387942, 123506241345055881775991488991109872980, 123492369287794167071922631989304127700, 96617416873521321572256350997211405223, 87518597506017800282691648887090017190, 133487668163277047647999576055766534869, 49689517202507746048320574050840187699, 33882886761080949016636058740424507699, 58594332839845026287895736368243621554, 94333771204645691632253875541840295015, 34751615226583747878589791662865156403, 45594211301365579976202439659035564402, 26944648382676130012539518143993095923, 142140858131936196492406925677076760405, 65334698174074460006561831602428846656, 109427022612900310258954414150302135636, 84108166368187411435240813705953482624, 45993757392183663931702745520977746290, 123504943270841248069084356367027567956, 96614820725092054158442085749046795175, 133492860460135582475628106552095754965, 33893271354798018671893119733082947891, 94354540392079830942767997527157175399, 45552672926497301355174195688401803634, 142223934881672753734463413618344281941, 109593176112373424743067390032837178708, 46326064391129892899928697286047832434, 95950206727199596221990182218906622887, 32564043359013102798989312672802603315, 42894216934927469609366581567841114482, 114910088095513088234682618273958557012, 85316382760920269238759725736663866279, 64161864867486123575827494532326627698, 127851678626037577171681551665634892711, 42781086895802961305837899807692839847, 22349210433241643211303706255459310228]
def apG (y : Nat) : Nat → Nat
  | 0 => 0
  | k + 1 => apG y k ^^^ bif y.testBit k then unG.getD k 0 else 0
theorem apG_xor (x y : Nat) : ∀ k, apG (x ^^^ y) k = apG x k ^^^ apG y k
  | 0 => by simp [apG]
  | k + 1 => by
    rw [apG, apG, apG, apG_xor x y k, xor_four]
    congr 1
    rw [Nat.testBit_xor]
    cases x.testBit k <;> cases y.testBit k <;> simp
theorem apG_zero : ∀ k, apG 0 k = 0
  | 0 => rfl
  | k + 1 => by rw [apG, apG_zero k, Nat.zero_testBit]; simp
def aloneB (j : Nat) : Bool := apG (gm (2 ^ j) (2 ^ j) ^^^ 2 ^ j) 128 == if j < 127 then 2 ^ j else 0
theorem alone_all : ∀ j : Fin 128, aloneB j = true := by decide +kernel
theorem add_alone (m : Nat) : ∀ k, k ≤ 127 → ∀ x, x < 2 ^ k → apG (gm x x ^^^ x) 128 = x
  | 0, _, x, hx => by
    obtain rfl : x = 0 := by simpa using hx
    rw [gm_zero, Nat.xor_self, apG_zero]
  | k + 1, hk, x, hx => by
    by_cases h : x < 2 ^ k
    · exact add_alone m k (by omega) x h
    · have hp : 2 ^ (k + 1) = 2 * 2 ^ k := by rw [Nat.pow_succ]; omega
      have hy : x - 2 ^ k < 2 ^ k := by omega
      have h8 : 2 ^ k < 2 ^ 128 := Nat.pow_lt_pow_right (by omega) (by omega)
      have e := split_pow k x (by omega) hy
      have hq := alone_all ⟨k, by omega⟩
      simp only [aloneB, beq_iff_eq] at hq
      rw [if_pos (by omega)] at hq
      have h9 := apG_xor (gm (2 ^ k) (2 ^ k) ^^^ 2 ^ k) (gm (x - 2 ^ k) (x - 2 ^ k) ^^^ (x - 2 ^ k)) 128
      rw [xor_four, ← sq_xor _ _ h8 (by omega), ← e, hq, add_alone m k (by omega) _ hy, ← e] at h9
      exact h9
/-- who is its own square is 0 or 1 -/
theorem own_square (e : Nat) (he : e < 2 ^ 128) (h : gm e e = e) : e = 0 ∨ e = 2 ^ 127 := by
  by_cases hl : e < 2 ^ 127
  · have := add_alone 0 127 (by omega) e hl
    rw [h, Nat.xor_self, apG_zero] at this
    exact .inl this.symm
  · have hp : (2 : Nat) ^ 128 = 2 * 2 ^ 127 := by decide
    have hy : e - 2 ^ 127 < 2 ^ 127 := by omega
    have e1 := split_pow 127 e (by omega) hy
    have h2 := sq_xor (2 ^ 127) (e - 2 ^ 127) (by decide) (by omega)
    rw [← e1, h, gm_one] at h2
    have h3 : gm (e - 2 ^ 127) (e - 2 ^ 127) = e - 2 ^ 127 := by
      have h4 := congrArg (fun z => 2 ^ 127 ^^^ z) h2
      simp only [xor_bck] at h4
      rw [← h4]
      conv => lhs; rw [e1]
      rw [xor_bck]
    have := add_alone 0 127 (by omega) _ hy
    rw [h3, Nat.xor_self, apG_zero] at this
    right
    omega
/-- no two blocks that are not 0 have the product 0 -/
theorem gm_none (a b : Nat) (ha : a < 2 ^ 128) (hb : b < 2 ^ 128) (h : gm a b = 0) (h0 : b ≠ 0) : a = 0 := by
  have hq := pwI_lt b hb 127
  have hq2 := gm_lt (pwI b 127) (pwI b 127) hq
  have he := pwI_mul b hb 128
  rw [sqI_all b hb] at he
  have e1 : gm (pwI b 128) (pwI b 128) = pwI b 128 := by
    have : pwI b 128 = gm (gm (pwI b 127) (pwI b 127)) b := rfl
    rw [this] at he ⊢
    rw [gm_assoc _ b _ hq2 hb (gm_lt _ _ hb), gm_comm b _ hb (gm_lt _ _ hb), he]
  rcases own_square _ (pwI_lt b hb 128) e1 with e0 | e0
  · rw [e0, gm_zero] at he
    exact absurd he.symm h0
  · have e2 : gm (gm (pwI b 127) (pwI b 127)) b = 2 ^ 127 := e0
    have e3 := gm_assoc _ b a hq2 hb ha
    rw [e2, gm_one, gm_comm b a hb ha, h, gm_comm _ 0 hq2 (by decide), gm_zero] at e3
    exact e3
end Go.Proofs.Ytgoafbhhihfkfaa
