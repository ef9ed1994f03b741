/-
  Contracts: the program's slotsOf: a good table's entries in a map of the call's own. Contracts: the program's table out of its map: the slots collected in any order, sorted, and told. Contracts: the program's table out of its map, walked.
-/
import Derived.Test.YtbabipaipbjlbaaOwaX
import Derived.Test.YtbabipaipbjlbaaTge
import Derived.Sort.OwnSortedInts
namespace Go.Proofs.Ytbabipaipbjlbaa
open Go.ChangeShapes Go.WideShapes Go.ChangeAt Go.RowKit Go.Deep Go.Maps
set_option linter.unusedVariables false
set_option maxRecDepth 100000

/-- every text of a table is short -/
def smE (L : List EnD) : Prop := ∀ i, i < L.length → (eA L i).k.size ≤ 1048576 ∧ (eA L i).S.length ≤ 1000000 ∧ ∀ j, j < (eA L i).S.length → (aA (eA L i).S j).i.size ≤ 1048576 ∧ (aA (eA L i).S j).b.size ≤ 1048576
/-- the entry of a slot among the first k -/
def atE (L : List EnD) (s : Int) : Nat → Option EnD
  | 0 => none
  | k + 1 => if (eA L k).sl = s then some (eA L k) else atE L s k
/-- the map holds the first k entries -/
def Fk (L : List EnD) (k : Nat) (F : Int → Option EnR) : Prop := ∀ s, (F s).map (·.D) = atE L s k
theorem okT_slot (L : List EnD) : ∀ {m : Nat}, okT L m = true → ∀ i, i < m → gcB (eA L i).sl (eA L i).sv (eA L i).nc (eA L i).k.size = true ∧ (eA L i).sl < 3 ∧ (i = 0 ∨ (eA L (i - 1)).sl < (eA L i).sl)
  | 0, _, i, hi => absurd hi (Nat.not_lt_zero _)
  | m + 1, h, i, hi => by
    unfold okT at h
    simp only [Bool.and_eq_true, geB, Bool.or_eq_true, decide_eq_true_eq] at h
    by_cases e : i = m
    · subst e; exact ⟨h.2.1.1.1.1.1, h.2.1.1.1.1.2, h.2.2⟩
    · exact okT_slot L h.1 i (by omega)
theorem okT_up (L : List EnD) {m : Nat} (h : okT L m = true) : ∀ i j, i < j → j < m → (eA L i).sl < (eA L j).sl := by
  intro i j hij hj
  induction j with
  | zero => omega
  | succ j ih =>
    have h1 := (okT_slot L h (j + 1) hj).2.2
    simp at h1
    by_cases e : i = j
    · subst e; exact h1
    · exact Int.lt_trans (ih (by omega) (by omega)) h1
theorem atE_new (L : List EnD) {m : Nat} (h : okT L m = true) : ∀ k, k < m → ∀ q, q ≤ k → atE L (eA L k).sl q = none
  | k, hk, 0, _ => rfl
  | k, hk, q + 1, hq => by
    unfold atE
    rw [if_neg (by have := okT_up L h q k (by omega) hk; omega)]
    exact atE_new L h k hk q (by omega)
/-- each row with its room, no two in one block -/
structure Ra (base : Nat) (w : World) (F : Int → Option EnR) : Prop where
  ro : ∀ s r, F s = some r → Oa base w (.slice r.ra r.D.S.length r.cap) r.D.S
  ne : ∀ s t r q, s ≠ t → F s = some r → F t = some q → r.ra = none ∨ r.ra ≠ q.ra
theorem Ra.below {base : Nat} {w w' : World} {F : Int → Option EnR} (h : Ra base w F) (hb : Below w.heap.size w w') : Ra base w' F := ⟨fun s r e => (h.ro s r e).below hb, h.ne⟩
theorem Oa.at {base : Nat} {w : World} {a : Option Addr} {n cap : Nat} {L : List AlD} (h : Oa base w (.slice a n cap) L) : a = none ∨ ∃ g, a = some ⟨g, 0, none⟩ ∧ base ≤ g ∧ g < w.heap.size := by
  rcases h.2 with ⟨e, _⟩ | ⟨g, cap, cur, e, hb, hg, _⟩
  · injection e with e; exact Or.inl e
  · injection e with e; exact Or.inr ⟨g, e, hb, (Array.getElem?_eq_some_iff.1 hg).1⟩
theorem Oa.off {base : Nat} {w : World} {v : Value} {L : List AlD} (h : Oa base w v L) {b n : Nat} {F : Int → Option EnR} (hm : Mg w b n F) : v.ownBlock ≠ some b := by
  intro e
  obtain ⟨es, c, hmap⟩ := hm.isMap
  rcases h.2 with ⟨rfl, _⟩ | ⟨g, cap, cur, rfl, _, hg, _⟩
  · cases e
  · injection e with e
    have e' : g = b := e
    rw [e', hmap] at hg
    cases hg
theorem Oa.turn {base : Nat} {w w' : World} {v : Value} {L : List AlD} (h : Oa base w v L) {b n : Nat} {F : Int → Option EnR} (hm : Mg w b n F) (hg : w.grownBy w' (some b)) : Oa base w' v L := World.ownsRow.kept h hg (Or.inr (h.off hm))
theorem Ra.put {base : Nat} {w w' : World} {b n : Nat} {F : Int → Option EnR} (h : Ra base w F) (hm : Mg w b n F) (hg : w.grownBy w' (some b)) (s : Int) (r : EnR) (hr : Oa base w (.slice r.ra r.D.S.length r.cap) r.D.S) (hne : ∀ t q, F t = some q → r.ra = none ∨ r.ra ≠ q.ra) : Ra base w' (putF F s (some r)) := by
  refine ⟨fun t q e => ?_, fun t u q p htu ht hu => ?_⟩
  · unfold putF at e
    by_cases e1 : t = s
    · rw [if_pos e1] at e; injection e with e; subst e; exact hr.turn hm hg
    · rw [if_neg e1] at e; exact (h.ro t q e).turn hm hg
  · unfold putF at ht hu
    by_cases e1 : t = s
    · have e2 : ¬ u = s := fun e => htu (by rw [e1, e])
      rw [if_pos e1] at ht
      rw [if_neg e2] at hu
      injection ht with ht
      subst ht
      exact hne u p hu
    · rw [if_neg e1] at ht
      by_cases e2 : u = s
      · rw [if_pos e2] at hu
        injection hu with hu
        subst hu
        rcases hne t q ht with x | x
        · by_cases y : q.ra = none
          · exact Or.inl y
          · exact Or.inr (by rw [x]; exact y)
        · exact Or.inr (fun e => x e.symm)
      · rw [if_neg e2] at hu
        exact h.ne t u q p htu ht hu
theorem Oa.mono {base base' : Nat} {w : World} {v : Value} {L : List AlD} (h : Oa base w v L) (hb : base' ≤ base) : Oa base' w v L := ⟨h.1, h.2.imp id fun ⟨g, cap, cur, e, h1, h2⟩ => ⟨g, cap, cur, e, Nat.le_trans hb h1, h2⟩⟩
/-- the map holds what it must -/
def Ms (base : Nat) (w wr : World) (mb : Nat) (L : List EnD) (k : Nat) : Prop := ∃ F B, Mo base wr mb k F B ∧ Fk L k F ∧ (∀ s r, F s = some r → r.D.S ≠ [] → B s < wr.heap.size) ∧ Ra base wr F
end Go.Proofs.Ytbabipaipbjlbaa
namespace Go.Proofs.Ytbabipaipbjlbaa
open Go.ChangeShapes Go.WideShapes Go.ChangeAt Go.RowKit Go.Deep Go.Maps
set_option linter.unusedVariables false
set_option maxRecDepth 100000

theorem Try.infoIn : (Try.prog.info? 3).map (fun i => (i.zero, i.size, i.bytes)) = some (some (.int .i64 0), 1, 8) := by kernel_rfl
/-- numbers of the call's own -/
def On (base : Nat) (w : World) (v : Value) (ks : List Int) : Prop := w.ownsRow base 3 1 v ks.length (ks.map (Value.int .i64))
theorem On.nil (base : Nat) (w : World) : On base w (.slice none 0 0) [] := World.ownsRow_nil _ _ _ _
theorem On.blk {base : Nat} {w : World} {v : Value} {ks : List Int} (h : On base w v ks) : ∀ k, v.ownBlock = some k → base ≤ k := fun k e => (World.ownsRow.lt h k e).1
theorem On.below {base : Nat} {w w' : World} {v : Value} {ks : List Int} (h : On base w v ks) (hb : Below w.heap.size w w') : On base w' v ks := by
  refine ⟨h.1, ?_⟩
  rcases h.2 with hn | ⟨g, cap, cur, rfl, hg, hgg, rest⟩
  · exact .inl hn
  · exact .inr ⟨g, cap, cur, rfl, hg, (hb.block g (Array.getElem?_eq_some_iff.1 hgg).1).trans hgg, rest⟩
theorem appN (w : World) (ty : TypeId) (base : Nat) (v : Value) (ks : List Int) (hown : On base w v ks) (x : Int) (hb : ks.length + 1 ≤ 1048576) (hbase : base ≤ w.heap.size) :
    ∃ v' w', (Builtin.append_ #[47, 47] ty #[v, .slice (some ⟨w.heap.size, 0, none⟩) 1 1]).run Try.prog (w.alloc (.cells #[.int .i64 x] 3)) = .ok v' w' ∧ On base w' v' (ks ++ [x]) ∧ (w.alloc (.cells #[.int .i64 x] 3)).grownBy w' v.ownBlock := by
  obtain ⟨i0, hi, hz0, hz1, hz2⟩ := info_parts Try.infoIn
  obtain ⟨v', w', h1, h2, h3, h4⟩ := app_any (w.alloc (.cells #[.int .i64 x] 3)) 47 ty base 3 i0 _ 1 8 Try.underlying47 hi hz0 hz1 hz2 rfl (by decide) v ks.length _ (hown.below ((Below.refl _ _).alloc (Nat.le_refl _) _)) (some ⟨w.heap.size, 0, none⟩) 1 1 [.int .i64 x] rfl (Or.inr ⟨_, rfl, fun j u hu => by rw [add_none, (Bx.new w [.int .i64 x] 3).cv, Nat.zero_add]; exact hu⟩) (fun u hu => by simp at hu; subst hu; rfl) (by unfold maxLen; omega) (by omega) (by simp; omega)
  refine ⟨v', w', h1, ?_, h3⟩
  unfold On
  rw [List.length_append, List.map_append]
  exact h2
/-- slots met so far -/
structure Col (Dm : DataW Value) (left : Lit → Bool) (ks : List Int) : Prop where
  nd : ks.Nodup
  c2 : ∀ s ∈ ks, Maps.has Dm (kI s) = true ∧ left (kI s) = false
  c3 : ∀ s, Maps.has Dm (kI s) = true → left (kI s) = true ∨ s ∈ ks
theorem Col.start (Dm : DataW Value) : Col Dm (Maps.has Dm) [] := ⟨List.nodup_nil, fun s h => (by cases h), fun s h => Or.inl h⟩
theorem Col.step {Dm : DataW Value} {left : Lit → Bool} {ks : List Int} (h : Col Dm left ks) {x : Int} {y : DataW Value} (hl : left (kI x) = true) (hat : ∀ zd, Dm.atKey (kI x) zd = y) : Col Dm (fun z => left z && !z.sameKey (kI x)) (ks ++ [x]) := by
  have hx : x ∉ ks := fun q => by have := (h.c2 x q).2; rw [hl] at this; cases this
  have ss : ∀ s, (kI s).sameKey (kI x) = decide (s = x) := fun s => by
    by_cases e : s = x
    · subst e; rw [decide_eq_true rfl]; exact WideAt.sameKey_self (show WideAt.IsKeyLit (kI s) from trivial)
    · rw [decide_eq_false e]; exact sameKey_ne (by intro q; injection q with _ q; exact e q)
  refine ⟨List.nodup_append.2 ⟨h.nd, by simp, fun a ha b hb => by simp at hb; subst hb; exact fun e => hx (e ▸ ha)⟩, fun s hs => ?_, fun s hs => ?_⟩
  · rcases List.mem_append.1 hs with hs | hs
    · refine ⟨(h.c2 s hs).1, ?_⟩
      simp only [(h.c2 s hs).2, Bool.false_and]
    · simp at hs
      subst hs
      refine ⟨has_true_of_atKey hat, ?_⟩
      simp only [ss, decide_true, Bool.not_true, Bool.and_false]
  · by_cases e : s = x
    · exact Or.inr (by subst e; simp)
    · rcases h.c3 s hs with q | q
      · left
        simp only [q, ss, decide_eq_false e, Bool.not_false, Bool.and_true]
      · exact Or.inr (List.mem_append.2 (Or.inl q))
/-- rising slots -/
def upL (L : List EnD) : Prop := L.Pairwise fun a b => a.sl < b.sl
abbrev leI (x y : Int) : Bool := decide (x ≤ y)
/-- the slots, sorted, are those of the rising list -/
theorem sorted_slots {L : List EnD} (hu : upL L) {ks : List Int} (hnd : ks.Nodup) (hm : ∀ s, s ∈ ks ↔ ∃ e ∈ L, e.sl = s) : ks.mergeSort leI = L.map (·.sl) := by
  have hp : (L.map (·.sl)).Pairwise (· < ·) := by rw [List.pairwise_map]; exact hu
  have hnd2 : (L.map (·.sl)).Nodup := hp.imp (fun h => by intro e; rw [e] at h; exact Int.lt_irrefl _ h)
  have hperm : ks.Perm (L.map (·.sl)) := (List.perm_ext_iff_of_nodup hnd hnd2).2 fun s => by
    rw [hm s, List.mem_map]
  have tr : ∀ a b c : Int, leI a b = true → leI b c = true → leI a c = true := fun a b c h1 h2 => by simp only [leI, decide_eq_true_eq] at *; omega
  have tot : ∀ a b : Int, (leI a b || leI b a) = true := fun a b => by simp only [leI, Bool.or_eq_true, decide_eq_true_eq]; omega
  refine List.Perm.eq_of_pairwise (le := fun a b => leI a b = true) (fun a b _ _ h1 h2 => ?_) (List.pairwise_mergeSort tr tot ks) (hp.imp fun h => by simp only [leI, decide_eq_true_eq]; omega) ((List.mergeSort_perm ks leI).trans hperm)
  simp only [leI, decide_eq_true_eq] at h1 h2
  omega
end Go.Proofs.Ytbabipaipbjlbaa
namespace Go.Proofs.Ytbabipaipbjlbaa
open Go.ChangeShapes Go.WideShapes Go.ChangeAt Go.RowKit Go.Deep Go.Maps Go.Sort
set_option linter.unusedVariables false
set_option maxRecDepth 100000

/-- what the map tells of a rising list -/
def FL (F : Int → Option EnR) (L : List EnD) : Prop := (∀ s, (F s).isSome = true ↔ ∃ e ∈ L, e.sl = s) ∧ ∀ e ∈ L, ∃ r, F e.sl = some r ∧ r.D = e
theorem rA_map (R : List EnR) (L : List EnD) (h : R.map (·.D) = L) : R.length = L.length ∧ ∀ i, i < L.length → (rA R i).D = eA L i ∧ rA R i ∈ R := by
  subst h
  refine ⟨by simp, fun i hi => ?_⟩
  have hi' : i < R.length := by simpa using hi
  exact ⟨by simp [eA, rA, List.getD, List.getElem?_map, List.getElem?_eq_getElem hi'], by simp [rA, List.getD, List.getElem?_eq_getElem hi']⟩
theorem up_lt {L : List EnD} (hu : upL L) (i j : Nat) (hij : i < j) (hj : j < L.length) : (eA L i).sl < (eA L j).sl := by
  have h := List.pairwise_iff_getElem.1 hu i j (by omega) hj hij
  simpa [eA, List.getD, List.getElem?_eq_getElem hj, List.getElem?_eq_getElem (show i < L.length by omega)] using h
theorem oe_en {base base0 : Nat} {w : World} {v : Value} {R : List EnR} {F : Int → Option EnR} {B : Int → Nat} {b n : Nat} {L : List EnD} (hO : Oe base0 w v R) (hb : base ≤ base0) (hM : Mo base w b n F B)
    (hlow : ∀ s r, F s = some r → r.D.S ≠ [] → B s < base0) (hR : ∀ r ∈ R, F r.D.sl = some r) (hL : R.map (·.D) = L) (hu : upL L) : ∃ a cap, v = .slice a L.length cap ∧ En base w a L := by
  obtain ⟨hlen, hat⟩ := rA_map R L hL
  obtain ⟨a, cap, rfl, hc, h⟩ := hO.form
  refine ⟨a, cap, by rw [hlen], ?_⟩
  rcases h with rfl | ⟨g, rfl, hg, hgl, hfz, hce⟩
  · exact Or.inl (by rw [← hL]; rfl)
  · refine Or.inr ⟨g, fun i => B (eA L i).sl, rfl, Nat.le_trans hb hg, hgl, hfz, fun i hi => ?_, fun i j hij hj h1 h2 => ?_⟩
    · obtain ⟨e, hm⟩ := hat i hi
      have hF := hR _ hm
      have h1 := hce i (by omega)
      have h2 := hM.ro _ _ hF
      rw [e] at h1 h2
      refine ⟨_, _, h1, h2.1, ?_⟩
      by_cases hS : (eA L i).S = []
      · exact Or.inl hS
      · rcases h2.2 with x | ⟨x, y⟩
        · exact Or.inl x
        · have := hlow _ _ hF (by rw [e]; exact hS)
          rw [e] at this
          exact Or.inr ⟨x, by omega, y⟩
    · obtain ⟨ei, hmi⟩ := hat i (by omega)
      obtain ⟨ej, hmj⟩ := hat j hj
      have hFi := hR _ hmi
      have hFj := hR _ hmj
      have hlt := up_lt hu i j hij hj
      have := hM.ne _ _ _ _ (by rw [ei, ej]; omega) hFi hFj (by rw [ei]; exact h1) (by rw [ej]; exact h2)
      rw [ei, ej] at this
      exact this
theorem take_map (L : List EnD) (k : Nat) (h : k < L.length) : L.take k ++ [eA L k] = L.take (k + 1) := by
  rw [List.take_add_one, List.getElem?_eq_getElem h]
  simp [eA, List.getD, List.getElem?_eq_getElem h]
theorem sc_en (w : World) (r : EnR) (T : TypeId) : Sc (w.alloc (.cells #[.int .i64 r.D.sl, .int .i64 r.D.sv, .int .i64 r.D.nc, .string r.D.k, .bool r.D.t, .slice r.ra r.D.S.length r.cap, .int .i64 r.D.nx] T)) (some ⟨w.heap.size, 0, none⟩) [r].length (enC [r]) := by
  refine Or.inr ⟨_, rfl, fun j u hu => ?_⟩
  rw [add_none]
  have := (Bx.new w [.int .i64 r.D.sl, .int .i64 r.D.sv, .int .i64 r.D.nc, .string r.D.k, .bool r.D.t, .slice r.ra r.D.S.length r.cap, .int .i64 r.D.nx] T).cv (0 + j)
  rw [this, Nat.zero_add]
  exact hu
theorem On.form {base : Nat} {w : World} {v : Value} {L : List EnD} (h : On base w v (L.map (·.sl))) : ∃ a cap, v = .slice a L.length cap ∧ (L = [] ∨ ∃ g, a = some ⟨g, 0, none⟩ ∧ g < w.heap.size ∧ ∀ i, i < L.length → w.cell? ⟨g, i, none⟩ = some (.int .i64 (eA L i).sl)) := by
  rcases h.2 with ⟨rfl, e⟩ | ⟨g, cap, cur, rfl, hb, hg, hnc, _⟩
  · have e' : L.length = 0 := by simpa using e
    exact ⟨none, 0, by rw [e'], Or.inl (List.length_eq_zero_iff.1 e')⟩
  · refine ⟨_, cap, by rw [List.length_map], Or.inr ⟨g, rfl, (Array.getElem?_eq_some_iff.1 hg).1, fun i hi => ?_⟩⟩
    rw [World.ownsRow.cellAt h i (by simpa using hi)]
    simp [eA, List.getD, List.getElem?_eq_getElem hi]
end Go.Proofs.Ytbabipaipbjlbaa
