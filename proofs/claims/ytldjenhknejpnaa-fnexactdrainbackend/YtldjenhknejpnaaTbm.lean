/-
  Contracts: the program's table out of its map: the slots collected in any order, sorted, and told.
-/
import Derived.Test.YtldjenhknejpnaaSlo
import Derived.Sort.OwnSortedInts
namespace Go.Proofs.Ytldjenhknejpnaa
open Go.ChangeShapes Go.WideShapes Go.ChangeAt Go.RowKit Go.Deep Go.Maps
set_option linter.unusedVariables false
set_option maxRecDepth 100000

theorem Try.infoIn : (Try.prog.info? 3).map (fun i => (i.zero, i.size, i.bytes)) = some (some (.int .i64 0), 1, 8) := by kernel_rfl
/-- numbers of the call's own -/
def On (base : Nat) (w : World) (v : Value) (ks : List Int) : Prop := w.ownsRow base 3 1 v ks.length (ks.map (Value.int .i64))
theorem On.nil (base : Nat) (w : World) : On base w (.slice none 0 0) [] := World.ownsRow_nil _ _ _ _
theorem On.blk {base : Nat} {w : World} {v : Value} {ks : List Int} (h : On base w v ks) : ∀ k, v.ownBlock = some k → base ≤ k := fun k e => (World.ownsRow.lt h k e).1
theorem On.below {base : Nat} {w w' : World} {v : Value} {ks : List Int} (h : On base w v ks) (hb : Below w.heap.size w w') : On base w' v ks := by
  refine ⟨h.1, ?_⟩
  rcases h.2 with hn | ⟨g, cap, cur, rfl, hg, hgg, rest⟩
  · exact .inl hn
  · exact .inr ⟨g, cap, cur, rfl, hg, (hb.block g (Array.getElem?_eq_some_iff.1 hgg).1).trans hgg, rest⟩
theorem appN (w : World) (ty : TypeId) (base : Nat) (v : Value) (ks : List Int) (hown : On base w v ks) (x : Int) (hb : ks.length + 1 ≤ 1048576) (hbase : base ≤ w.heap.size) :
    ∃ v' w', (Builtin.append_ #[85, 85] ty #[v, .slice (some ⟨w.heap.size, 0, none⟩) 1 1]).run Try.prog (w.alloc (.cells #[.int .i64 x] 3)) = .ok v' w' ∧ On base w' v' (ks ++ [x]) ∧ (w.alloc (.cells #[.int .i64 x] 3)).grownBy w' v.ownBlock := by
  obtain ⟨i0, hi, hz0, hz1, hz2⟩ := info_parts Try.infoIn
  obtain ⟨v', w', h1, h2, h3, h4⟩ := app_any (w.alloc (.cells #[.int .i64 x] 3)) 85 ty base 3 i0 _ 1 8 Try.underlying85 hi hz0 hz1 hz2 rfl (by decide) v ks.length _ (hown.below ((Below.refl _ _).alloc (Nat.le_refl _) _)) (some ⟨w.heap.size, 0, none⟩) 1 1 [.int .i64 x] rfl (Or.inr ⟨_, rfl, fun j u hu => by rw [add_none, (Bx.new w [.int .i64 x] 3).cv, Nat.zero_add]; exact hu⟩) (fun u hu => by simp at hu; subst hu; rfl) (by unfold maxLen; omega) (by omega) (by simp; omega)
  refine ⟨v', w', h1, ?_, h3⟩
  unfold On
  rw [List.length_append, List.map_append]
  exact h2
/-- slots met so far -/
structure Col (Dm : DataW Value) (left : Lit → Bool) (ks : List Int) : Prop where
  nd : ks.Nodup
  c2 : ∀ s ∈ ks, Maps.has Dm (kI s) = true ∧ left (kI s) = false
  c3 : ∀ s, Maps.has Dm (kI s) = true → left (kI s) = true ∨ s ∈ ks
theorem Col.start (Dm : DataW Value) : Col Dm (Maps.has Dm) [] := ⟨List.nodup_nil, fun s h => (by cases h), fun s h => Or.inl h⟩
theorem Col.step {Dm : DataW Value} {left : Lit → Bool} {ks : List Int} (h : Col Dm left ks) {x : Int} {y : DataW Value} (hl : left (kI x) = true) (hat : ∀ zd, Dm.atKey (kI x) zd = y) : Col Dm (fun z => left z && !z.sameKey (kI x)) (ks ++ [x]) := by
  have hx : x ∉ ks := fun q => by have := (h.c2 x q).2; rw [hl] at this; cases this
  have ss : ∀ s, (kI s).sameKey (kI x) = decide (s = x) := fun s => by
    by_cases e : s = x
    · subst e; rw [decide_eq_true rfl]; exact WideAt.sameKey_self (show WideAt.IsKeyLit (kI s) from trivial)
    · rw [decide_eq_false e]; exact sameKey_ne (by intro q; injection q with _ q; exact e q)
  refine ⟨List.nodup_append.2 ⟨h.nd, by simp, fun a ha b hb => by simp at hb; subst hb; exact fun e => hx (e ▸ ha)⟩, fun s hs => ?_, fun s hs => ?_⟩
  · rcases List.mem_append.1 hs with hs | hs
    · refine ⟨(h.c2 s hs).1, ?_⟩
      simp only [(h.c2 s hs).2, Bool.false_and]
    · simp at hs
      subst hs
      refine ⟨has_true_of_atKey hat, ?_⟩
      simp only [ss, decide_true, Bool.not_true, Bool.and_false]
  · by_cases e : s = x
    · exact Or.inr (by subst e; simp)
    · rcases h.c3 s hs with q | q
      · left
        simp only [q, ss, decide_eq_false e, Bool.not_false, Bool.and_true]
      · exact Or.inr (List.mem_append.2 (Or.inl q))
/-- rising slots -/
def upL (L : List EnD) : Prop := L.Pairwise fun a b => a.sl < b.sl
abbrev leI (x y : Int) : Bool := decide (x ≤ y)
/-- the slots, sorted, are those of the rising list -/
theorem sorted_slots {L : List EnD} (hu : upL L) {ks : List Int} (hnd : ks.Nodup) (hm : ∀ s, s ∈ ks ↔ ∃ e ∈ L, e.sl = s) : ks.mergeSort leI = L.map (·.sl) := by
  have hp : (L.map (·.sl)).Pairwise (· < ·) := by rw [List.pairwise_map]; exact hu
  have hnd2 : (L.map (·.sl)).Nodup := hp.imp (fun h => by intro e; rw [e] at h; exact Int.lt_irrefl _ h)
  have hperm : ks.Perm (L.map (·.sl)) := (List.perm_ext_iff_of_nodup hnd hnd2).2 fun s => by
    rw [hm s, List.mem_map]
  have tr : ∀ a b c : Int, leI a b = true → leI b c = true → leI a c = true := fun a b c h1 h2 => by simp only [leI, decide_eq_true_eq] at *; omega
  have tot : ∀ a b : Int, (leI a b || leI b a) = true := fun a b => by simp only [leI, Bool.or_eq_true, decide_eq_true_eq]; omega
  refine List.Perm.eq_of_pairwise (le := fun a b => leI a b = true) (fun a b _ _ h1 h2 => ?_) (List.pairwise_mergeSort tr tot ks) (hp.imp fun h => by simp only [leI, decide_eq_true_eq]; omega) ((List.mergeSort_perm ks leI).trans hperm)
  simp only [leI, decide_eq_true_eq] at h1 h2
  omega
end Go.Proofs.Ytldjenhknejpnaa
