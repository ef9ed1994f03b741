/-
  Contracts: a server put into the program's map of entries.
-/
import Derived.Test.YthgogkimjhjepaaIsb
import Derived.Test.YthgogkimjhjepaaRmc
import Derived.Deep.RegionLaw
namespace Go.Proofs.Ythgogkimjhjepaa
open Go.ChangeShapes Go.WideShapes Go.ChangeAt Go.RowKit Go.Deep Go.Maps
set_option linter.unusedVariables false
set_option maxRecDepth 100000

/-- an id or a backend that is there -/
def tw (S : List AlD) (id bk : ByteArray) : Prop := ∃ j, j < S.length ∧ ((aA S j).i = id ∨ (aA S j).b = bk)
theorem bq_str (x y : ByteArray) : (x.toList == y.toList) = true ↔ x = y := by
  rw [beq_iff_eq, ByteArray.toList_eq, ByteArray.toList_eq]
  exact ⟨fun h => Go.WideShapes.bytes_inj h, fun h => by rw [h]⟩
theorem hasB_iff (S : List AlD) (bk : ByteArray) : ∀ n, hasB S bk n = true ↔ ∃ j, j < n ∧ (aA S j).b = bk
  | 0 => ⟨fun h => (by cases h), fun ⟨j, h, _⟩ => absurd h (Nat.not_lt_zero _)⟩
  | n + 1 => by
    rw [hasB, Bool.or_eq_true, hasB_iff S bk n, bq_str]
    constructor
    · rintro (⟨j, h1, h2⟩ | h)
      · exact ⟨j, by omega, h2⟩
      · exact ⟨n, by omega, h⟩
    · rintro ⟨j, h1, h2⟩
      by_cases e : j = n
      · exact Or.inr (e ▸ h2)
      · exact Or.inl ⟨j, by omega, h2⟩
theorem plP_le {S : List AlD} (x : ByteArray) : plP S x ≤ S.length := by
  unfold plP
  have : ∀ f lo hi, lo ≤ hi → Lib.bsGo (plL S x) f lo hi ≤ hi := by
    intro f
    induction f with
    | zero => intro lo hi h; rw [Lib.bsGo]; exact h
    | succ f ih =>
      intro lo hi h
      rw [Lib.bsGo]
      split
      · split
        · exact ih _ _ (by omega)
        · exact Nat.le_trans (ih _ _ (by omega)) (by omega)
      · exact h
  exact this _ _ _ (Nat.zero_le _)
theorem plH_iff {S : List AlD} {sv : Int} (h : gsB S sv = true) (x : ByteArray) : plH S x = true ↔ ∃ j, j < S.length ∧ (aA S j).i = x := by
  unfold plH
  rw [Bool.and_eq_true, decide_eq_true_eq, beq_iff_eq, cp_eq]
  constructor
  · rintro ⟨h1, h2⟩; exact ⟨_, h1, h2⟩
  · rintro ⟨j, h1, h2⟩
    have e : plP S x = j := pl_is h x (by omega) (fun t ht => by rw [← h2]; exact gs_lt h ht h1) (fun _ => by rw [h2]; exact bl_ir _)
    rw [e]; exact ⟨h1, h2⟩
theorem tw_iff {S : List AlD} {sv : Int} (h : gsB S sv = true) (id bk : ByteArray) : tw S id bk ↔ (plH S id = true ∨ hasB S bk S.length = true) := by
  rw [plH_iff h, hasB_iff]
  unfold tw
  constructor
  · rintro ⟨j, h1, h2 | h2⟩
    · exact Or.inl ⟨j, h1, h2⟩
    · exact Or.inr ⟨j, h1, h2⟩
  · rintro (⟨j, h1, h2⟩ | ⟨j, h1, h2⟩)
    · exact ⟨j, h1, Or.inl h2⟩
    · exact ⟨j, h1, Or.inr h2⟩
/-- how alloc refuses -/
def alC1 (g th sz pH hB fu : Bool) (c : Int) : Prop :=
  (g = false ∧ c = 1) ∨ (g = true ∧ th = false ∧ c = 2) ∨ (g = true ∧ th = true ∧ sz = false ∧ c = 1) ∨ (g = true ∧ th = true ∧ sz = true ∧ pH = true ∧ c = 3) ∨ (g = true ∧ th = true ∧ sz = true ∧ pH = false ∧ hB = true ∧ c = 3) ∨ (g = true ∧ th = true ∧ sz = true ∧ pH = false ∧ hB = false ∧ fu = true ∧ c = 4)
set_option maxHeartbeats 4000000 in
theorem alEarly (b : Nat) (s sl sv nc nx : Int) (k : ByteArray) (t : Bool) (ra : Option Addr) (cap : Nat) (S : List AlD) (th : Bool) (id bk : ByteArray) (c : Int) (w : World) (hN : S.length ≤ 1000) (hid : id.size ≤ 1048576) (hbk : bk.size ≤ 1048576)
    (hlook : (Instr.lookup 48 (.map (some b)) (.int .i64 s) true).run Try.prog w = .ok (.tuple #[.agg #[.int .i64 sl, .int .i64 sv, .int .i64 nc, .string k, .bool t, .slice ra S.length cap, .int .i64 nx], .bool th]) w)
    (hA : Aa w ra S) (hc : alC1 (bkB bk) th (decide ((id.size : Int) = sv)) (plH S id) (hasB S bk S.length) (decide (S.length = 12)) c) :
    Calls Try.prog 18 #[.map (some b), .int .i64 s, .string id, .string bk] w fun e w' => e = .returned (.int .i64 c) ∧ Below w.heap.size w w' := by
  have A1 : Below w.heap.size w (w.alloc (.cells #[.int .i64 sl, .int .i64 sv, .int .i64 nc, .string k, .bool t, .slice ra S.length cap, .int .i64 nx] 43)) := (Below.refl _ _).alloc (Nat.le_refl _) _
  have X1 : Bx (w.alloc (.cells #[.int .i64 sl, .int .i64 sv, .int .i64 nc, .string k, .bool t, .slice ra S.length cap, .int .i64 nx] 43)) w.heap.size [.int .i64 sl, .int .i64 sv, .int .i64 nc, .string k, .bool t, .slice ra S.length cap, .int .i64 nx] := Bx.new w _ _
  have HP := hide (plcOf ra cap S id _ (by omega) (hA.below A1))
  have HS : Hid (∀ W, Below w.heap.size w W → Calls Try.prog 31 #[.slice ra S.length cap, .string bk] W fun e w' => e = .returned (.tuple #[.string (idB S bk S.length), .bool (hasB S bk S.length)]) ∧ Below W.heap.size W w') := fun W hW => srvOf ra S.length cap S bk W (Nat.le_refl _) (by omega) (hA.below hW)
  have HG := hide (fun W => implGB bk W (by unfold maxLen; omega))
  have HB1 := hide A1
  have HX1 := hide X1
  have x1 := X1.cv
  clear hA A1 X1
  obtain ⟨n, hn⟩ : ∃ n, S.length = n := ⟨_, rfl⟩
  rw [hn] at hlook hc HP HS HB1 HX1 x1 hN
  have HC := hide hc
  clear hc hn
  generalize plP S id = p at *
  generalize plH S id = pH at *
  generalize hasB S bk n = hB at *
  generalize idB S bk n = ib at *
  generalize bkB bk = g at *
  go_enter Try.func18, Try.ntmps18
  go_wp2_with fail
  generalize w.alloc (.cells #[.int .i64 sl, .int .i64 sv, .int .i64 nc, .string k, .bool t, .slice ra n cap, .int .i64 nx] 43) = W1 at *
  refine (unhide HP).mono ?_
  rintro e w2 ⟨rfl, b2⟩
  have X2 := (unhide HX1).below b2
  have B2 := (unhide HB1).trans (b2.mono (unhide HB1).size)
  have HX2 := hide X2
  have HB2 := hide B2
  have x2 := X2.cv
  clear b2 X2 B2 x1 HX1 HB1 HP
  go_wp2_with fail
  refine (unhide HS _ (unhide HB2)).mono ?_
  rintro e w3 ⟨rfl, b3⟩
  have X3 := (unhide HX2).below b3
  have B3 := (unhide HB2).trans (b3.mono (unhide HB2).size)
  have HX3 := hide X3
  have HB3 := hide B3
  clear b3 X3 B3 x2 HX2 HB2 HS
  go_wp2_with fail
  refine (unhide HG _).mono ?_
  rintro e w4 ⟨rfl, e4⟩
  rw [e4]
  clear e4 w4
  have x3 := (unhide HX3).cv
  rcases unhide HC with ⟨h1, h2⟩ | ⟨h1, h2, h3⟩ | ⟨h1, h2, h3, h4⟩ | ⟨h1, h2, h3, h4, h5⟩ | ⟨h1, h2, h3, h4, h5, h6⟩ | ⟨h1, h2, h3, h4, h5, h6, h7⟩
  · subst h1 h2
    clear HC
    go_wp2
    go_ret
    exact ⟨rfl, unhide HB3⟩
  · subst h1 h2 h3
    clear HC
    go_wp2
    go_ret
    exact ⟨rfl, unhide HB3⟩
  · have q3 := of_decide_eq_false h3
    subst h1 h2 h4
    clear HC h3
    go_wp2
    go_ret
    exact ⟨rfl, unhide HB3⟩
  · have q3 := of_decide_eq_true h3
    subst h1 h2 h4 h5
    clear HC h3
    go_wp2
    go_ret
    exact ⟨rfl, unhide HB3⟩
  · have q3 := of_decide_eq_true h3
    subst h1 h2 h4 h5 h6
    clear HC h3
    go_wp2
    go_ret
    exact ⟨rfl, unhide HB3⟩
  · have q3 := of_decide_eq_true h3
    have q6 := of_decide_eq_true h6
    subst h1 h2 h4 h5 h7 q6
    clear HC h3 h6
    go_wp2
    go_ret
    exact ⟨rfl, unhide HB3⟩
/-- a row of the map has been put anew, all others are as they were -/
theorem Mo.ins {base : Nat} {w w7 w8 : World} {b n n' : Nat} {F : Int → Option EnR} {B : Int → Nat} {s : Int} {r r' : EnR} (hM : Mo base w b n F B) (hRa : Ra base w F) (hr : F s = some r) (hG : w.grownBy w7 (Value.slice r.ra r.D.S.length r.cap).ownBlock) (hg8 : w7.grownBy w8 (some b))
    (hm8 : Mg w8 b n' (putF F s (some r'))) (g' : Nat) (hra : r'.ra = some ⟨g', 0, none⟩) (hO : Oa base w7 (.slice r'.ra r'.D.S.length r'.cap) r'.D.S) (hbl : r'.ra = r.ra ∨ w.heap.size ≤ g') : Mo base w8 b n' (putF F s (some r')) (fun t => if t = s then g' else B t) := by
  have hm7 : Mg w7 b n F := hM.mp.kept hG (fun e => (hRa.ro s r hr).off hM.mp e.symm)
  refine ⟨hM.ge, hm8, fun t q e => ?_, fun t u q p htu ht hu h1 h2 => ?_⟩
  · unfold putF at e
    by_cases e1 : t = s
    · rw [if_pos e1] at e
      injection e with e
      subst e
      have hO8 := hO.turn hm7 hg8
      obtain ⟨_, hcp, _⟩ := hO8.aa
      refine ⟨hcp, ?_⟩
      obtain ⟨a', c', e', _, h⟩ := hO8.form
      injection e' with e1'
      rcases h with h | ⟨g, hg, hA⟩
      · exact Or.inl h
      · refine Or.inr ⟨by simp only [if_pos e1]; exact hra, ?_⟩
        simp only [if_pos e1]
        rw [← e1', hra] at hg
        injection hg with hg
        injection hg with hg
        rw [hg]
        exact hA
    · rw [if_neg e1] at e
      refine ⟨(hM.ro t q e).1, ?_⟩
      by_cases hL : q.D.S = []
      · exact Or.inl hL
      · rcases (hM.ro t q e).2 with x | ⟨x, y⟩
        · exact Or.inl x
        · refine Or.inr ⟨by simp only [if_neg e1]; exact x, ?_⟩
          simp only [if_neg e1]
          have k7 : w7.heap[B t]? = w.heap[B t]? := by
            refine hG.block _ y.al.lt (fun e9 => ?_)
            rcases hRa.ne s t r q (fun q => e1 q.symm) hr e with z | z
            · rw [z] at e9; cases e9
            · apply z
              rcases (hRa.ro s r hr).at with u | ⟨g, u, _⟩
              · rw [u] at e9; cases e9
              · rw [u] at e9
                injection e9 with e9
                rw [u, x, show B t = g from e9]
          have y7 := y.kept hG.size k7
          refine y7.kept hg8.size (hg8.block _ y7.al.lt ?_)
          intro e9
          injection e9 with e9
          obtain ⟨cs, T, fz, hc⟩ := y7.cells hL
          obtain ⟨es, c, hmap⟩ := hm7.isMap
          rw [e9, hmap] at hc
          cases hc
  · have key : ∀ u p, ¬ u = s → F u = some p → p.D.S ≠ [] → B u ≠ g' := fun u p hus hu h2 => by
      rcases (hM.ro u p hu).2 with x | ⟨x, y⟩
      · exact absurd x h2
      · intro e9
        rcases hbl with z | z
        · rcases hRa.ne s u r p (fun q => hus q.symm) hr hu with v | v
          · rw [v, hra] at z; cases z
          · apply v
            rw [← z, hra, x, e9]
        · have := y.al.lt
          omega
    unfold putF at ht hu
    by_cases e1 : t = s
    · have e2 : ¬ u = s := fun e => htu (by rw [e1, e])
      rw [if_neg e2] at hu
      simp only [if_pos e1, if_neg e2]
      exact fun e => key u p e2 hu h2 e.symm
    · rw [if_neg e1] at ht
      by_cases e2 : u = s
      · simp only [if_neg e1, if_pos e2]
        exact key t q e1 ht h1
      · rw [if_neg e2] at hu
        simp only [if_neg e1, if_neg e2]
        exact hM.ne t u q p htu ht hu h1 h2
/-- an entry with one more server -/
def inS (D : EnD) (p : Nat) (A : AlD) : EnD := { D with S := D.S.take p ++ A :: D.S.drop p }
/-- what a server put into the map leaves -/
def AlP (base b n : Nat) (F : Int → Option EnR) (s : Int) (D' : EnD) (w : World) (e : Ending) (w' : World) : Prop :=
  e = .returned (.int .i64 0) ∧ ∃ r' B', r'.D = D' ∧ Mo base w' b n (putF F s (some r')) B' ∧ Below base w w'
theorem hx6 {w w5 w6 : World} {ra : Option Addr} {n cap : Nat} {o : Obj} {xs : List Value} (hlr : ∀ g, ra = some ⟨g, 0, none⟩ → g < w.heap.size) (hX : Bx w5 w.heap.size xs) (hg : (w5.alloc o).grownBy w6 (Value.slice ra n cap).ownBlock) (ha : ra = none ∨ ∃ g, ra = some ⟨g, 0, none⟩) : Bx w6 w.heap.size xs := by
  have h1 := hX.alloc o
  refine h1.kept hg.size (hg.block _ h1.lt (fun e => ?_))
  rcases ha with rfl | ⟨g, rfl⟩
  · cases e
  · have := hlr g rfl
    injection e with e
    have e' : w.heap.size = g := e
    omega
theorem g_all {w w5 w6 : World} {o : Obj} {row : Option Nat} (hb : Below w.heap.size w w5) (hg : (w5.alloc o).grownBy w6 row) (i : Nat) (u : Value) : w.grownBy (w6.setCell ⟨w.heap.size, i, none⟩ u) row := by
  have h1 := hb.size
  have h2 := hg.size
  have h3 : (w5.alloc o).heap.size = w5.heap.size + 1 := by simp
  exact ⟨hg.os.trans hb.os, hg.tape.trans hb.tape, hg.output.trans hb.output, by rw [show (w6.setCell ⟨w.heap.size, i, none⟩ u).heap.size = w6.heap.size by simp]; omega,
    fun k hk hne => (Below.heap_setCell w6 ⟨w.heap.size, i, none⟩ u k (by show k ≠ w.heap.size; omega)).trans ((hg.block k (by omega) hne).trans ((Below.heap_alloc w5 o k (by omega)).trans (hb.block k hk)))⟩
theorem g_set (w : World) (x i : Nat) (u : Value) : w.grownBy (w.setCell ⟨x, i, none⟩ u) (some x) :=
  ⟨rfl, rfl, rfl, by simp, fun k hk hne => Below.heap_setCell w ⟨x, i, none⟩ u k (fun e => hne (by rw [e]))⟩
theorem alFin (base b n : Nat) (F : Int → Option EnR) (B : Int → Nat) (s : Int) (r : EnR) (w w5 w6 : World) (o : Obj) (S' : List AlD) (a6 : Option Addr) (c6 : Nat) (hM : Mo base w b n F B) (hRa : Ra base w F) (hr : F s = some r) (hbs : base ≤ w.heap.size) (hn : n ≤ 1000) (hs : (Lit.int .i64 s).wf = true)
    (hb : Below w.heap.size w w5) (hg6 : (w5.alloc o).grownBy w6 (Value.slice r.ra r.D.S.length r.cap).ownBlock) (hO6 : Oa base w6 (.slice a6 S'.length c6) S') (hS' : S' ≠ []) (hb6 : (Value.slice a6 S'.length c6).ownBlock = (Value.slice r.ra r.D.S.length r.cap).ownBlock ∨ ∃ g, (Value.slice a6 S'.length c6).ownBlock = some g ∧ (w5.alloc o).heap.size ≤ g) :
    ∃ w8, (Instr.mapUpdate 48 (.map (some b)) (.int .i64 s) (.agg #[.int .i64 r.D.sl, .int .i64 r.D.sv, .int .i64 r.D.nc, .string r.D.k, .bool r.D.t, .slice a6 S'.length c6, .int .i64 r.D.nx])).run Try.prog (w6.setCell ⟨w.heap.size, 5, none⟩ (.slice a6 S'.length c6)) = .ok () w8 ∧
      ∃ B', Mo base w8 b (n + 1) (putF F s (some ⟨{ r.D with S := S' }, a6, c6⟩)) B' ∧ Below base w w8 := by
  have hOr := hRa.ro s r hr
  have hG := g_all hb hg6 5 (.slice a6 S'.length c6)
  have hsz := hb.size
  have h3 : (w5.alloc o).heap.size = w5.heap.size + 1 := by simp
  obtain ⟨a', c', e', _, hf⟩ := hO6.form
  injection e' with e1 _ _
  subst e1
  rcases hf with hf | ⟨g', rfl, hA6⟩
  · exact absurd hf hS'
  have hg' : g' ≠ w.heap.size := by
    rcases hb6 with x | ⟨g, x, y⟩
    · rcases hOr.at with z | ⟨g2, z, _, hl⟩
      · rw [z] at x; cases x
      · rw [z] at x; injection x with x; have x' : g' = g2 := x; omega
    · injection x with x; have x' : g' = g := x; omega
  have hO7 : Oa base (w6.setCell ⟨w.heap.size, 5, none⟩ (.slice (some ⟨g', 0, none⟩) S'.length c6)) (.slice (some ⟨g', 0, none⟩) S'.length c6) S' := World.ownsRow.kept hO6 (g_set w6 _ _ _) (Or.inr (fun e => by injection e with e; exact hg' e))
  have hm7 : Mg _ b n F := hM.mp.kept hG (fun e => hOr.off hM.mp e.symm)
  obtain ⟨w8, hrun, hM8, hg8⟩ := hm7.store (by unfold maxLen; omega) s hs ⟨{ r.D with S := S' }, some ⟨g', 0, none⟩, c6⟩
  refine ⟨w8, hrun, _, hM.ins hRa hr hG hg8 hM8 g' rfl hO7 ?_, (grown_below hG hbs (Oa.blk hOr)).trans (grown_below (v := .slice (some ⟨b, 0, none⟩) 0 0) (by simpa [Value.ownBlock] using hg8) (Nat.le_trans hbs hG.size) (fun q e => by simp [Value.ownBlock] at e; rw [← e]; exact hM.ge))⟩
  rcases hb6 with x | ⟨g, x, y⟩
  · rcases hOr.at with z | ⟨g2, z, _⟩
    · rw [z] at x; cases x
    · rw [z] at x; injection x with x; have x' : g' = g2 := x; exact Or.inl (by rw [z, x'])
  · injection x with x; have x' : g' = g := x; exact Or.inr (by omega)
set_option maxHeartbeats 8000000 in
theorem alNew (base b n : Nat) (F : Int → Option EnR) (B : Int → Nat) (s : Int) (r : EnR) (id bk : ByteArray) (w : World) (hn : n ≤ 1000) (hs : (Lit.int .i64 s).wf = true) (hN : r.D.S.length ≤ 1000) (hid : id.size ≤ 1048576) (hbk : bk.size ≤ 1048576) (hbs : base ≤ w.heap.size)
    (hM : Mo base w b n F B) (hRa : Ra base w F) (hr : F s = some r) (hg : bkB bk = true) (hsz : (id.size : Int) = r.D.sv) (hpH : plH r.D.S id = false) (hhB : hasB r.D.S bk r.D.S.length = false) (h12 : ¬ r.D.S.length = 12) :
    Calls Try.prog 18 #[.map (some b), .int .i64 s, .string id, .string bk] w (AlP base b (n + 1) F s (inS r.D (plP r.D.S id) ⟨id, bk⟩) w) := by
  have hlook : (Instr.lookup 48 (.map (some b)) (.int .i64 s) true).run Try.prog w = .ok (.tuple #[.agg #[.int .i64 r.D.sl, .int .i64 r.D.sv, .int .i64 r.D.nc, .string r.D.k, .bool r.D.t, .slice r.ra r.D.S.length r.cap, .int .i64 r.D.nx], .bool true]) w := by
    rw [hM.mp.look_ok s hs]; unfold atV; rw [hr]; rfl
  have hOr := hRa.ro s r hr
  have hA : Aa w r.ra r.D.S := hOr.aa.2.2
  have A1 : Below w.heap.size w (w.alloc (.cells #[.int .i64 r.D.sl, .int .i64 r.D.sv, .int .i64 r.D.nc, .string r.D.k, .bool r.D.t, .slice r.ra r.D.S.length r.cap, .int .i64 r.D.nx] 43)) := (Below.refl _ _).alloc (Nat.le_refl _) _
  have X1 : Bx (w.alloc (.cells #[.int .i64 r.D.sl, .int .i64 r.D.sv, .int .i64 r.D.nc, .string r.D.k, .bool r.D.t, .slice r.ra r.D.S.length r.cap, .int .i64 r.D.nx] 43)) w.heap.size [.int .i64 r.D.sl, .int .i64 r.D.sv, .int .i64 r.D.nc, .string r.D.k, .bool r.D.t, .slice r.ra r.D.S.length r.cap, .int .i64 r.D.nx] := Bx.new w _ _
  have HP := hide (plcOf r.ra r.cap r.D.S id _ (by omega) (hA.below A1))
  have HS : Hid (∀ W, Below w.heap.size w W → Calls Try.prog 31 #[.slice r.ra r.D.S.length r.cap, .string bk] W fun e w' => e = .returned (.tuple #[.string (idB r.D.S bk r.D.S.length), .bool (hasB r.D.S bk r.D.S.length)]) ∧ Below W.heap.size W w') := fun W hW => srvOf r.ra r.D.S.length r.cap r.D.S bk W (Nat.le_refl _) (by omega) (hA.below hW)
  have HG := hide (fun W => implGB bk W (by unfold maxLen; omega))
  have HOA : Hid (∀ W, Calls Try.prog 34 #[.string id, .string bk] W fun e w' => e = .returned (.agg #[.string id, .string bk]) ∧ Below W.heap.size W w') := fun W => ownAl ⟨id, bk⟩ hid hbk W
  have HIN : Hid (∀ W, Below w.heap.size w W → Calls Try.prog 33 #[.slice r.ra r.D.S.length r.cap, .int .i64 (plP r.D.S id : Nat), .slice (some ⟨W.heap.size, 0, none⟩) 1 1] (W.alloc (.cells #[.string id, .string bk] 45)) (InsP base (.slice r.ra r.D.S.length r.cap) r.D.S ⟨id, bk⟩ (plP r.D.S id) (W.alloc (.cells #[.string id, .string bk] 45)))) := fun W hW => insA base _ r.D.S ⟨id, bk⟩ (plP r.D.S id) W hN (plP_le id) (hOr.below hW) (Nat.le_trans hbs hW.size)
  have HB1 := hide A1
  have HX1 := hide X1
  have x1 := X1.cv
  have HM := hide (And.intro hM (And.intro hRa hr))
  rw [hpH] at HP
  rw [hhB] at HS
  rw [hg] at HG
  have h12I : ¬ (r.D.S.length : Int) = 12 := by omega
  have hlr : ∀ g, r.ra = some ⟨g, 0, none⟩ → g < w.heap.size := fun g e => by
    rcases hOr.at with x | ⟨g2, x, _, y⟩
    · rw [x] at e; cases e
    · rw [x] at e; injection e with e; injection e with e; omega
  have HLR := hide hlr
  have HPL : Hid (plP r.D.S id ≤ r.D.S.length) := plP_le id
  have HRN : Hid (r.ra = none ∨ ∃ g, r.ra = some ⟨g, 0, none⟩) := by
    rcases hOr.at with x | ⟨g, x, _⟩
    · exact Or.inl x
    · exact Or.inr ⟨g, x⟩
  have HL : Hid (∀ (p : Nat), (inS r.D p ⟨id, bk⟩).S = r.D.S.take p ++ ⟨id, bk⟩ :: r.D.S.drop p) := fun p => rfl
  clear hA A1 X1 hM hRa hr hg hpH hhB h12 hOr hlr
  generalize hpp : plP r.D.S id = p at *
  clear hpp
  generalize idB r.D.S bk r.D.S.length = ib at *
  obtain ⟨D, ra, cap⟩ := r
  obtain ⟨sl, sv, nc, k, t, S, nx⟩ := D
  dsimp only at *
  go_enter Try.func18, Try.ntmps18
  go_wp2_with fail
  generalize w.alloc (.cells #[.int .i64 sl, .int .i64 sv, .int .i64 nc, .string k, .bool t, .slice ra S.length cap, .int .i64 nx] 43) = W1 at *
  refine (unhide HP).mono ?_
  rintro e w2 ⟨rfl, b2⟩
  have X2 := (unhide HX1).below b2
  have B2 := (unhide HB1).trans (b2.mono (unhide HB1).size)
  have HX2 := hide X2
  have HB2 := hide B2
  have x2 := X2.cv
  clear b2 X2 B2 x1 HX1 HB1 HP
  go_wp2_with fail
  refine (unhide HS _ (unhide HB2)).mono ?_
  rintro e w3 ⟨rfl, b3⟩
  have X3 := (unhide HX2).below b3
  have B3 := (unhide HB2).trans (b3.mono (unhide HB2).size)
  have HX3 := hide X3
  have HB3 := hide B3
  clear b3 X3 B3 x2 HX2 HB2 HS
  go_wp2_with fail
  refine (unhide HG _).mono ?_
  rintro e w4 ⟨rfl, e4⟩
  rw [e4]
  clear e4 w4 HG
  have x3 := (unhide HX3).cv
  have f3 := (unhide HX3).fz
  have hl3 : w.heap.size < w3.heap.size := (unhide HX3).lt
  have ZB : Hid (∀ W, Below w3.drew.heap.size w3.drew W → Below w.heap.size w W ∧ Bx W w.heap.size [.int .i64 sl, .int .i64 sv, .int .i64 nc, .string k, .bool t, .slice ra S.length cap, .int .i64 nx]) := fun W hW => ⟨(unhide HB3).drew.trans (hW.mono (by rw [World.size_drew]; exact (unhide HB3).size)), (unhide HX3).drew.below hW⟩
  go_upto_region 14 with fail
  go_region_law (first
    | (go_simp; go_at_call 34; (with_reducible refine (unhide HOA _).mono ?_); rintro e w5 ⟨rfl, b5⟩; have Z5 := hide (unhide ZB _ b5); have x5 := (unhide Z5).2.cv; have q5 : w.heap.size < w5.heap.size := (unhide Z5).2.lt; clear b5)
    | (go_simp; go_at_call 33; (with_reducible refine (unhide HIN _ (unhide Z5).1).mono ?_); rintro e w6 ⟨v6, rfl, hO6, hg6, hb6⟩; have HO6 := hide hO6; have HG6 := hide hg6; have HB6 := hide hb6; obtain ⟨a6, c6, hv6, hc6, hA6⟩ := hO6.form; clear hO6 hb6; subst hv6; obtain ⟨S6, hS6⟩ : ∃ S6, S6 = S.take p ++ ⟨id, bk⟩ :: S.drop p := ⟨_, rfl⟩; rw [← hS6] at HO6 HB6 hc6 hA6 ⊢; have HS6 := hide hS6; clear hS6; have X6 := hide (hx6 (unhide HLR) (unhide Z5).2 hg6 (unhide HRN)); have x6 := (unhide X6).cv; have f6 := (unhide X6).fz; clear hg6))
  all_goals
    obtain ⟨w8, hrun, B8, hM8, hb8⟩ := alFin base b n F B s ⟨⟨sl, sv, nc, k, t, S, nx⟩, ra, cap⟩ w w5 w6 _ S6 a6 c6 (unhide HM).1 (unhide HM).2.1 (unhide HM).2.2 hbs hn hs (unhide Z5).1 (unhide HG6) (unhide HO6) (fun e => by have := ins_len S ⟨id, bk⟩ p (unhide HPL); rw [← unhide HS6, e] at this; cases this) (unhide HB6)
    dsimp only at hrun
    have FIN : Hid (AlP base b (n + 1) F s (inS ⟨sl, sv, nc, k, t, S, nx⟩ p ⟨id, bk⟩) w (.returned (.int .i64 0)) w8) := ⟨rfl, _, B8, by unfold inS; rw [unhide HS6], hM8, hb8⟩
    clear hM8 hb8
    go_wp2
    go_ret
    exact unhide FIN
end Go.Proofs.Ythgogkimjhjepaa
