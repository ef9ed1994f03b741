/-
  Rows of structs of several cells, as lists of cells. Contracts: scores in a row, the greatest of them, the pick, of the program.
-/
import Derived.Test.YtpjmnnaiegdjmaaDoorBase
import Derived.Test.YtpjmnnaiegdjmaaDoorPkb
import Derived.Test.YtpjmnnaiegdjmaaDoorShelf
namespace Go.Proofs.YtpjmnnaiegdjmaaDoor
open Go.ChangeShapes Go.WideShapes Go.ChangeAt Go.RowKit
set_option linter.unusedVariables false

theorem fl_len {α : Type} (f : α → List Value) (n : Nat) (hf : ∀ x, (f x).length = n) : ∀ L : List α, (L.flatMap f).length = L.length * n
  | [] => by simp
  | x :: L => by rw [List.flatMap_cons, List.length_append, hf, fl_len f n hf L, List.length_cons, Nat.add_mul]; omega
theorem fl_at {α : Type} (f : α → List Value) (n : Nat) (hf : ∀ x, (f x).length = n) (d : α) : ∀ (L : List α) (k j : Nat), k < L.length → j < n → (L.flatMap f)[k * n + j]? = (f (L.getD k d))[j]?
  | [], k, j, h, _ => absurd h (Nat.not_lt_zero _)
  | x :: L, 0, j, _, hj => by
    rw [List.flatMap_cons, Nat.zero_mul, Nat.zero_add, List.getElem?_append_left (by rw [hf]; exact hj)]
    rfl
  | x :: L, k + 1, j, h, hj => by
    rw [List.flatMap_cons, List.getElem?_append_right (by rw [hf, Nat.add_mul]; omega), hf, show (k + 1) * n + j - n = k * n + j by rw [Nat.add_mul]; omega, fl_at f n hf d L k j (by simpa using h) hj]
    rfl
theorem fl_get {α : Type} (f : α → List Value) (n : Nat) (hn : 0 < n) (hf : ∀ x, (f x).length = n) (d : α) (L : List α) (q : Nat) (u : Value) (h : (L.flatMap f)[q]? = some u) : ∃ k j, k < L.length ∧ j < n ∧ q = k * n + j ∧ (f (L.getD k d))[j]? = some u := by
  have hq : q < L.length * n := by
    have := (List.getElem?_eq_some_iff.1 h).1
    rw [fl_len f n hf] at this
    exact this
  have hk : q / n < L.length := Nat.div_lt_of_lt_mul (by rw [Nat.mul_comm]; exact hq)
  have hj : q % n < n := Nat.mod_lt _ hn
  have e : q = q / n * n + q % n := by rw [Nat.mul_comm]; exact (Nat.div_add_mod q n).symm
  refine ⟨q / n, q % n, hk, hj, e, ?_⟩
  rw [← fl_at f n hf d L _ _ hk hj, ← e]
  exact h
end Go.Proofs.YtpjmnnaiegdjmaaDoor
namespace Go.Proofs.YtpjmnnaiegdjmaaDoor
open Go.ChangeShapes Go.WideShapes Go.ChangeAt Go.RowKit Go.Deep
set_option linter.unusedVariables false
set_option maxRecDepth 100000

theorem clnT (s : ByteArray) (hs : s.size ≤ 1048576) (w : World) : Calls Tryd.prog 39 #[.string s] w fun e w' => e = .returned (.string s) ∧ Below w.heap.size w w' := by
  have H := hide (fun W => Tryd.stringslite_Clone s W (by omega))
  go_enter Tryd.func39, Tryd.ntmps39
  go_wp2_with fail
  refine (unhide H _).mono ?_
  rintro e w1 ⟨rfl, b1⟩
  go_wp2
  go_ret
  exact ⟨rfl, b1⟩
/-- the cells of backends with their scores -/
def sW (key b : ByteArray) : List Value := [.string b, .int .i64 (scN b key : Nat)]
def sC (key : ByteArray) (L : List ByteArray) : List Value := L.flatMap (sW key)
theorem sW_len (key b : ByteArray) : (sW key b).length = 2 := rfl
theorem sC_len (key : ByteArray) (L : List ByteArray) : (sC key L).length = L.length * 2 := fl_len (sW key) 2 (sW_len key) L
theorem sC_at (key : ByteArray) (L : List ByteArray) (k j : Nat) (hk : k < L.length) (hj : j < 2) : (sC key L)[k * 2 + j]? = (sW key (tA L k))[j]? := fl_at (sW key) 2 (sW_len key) ⟨#[]⟩ L k j hk hj
theorem sC_app (key : ByteArray) (L M : List ByteArray) : sC key (L ++ M) = sC key L ++ sC key M := List.flatMap_append
theorem sC_one (key : ByteArray) (L : List ByteArray) : ∀ u ∈ sC key L, u.oneCell' = true := by
  intro u hu
  obtain ⟨D, _, h⟩ := List.mem_flatMap.1 hu
  simp [sW] at h
  rcases h with rfl | rfl <;> rfl
/-- backends with their scores, a row of the call's own -/
def Oc (base : Nat) (w : World) (v : Value) (key : ByteArray) (L : List ByteArray) : Prop := w.ownsRow base 47 2 v L.length (sC key L)
theorem Oc.nil (base : Nat) (w : World) (key : ByteArray) : Oc base w (.slice none 0 0) key [] := World.ownsRow_nil _ _ _ _
theorem Oc.kept {base : Nat} {w w' : World} {v : Value} {key : ByteArray} {L : List ByteArray} (h : Oc base w v key L) (hb : Below w.heap.size w w') : Oc base w' v key L := by
  refine ⟨h.1, ?_⟩
  rcases h.2 with hn | ⟨g, cap, cur, rfl, hg, hgg, rest⟩
  · exact .inl hn
  · refine .inr ⟨g, cap, cur, rfl, hg, ?_, rest⟩
    rw [hb.block g (Array.getElem?_eq_some_iff.1 hgg).1]
    exact hgg
theorem Oc.blk {base : Nat} {w : World} {v : Value} {key : ByteArray} {L : List ByteArray} (h : Oc base w v key L) : ∀ k, v.ownBlock = some k → base ≤ k := fun k e => (World.ownsRow.lt h k e).1
/-- scores in a row, to be read -/
structure Sx (w : World) (b n : Nat) (key : ByteArray) (F : Nat → ByteArray) : Prop where
  lt : b < w.heap.size
  c0 : ∀ i, i < n → w.cell? ⟨b, i * 2, none⟩ = some (.string (F i))
  c1 : ∀ i, i < n → w.cell? ⟨b, i * 2 + 1, none⟩ = some (.int .i64 (scN (F i) key : Nat))
theorem Sx.kept {w w' : World} {b n : Nat} {key : ByteArray} {F : Nat → ByteArray} (h : Sx w b n key F) (hb : Below w.heap.size w w') : Sx w' b n key F :=
  ⟨Nat.lt_of_lt_of_le h.lt hb.size, fun i hi => (hb.cell (p := ⟨b, i * 2, none⟩) h.lt).trans (h.c0 i hi), fun i hi => (hb.cell (p := ⟨b, i * 2 + 1, none⟩) h.lt).trans (h.c1 i hi)⟩
theorem Oc.form {base : Nat} {w : World} {v : Value} {key : ByteArray} {L : List ByteArray} (h : Oc base w v key L) : ∃ a cap, v = .slice a L.length cap ∧ L.length ≤ cap ∧ cap ≤ maxLen ∧ (L.length = 0 ∨ ∃ g, a = some ⟨g, 0, none⟩ ∧ base ≤ g ∧ Sx w g L.length key (tA L) ∧ ∀ o, w.frozen? ⟨g, o, none⟩ = false) := by
  rcases h.2 with ⟨rfl, e⟩ | ⟨g, cap, cur, rfl, hb, hg, hnc, hcm, _⟩
  · exact ⟨none, 0, by rw [e], by omega, Nat.zero_le _, Or.inl e⟩
  · refine ⟨_, _, rfl, hnc, hcm, Or.inr ⟨g, rfl, hb, ⟨(Array.getElem?_eq_some_iff.1 hg).1, fun k hk => ?_, fun k hk => ?_⟩, fun o => World.ownsRow.frozenAt h o⟩⟩
    · exact (World.ownsRow.cellAt h (k * 2 + 0) (by omega)).trans (sC_at key L k 0 hk (by omega))
    · exact (World.ownsRow.cellAt h (k * 2 + 1) (by omega)).trans (sC_at key L k 1 hk (by omega))
theorem infoSd : (Tryd.prog.info? 47).map (fun i => (i.zero, i.size, i.bytes)) = some (some (.agg #[.string ⟨#[]⟩, .int .i64 0]), 2, 24) := by kernel_rfl
theorem infoSd_parts : ∃ i0, Tryd.prog.info? 47 = some i0 ∧ i0.zero = some (.agg #[.string ⟨#[]⟩, .int .i64 0]) ∧ i0.size = 2 ∧ i0.bytes = 24 := by
  have h := infoSd
  cases e : Tryd.prog.info? 47 with
  | none => rw [e] at h; cases h
  | some i0 => rw [e] at h; simp at h; exact ⟨i0, rfl, h.1, h.2.1, h.2.2⟩
theorem sc_sd (w : World) (b key : ByteArray) (T : TypeId) : Sc (w.alloc (.cells #[.string b, .int .i64 (scN b key : Nat)] T)) (some ⟨w.heap.size, 0, none⟩) [b].length (sC key [b]) := by
  refine Or.inr ⟨_, rfl, fun q u hu => ?_⟩
  rw [add_non, Nat.zero_add]
  have e9 : sC key [b] = [.string b, .int .i64 (scN b key : Nat)] := rfl
  rw [e9] at hu
  match q, hu with
  | 0, hu => simp at hu; subst hu; simp
  | 1, hu => simp at hu; subst hu; simp
  | q + 2, hu => simp at hu
theorem appC (w : World) (ty : TypeId) (base : Nat) (v : Value) (key : ByteArray) (L : List ByteArray) (hown : Oc base w v key L) (sa : Option Addr) (c : Nat) (M : List ByteArray) (hs : Sc w sa M.length (sC key M)) (hb : L.length + M.length ≤ 1048576) (hbase : base ≤ w.heap.size) :
    ∃ v' w', (Builtin.append_ #[54, 54] ty #[v, .slice sa M.length c]).run Tryd.prog w = .ok v' w' ∧ Oc base w' v' key (L ++ M) ∧ Below base w w' := by
  obtain ⟨i0, hi, hz0, hz1, hz2⟩ := infoSd_parts
  obtain ⟨v', w', h1, h2, h3, h4⟩ := app_any w 54 ty base 47 i0 _ 2 24 Tryd.underlying54 hi hz0 hz1 hz2 rfl (by decide) v L.length (sC key L) hown sa M.length c (sC key M) (sC_len key M) hs (sC_one key M) (by unfold maxLen; omega) (by omega) hbase
  refine ⟨v', w', h1, ?_, gr_below h3 hbase (Oc.blk hown)⟩
  unfold Oc
  rw [List.length_append, sC_app]
  exact h2
set_option maxHeartbeats 1000000 in
theorem implSs (a : Option Addr) (cap : Nat) (L : List ByteArray) (key : ByteArray) (w : World) (hN : L.length ≤ 1000) (hz : ∀ i, i < L.length → (tA L i).size ≤ 1000) (hk : key.size ≤ 1000) (h : Ta w a L) (hT : Rt w) :
    Calls Tryd.prog 42 #[.slice a L.length cap, .string key] w fun e w' => ∃ v, e = .returned v ∧ Oc w.heap.size w' v key L ∧ Below w.heap.size w w' := by
  have HR := hide h
  have HZ := hide hz
  have HT := hide (fun W (q : Below w.heap.size w W) => hT.kept q)
  clear h hz hT
  go_enter Tryd.func42, Tryd.ntmps42
  go_wp2
  go_loopw [5, 10] (fun v i wr => ∃ k : Nat, k ≤ L.length ∧ i = .int .i64 k ∧ Oc w.heap.size wr v key (L.take k) ∧ Below w.heap.size w wr) (fun _ i _ => L.length - (intOf i).toNat)
  case atStart => exact ⟨0, Nat.zero_le _, rfl, Oc.nil _ _ _, Below.refl _ _⟩
  case round =>
    obtain ⟨k, hkl, rfl, hO, hbel⟩ := hrel
    by_cases hlt : k < L.length
    · rcases (unhide HR).kept hbel with h0 | ⟨b, off, rfl, hel⟩
      · omega
      have c0 := hel.c k hlt
      have hnk : (k : Int) < (L.length : Int) := by omega
      have HC := hide (fun W hW => implNew (tA L k) key (unhide HZ k hlt) hk W hW)
      have HO := hide hO
      have HB := hide hbel
      have TK := hide (take_tA L k hlt)
      clear hel hO hbel
      have SC := hide (fun W T => sc_sd W (tA L k) key T)
      have SL : Hid ([tA L k].length = 1) := rfl
      generalize hsn : scN (tA L k) key = sn at *
      have hsn := hide hsn
      have hlen : (L.take k).length = k := by rw [List.length_take]; omega
      go_wp2_with fail
      refine (unhide HC _ (unhide HT _ (unhide HB))).mono ?_
      rintro e w2 ⟨rfl, b2⟩
      have B2 := hide ((unhide HB).trans (b2.mono (unhide HB).size))
      obtain ⟨v', w', hrun, hO', hg⟩ := appC (w2.alloc (.cells #[.string (tA L k), .int .i64 sn] 47)) 54 w.heap.size u5 key (L.take k) (((unhide HO).kept b2).kept ((Below.refl _ _).alloc (Nat.le_refl _) _)) (some ⟨w2.heap.size, 0, none⟩) 1 [tA L k] (unhide SC _ _) (by rw [hlen]; show k + 1 ≤ _; omega) (by have := (unhide B2).size; simp; omega)
      have hrun' : (Builtin.append_ #[54, 54] 54 #[u5, .slice (some ⟨w2.heap.size, 0, none⟩) 1 1]).run Tryd.prog (w2.alloc (.cells #[.string (tA L k), .int .i64 sn] 47)) = .ok v' w' := hrun
      rw [unhide TK] at hO'
      have HO2 := hide hO'
      have HB2 := hide (((unhide B2).alloc (unhide B2).size (.cells #[.string (tA L k), .int .i64 sn] 47)).trans hg)
      have RUN := hide hrun'
      clear hrun hrun' hO' hg b2 HO HB HC TK B2 SC
      generalize tA L k = D at *
      go_wp2_with (at_builtin; refine wpl_app rfl _ _ 54 rfl _ _ _ _ rfl rfl (unhide RUN) ?_)
      exact ⟨⟨k + 1, by omega, by go_num, unhide HO2, unhide HB2⟩, by simp [intOf]; omega⟩
    · obtain rfl : k = L.length := by omega
      rw [List.take_length] at hO
      have HO := hide hO
      have HB := hide hbel
      clear hO hbel
      go_wp2
      go_ret
      exact ⟨_, rfl, unhide HO, unhide HB⟩
/-- how numbers compare -/
def cmI (x y : Int) : Int := if x < y then -1 else if y < x then 1 else 0
set_option maxHeartbeats 1000000 in
theorem cmpI (x y : Int) (w : World) : Calls Tryd.prog 67 #[.int .i64 x, .int .i64 y] w fun e w' => e = .returned (.int .i64 (cmI x y)) ∧ w' = w := by
  have HN : Hid (∀ z W, Calls Tryd.prog 84 #[.int .i64 z] W fun e w' => e = .returned (.bool false) ∧ w' = W) := fun z W => by
    go_enter Tryd.func84, Tryd.ntmps84
    go_wp2
    go_ret
    exact ⟨by simp, rfl⟩
  unfold cmI
  by_cases h1 : x < y
  · rw [if_pos h1]
    go_enter Tryd.func67, Tryd.ntmps67
    go_wp2_with fail
    refine (unhide HN _ _).mono ?_
    rintro e w1 ⟨rfl, e1⟩
    subst w1
    go_wp2_with fail
    refine (unhide HN _ _).mono ?_
    rintro e w1 ⟨rfl, e1⟩
    subst w1
    go_wp2
    go_ret
    exact ⟨rfl, rfl⟩
  rw [if_neg h1]
  by_cases h2 : y < x
  · rw [if_pos h2]
    go_enter Tryd.func67, Tryd.ntmps67
    go_wp2_with fail
    refine (unhide HN _ _).mono ?_
    rintro e w1 ⟨rfl, e1⟩
    subst w1
    go_wp2_with fail
    refine (unhide HN _ _).mono ?_
    rintro e w1 ⟨rfl, e1⟩
    subst w1
    go_wp2
    go_ret
    exact ⟨rfl, rfl⟩
  · rw [if_neg h2]
    go_enter Tryd.func67, Tryd.ntmps67
    go_wp2_with fail
    refine (unhide HN _ _).mono ?_
    rintro e w1 ⟨rfl, e1⟩
    subst w1
    go_wp2_with fail
    refine (unhide HN _ _).mono ?_
    rintro e w1 ⟨rfl, e1⟩
    subst w1
    go_wp2
    go_ret
    exact ⟨rfl, rfl⟩
set_option maxHeartbeats 1000000 in
theorem implBs (a b : ByteArray) (m n : Int) (w : World) :
    Calls Tryd.prog 45 #[.agg #[.string a, .int .i64 m], .agg #[.string b, .int .i64 n]] w fun e w' => e = .returned (.int .i64 (cmI m n)) ∧ Below w.heap.size w w' := by
  have HC := hide (cmpI m n)
  generalize cmI m n = r at *
  go_enter Tryd.func45, Tryd.ntmps45
  go_wp2_with fail
  refine (unhide HC _).mono ?_
  rintro e w1 ⟨rfl, e1⟩
  subst w1
  go_wp2
  go_ret
  exact ⟨rfl, ((Below.refl _ _).alloc (Nat.le_refl _) _).alloc (by simp) _⟩
end Go.Proofs.YtpjmnnaiegdjmaaDoor
