/-
  Contracts: the model's AllocServer.
-/
import Derived.Test.YthgogkimjhjepaaSrm
import Derived.Test.YthgogkimjhjepaaAlp
import Derived.Laws.Cover1
namespace Go.Proofs.Ythgogkimjhjepaa
open Go.ChangeShapes Go.WideShapes Go.ChangeAt Go.RowKit Go.Deep
set_option linter.unusedVariables false
set_option maxRecDepth 100000

/-- the model's own copy of a table lies there, in its box, and the answer's box -/
structure Sq (w wx : World) (base : Nat) (a2 : Option Addr) (c2 : Nat) (L : List EnD) (R : List EnR) : Prop where
  o : Oe base wx (.slice a2 L.length c2) R
  p : ∀ r ∈ R, Pr wx (.slice a2 L.length c2) r
  m : R.map (·.D) = L
  t : Bx wx w.heap.size [.slice a2 L.length c2]
  r : Bx wx (w.heap.size + 1) [.slice none 0 0]
  b : Below w.heap.size w wx
  ge : w.heap.size + 1 < base
theorem Sq.below {w wx W : World} {base : Nat} {a2 : Option Addr} {c2 : Nat} {L : List EnD} {R : List EnR} (h : Sq w wx base a2 c2 L R) (hb : Below wx.heap.size wx W) : Sq w W base a2 c2 L R :=
  ⟨h.o.below hb, fun r hr => (h.p r hr).below hb, h.m, h.t.below hb, h.r.below hb, h.b.trans (hb.mono h.b.size), h.ge⟩
theorem Sq.fin {w wx : World} {base : Nat} {a2 : Option Addr} {c2 : Nat} {L : List EnD} {R : List EnR} (h : Sq w wx base a2 c2 L R) : Ea (wx.setCell ⟨w.heap.size + 1, 0, none⟩ (.slice a2 L.length c2)) a2 L ∧ Below w.heap.size w (wx.setCell ⟨w.heap.size + 1, 0, none⟩ (.slice a2 L.length c2)) := by
  refine ⟨?_, h.b.setCell (by show w.heap.size ≤ w.heap.size + 1; omega) _⟩
  have := ea_box h.r h.o h.ge h.p (.slice a2 L.length c2)
  rw [h.m] at this
  exact this
theorem Sq.len {w wx : World} {base : Nat} {a2 : Option Addr} {c2 : Nat} {L : List EnD} {R : List EnR} (h : Sq w wx base a2 c2 L R) : R.length = L.length := by have := congrArg List.length h.m; simpa using this
/-- the row of entries, and one of them -/
theorem Sq.at {w wx : World} {base : Nat} {a2 : Option Addr} {c2 : Nat} {L : List EnD} {R : List EnR} (h : Sq w wx base a2 c2 L R) {i : Nat} (hi : i < L.length) : ∃ g, a2 = some ⟨g, 0, none⟩ ∧ base ≤ g ∧ g < wx.heap.size ∧ (∀ o, wx.frozen? ⟨g, o, none⟩ = false) ∧ Ce wx g (i * 7) (eA L i) (.slice (rA R i).ra (eA L i).S.length (rA R i).cap) ∧ Pr wx (.slice a2 L.length c2) (rA R i) ∧ (rA R i).D = eA L i := by
  obtain ⟨a', c', e', _, hf⟩ := h.o.form
  injection e' with q1 q2 q3
  have hl := h.len
  obtain ⟨e1, e2⟩ := (rA_map R L h.m).2 i hi
  rcases hf with hf | ⟨g, hga, hgb, hgl, hgf, hce⟩
  · rw [hf] at hl; simp at hl; omega
  · have hc := hce i (by omega)
    rw [e1] at hc
    exact ⟨g, by rw [q1, hga], hgb, hgl, hgf, hc, h.p _ e2, e1⟩
theorem en_set (r' : EnR) : ∀ (R : List EnR) (i : Nat), i < R.length → ((((((((enC R).set (i * 7) (.int .i64 r'.D.sl)).set (i * 7 + 1) (.int .i64 r'.D.sv)).set (i * 7 + 2) (.int .i64 r'.D.nc)).set (i * 7 + 3) (.string r'.D.k)).set (i * 7 + 4) (.bool r'.D.t)).set (i * 7 + 5) (.slice r'.ra r'.D.S.length r'.cap)).set (i * 7 + 6) (.int .i64 r'.D.nx)) = enC (R.set i r')
  | [], i, h => absurd h (Nat.not_lt_zero _)
  | r :: R, 0, _ => rfl
  | r :: R, i + 1, h => by
    have e0 : ∀ (j : Nat) (a : Value) (l : List Value), (enV r ++ l).set (i * 7 + j + 7) a = enV r ++ l.set (i * 7 + j) a := fun j a l => rfl
    have ih := en_set r' R i (by simpa using h)
    rw [show (i + 1) * 7 = i * 7 + 0 + 7 by omega, show i * 7 + 0 + 7 + 1 = i * 7 + 1 + 7 by omega, show i * 7 + 0 + 7 + 2 = i * 7 + 2 + 7 by omega, show i * 7 + 0 + 7 + 3 = i * 7 + 3 + 7 by omega, show i * 7 + 0 + 7 + 4 = i * 7 + 4 + 7 by omega, show i * 7 + 0 + 7 + 5 = i * 7 + 5 + 7 by omega, show i * 7 + 0 + 7 + 6 = i * 7 + 6 + 7 by omega,
      show enC (r :: R) = enV r ++ enC R from rfl, e0 0, e0 1, e0 2, e0 3, e0 4, e0 5, e0 6, Nat.add_zero, ih]
    rfl
/-- an entry is written anew -/
theorem Sq.put {w wx : World} {base : Nat} {g : Nat} {c2 : Nat} {L : List EnD} {R : List EnR} (h : Sq w wx base (some ⟨g, 0, none⟩) c2 L R) {i : Nat} (hi : i < L.length) (r' : EnR) (hr : Pr wx (.slice (some ⟨g, 0, none⟩) L.length c2) r') (hsm : r'.D.S ≠ []) :
    Sq w (((((((wx.setCell ⟨g, i * 7, none⟩ (.int .i64 r'.D.sl)).setCell ⟨g, i * 7 + 1, none⟩ (.int .i64 r'.D.sv)).setCell ⟨g, i * 7 + 2, none⟩ (.int .i64 r'.D.nc)).setCell ⟨g, i * 7 + 3, none⟩ (.string r'.D.k)).setCell ⟨g, i * 7 + 4, none⟩ (.bool r'.D.t)).setCell ⟨g, i * 7 + 5, none⟩ (.slice r'.ra r'.D.S.length r'.cap)).setCell ⟨g, i * 7 + 6, none⟩ (.int .i64 r'.D.nx)) base (some ⟨g, 0, none⟩) c2 (L.set i r'.D) (R.set i r') := by
  have hlen := h.len
  have hll : (L.set i r'.D).length = L.length := List.length_set
  have hg : base ≤ g := by
    obtain ⟨g', e, h1, _⟩ := h.at hi
    injection e with e; injection e with e; omega
  have hge := h.ge
  have oO : wx.ownsRow base 43 7 (.slice (some ⟨g, 0, none⟩) R.length c2) R.length (enC R) := by have := h.o; rw [← hlen] at this; exact this
  obtain ⟨o1, g1⟩ := oO.stored (i * 7) (.int .i64 r'.D.sl)
  obtain ⟨o2, g2⟩ := o1.stored (i * 7 + 1) (.int .i64 r'.D.sv)
  obtain ⟨o3, g3⟩ := o2.stored (i * 7 + 2) (.int .i64 r'.D.nc)
  obtain ⟨o4, g4⟩ := o3.stored (i * 7 + 3) (.string r'.D.k)
  obtain ⟨o5, g5⟩ := o4.stored (i * 7 + 4) (.bool r'.D.t)
  obtain ⟨o6, g6⟩ := o5.stored (i * 7 + 5) (.slice r'.ra r'.D.S.length r'.cap)
  obtain ⟨o7, g7⟩ := o6.stored (i * 7 + 6) (.int .i64 r'.D.nx)
  rw [en_set r' R i (by omega)] at o7
  have keep : ∀ k, k ≠ g → (((((((wx.setCell ⟨g, i * 7, none⟩ (.int .i64 r'.D.sl)).setCell ⟨g, i * 7 + 1, none⟩ (.int .i64 r'.D.sv)).setCell ⟨g, i * 7 + 2, none⟩ (.int .i64 r'.D.nc)).setCell ⟨g, i * 7 + 3, none⟩ (.string r'.D.k)).setCell ⟨g, i * 7 + 4, none⟩ (.bool r'.D.t)).setCell ⟨g, i * 7 + 5, none⟩ (.slice r'.ra r'.D.S.length r'.cap)).setCell ⟨g, i * 7 + 6, none⟩ (.int .i64 r'.D.nx)).heap[k]? = wx.heap[k]? := fun k hk => by
    iterate 7 rw [Below.heap_setCell _ _ _ k hk]
  have hs7 : (((((((wx.setCell ⟨g, i * 7, none⟩ (.int .i64 r'.D.sl)).setCell ⟨g, i * 7 + 1, none⟩ (.int .i64 r'.D.sv)).setCell ⟨g, i * 7 + 2, none⟩ (.int .i64 r'.D.nc)).setCell ⟨g, i * 7 + 3, none⟩ (.string r'.D.k)).setCell ⟨g, i * 7 + 4, none⟩ (.bool r'.D.t)).setCell ⟨g, i * 7 + 5, none⟩ (.slice r'.ra r'.D.S.length r'.cap)).setCell ⟨g, i * 7 + 6, none⟩ (.int .i64 r'.D.nx)).heap.size = wx.heap.size := by simp
  have hbb : Below w.heap.size w (((((((wx.setCell ⟨g, i * 7, none⟩ (.int .i64 r'.D.sl)).setCell ⟨g, i * 7 + 1, none⟩ (.int .i64 r'.D.sv)).setCell ⟨g, i * 7 + 2, none⟩ (.int .i64 r'.D.nc)).setCell ⟨g, i * 7 + 3, none⟩ (.string r'.D.k)).setCell ⟨g, i * 7 + 4, none⟩ (.bool r'.D.t)).setCell ⟨g, i * 7 + 5, none⟩ (.slice r'.ra r'.D.S.length r'.cap)).setCell ⟨g, i * 7 + 6, none⟩ (.int .i64 r'.D.nx)) := by
    iterate 7 refine Below.setCell ?_ (by show w.heap.size ≤ g; omega) _
    exact h.b
  generalize (((((((wx.setCell ⟨g, i * 7, none⟩ (.int .i64 r'.D.sl)).setCell ⟨g, i * 7 + 1, none⟩ (.int .i64 r'.D.sv)).setCell ⟨g, i * 7 + 2, none⟩ (.int .i64 r'.D.nc)).setCell ⟨g, i * 7 + 3, none⟩ (.string r'.D.k)).setCell ⟨g, i * 7 + 4, none⟩ (.bool r'.D.t)).setCell ⟨g, i * 7 + 5, none⟩ (.slice r'.ra r'.D.S.length r'.cap)).setCell ⟨g, i * 7 + 6, none⟩ (.int .i64 r'.D.nx)) = W at *
  have kp : ∀ r, Pr wx (.slice (some ⟨g, 0, none⟩) L.length c2) r → Pr W (.slice (some ⟨g, 0, none⟩) L.length c2) r := fun r h => ⟨h.1, h.2.imp id fun ⟨gr, e, a, n⟩ => ⟨gr, e, a.move (by omega) (fun j => World.cell?_of_block (a := ⟨gr, j, none⟩) (keep gr (fun e => n (by rw [e]; rfl)))), n⟩⟩
  refine ⟨?_, fun r hr' => ?_, ?_, by rw [hll]; exact h.t.kept (by omega) (keep _ (by omega)), h.r.kept (by omega) (keep _ (by omega)), hbb, h.ge⟩
  · rw [hll]
    unfold Oe
    rw [List.length_set, ← hlen]
    exact o7
  · rw [hll]
    rcases List.mem_or_eq_of_mem_set hr' with q | q
    · exact kp r (h.p r q)
    · rw [q]; exact kp r' hr
  · rw [List.map_set, h.m]
/-- another block is written -/
theorem Sq.other {w wx : World} {base g x : Nat} {c2 : Nat} {L : List EnD} {R : List EnR} (h : Sq w wx base (some ⟨g, 0, none⟩) c2 L R) {n : Int} {rest : List Value} (hx : Bx wx x (.int .i64 n :: rest)) (hg : x ≠ g) (h1 : w.heap.size + 1 < x) (i : Nat) (u : Value) : Sq w (wx.setCell ⟨x, i, none⟩ u) base (some ⟨g, 0, none⟩) c2 L R := by
  refine ⟨World.ownsRow.kept h.o (g_set wx x i u) (Or.inr (fun e => by injection e with e; exact hg e.symm)), fun r hr => ?_, h.m, h.t.other (by omega), h.r.other (by omega), h.b.setCell (by show w.heap.size ≤ x; omega) _, h.ge⟩
  obtain ⟨q0, q⟩ := h.p r hr
  refine ⟨q0, ?_⟩
  rcases q with q | ⟨gr, q1, q2, q3⟩
  · exact Or.inl q
  · by_cases hS9 : r.D.S = []
    · exact Or.inl hS9
    refine Or.inr ⟨gr, q1, q2.move (by simp) (fun j => set_blk (fun e9 => ?_)), q3⟩
    have h1 := q2.ci 0 (List.length_pos_iff.2 hS9)
    rw [← e9, hx.cv] at h1
    simp at h1
theorem aA_take (L : List AlD) (k j : Nat) (h : j < k) : aA (L.take k) j = aA L j := by
  unfold aA
  simp [List.getD, List.getElem?_take_of_lt h]
theorem aA_drop (L : List AlD) (k j : Nat) : aA (L.drop k) j = aA L (k + j) := by
  unfold aA
  simp [List.getD, List.getElem?_drop]
theorem Al.take {w : World} {b o : Nat} {L : List AlD} (h : Al w b o L) (k : Nat) (hk : k ≤ L.length) : Al w b o (L.take k) := by
  refine ⟨h.lt, fun j hj => ?_, fun j hj => ?_⟩
  · rw [List.length_take] at hj; rw [aA_take L k j (by omega)]; exact h.ci j (by omega)
  · rw [List.length_take] at hj; rw [aA_take L k j (by omega)]; exact h.cb j (by omega)
theorem Al.drop {w : World} {b o : Nat} {L : List AlD} (h : Al w b o L) (k : Nat) : Al w b (o + k * 2) (L.drop k) := by
  refine ⟨h.lt, fun j hj => ?_, fun j hj => ?_⟩
  · rw [List.length_drop] at hj; rw [aA_drop, show o + k * 2 + j * 2 = o + (k + j) * 2 by omega]; exact h.ci (k + j) (by omega)
  · rw [List.length_drop] at hj; rw [aA_drop, show o + k * 2 + j * 2 + 1 = o + (k + j) * 2 + 1 by omega]; exact h.cb (k + j) (by omega)
/-- the three appends of the model -/
theorem alTail {wc : World} (S : List AlD) (D : AlD) (k : Nat) (hk : k ≤ S.length) (hN : S.length ≤ 1000) (s1 s2 : Option Addr) (c1 c3 : Nat) (h1 : Sc wc s1 k (alC (S.take k))) (h2 : ∀ W, Below wc.heap.size wc W → Sc W s2 (S.length - k) (alC (S.drop k))) :
    ∃ v5 w5 v6 w6 a7 c7 w7, (Builtin.append_ #[41, 41] 41 #[.slice none 0 0, .slice s1 k c1]).run Try.prog wc = .ok v5 w5 ∧
      (Builtin.append_ #[41, 41] 41 #[v5, .slice (some ⟨w5.heap.size, 0, none⟩) 1 1]).run Try.prog (w5.alloc (.cells #[.string D.i, .string D.b] 45)) = .ok v6 w6 ∧
      (Builtin.append_ #[41, 41] 41 #[v6, .slice s2 (S.length - k) c3]).run Try.prog w6 = .ok (.slice a7 (S.length + 1) c7) w7 ∧
      Below wc.heap.size wc w5 ∧ Below wc.heap.size wc w6 ∧ Below wc.heap.size wc w7 ∧ Oa wc.heap.size w7 (.slice a7 (S.length + 1) c7) (S.take k ++ D :: S.drop k) := by
  have hl5 : (S.take k).length = k := by rw [List.length_take]; omega
  have hl7 : (S.drop k).length = S.length - k := by rw [List.length_drop]
  obtain ⟨v5, w5, r5, o5, g5, b5⟩ := appA wc 41 wc.heap.size (.slice none 0 0) [] (Oa.nil _ _) s1 c1 (S.take k) (by rw [hl5]; exact h1) (by rw [hl5]; simp; omega) (Nat.le_refl _)
  rw [hl5] at r5
  rw [List.nil_append] at o5
  have A5 : Below wc.heap.size wc w5 := grown_below g5 (Nat.le_refl _) (fun q e => by simp [Value.ownBlock] at e)
  have AL : Below w5.heap.size w5 (w5.alloc (.cells #[.string D.i, .string D.b] 45)) := (Below.refl _ _).alloc (Nat.le_refl _) _
  obtain ⟨v6, w6, r6, o6, g6, b6⟩ := appA (w5.alloc (.cells #[.string D.i, .string D.b] 45)) 41 wc.heap.size v5 (S.take k) (o5.below AL) (some ⟨w5.heap.size, 0, none⟩) 1 [D] (sc_al w5 D _) (by rw [hl5]; show k + 1 ≤ _; omega) (Nat.le_trans A5.size AL.size)
  have A6 : Below wc.heap.size wc w6 := (A5.trans (AL.mono A5.size)).trans (grown_below g6 (Nat.le_trans A5.size AL.size) (Oa.blk o5))
  obtain ⟨v7, w7, r7, o7, g7, b7⟩ := appA w6 41 wc.heap.size v6 (S.take k ++ [D]) o6 s2 c3 (S.drop k) (by rw [hl7]; exact h2 w6 A6) (by rw [List.length_append, hl5, hl7]; show k + 1 + _ ≤ _; omega) A6.size
  rw [hl7] at r7
  have A7 : Below wc.heap.size wc w7 := A6.trans (grown_below g7 A6.size (Oa.blk o6))
  have hap : S.take k ++ [D] ++ S.drop k = S.take k ++ D :: S.drop k := by simp
  rw [hap] at o7
  obtain ⟨a7, c7, e7, _, _⟩ := o7.form
  rw [ins_len S D k hk] at e7
  subst e7
  exact ⟨v5, w5, v6, w6, a7, c7, w7, r5, r6, r7, A5, A6, A7, o7⟩
/-- the first m servers are looked at, k of them lie ahead of the id -/
def LP (S : List AlD) (id bk : ByteArray) (k m : Nat) : Prop := (∀ t, t < m → ¬ (aA S t).i = id ∧ ¬ (aA S t).b = bk) ∧ (∀ t, t < k → ltT (aA S t).i id = true) ∧ ∀ t, k ≤ t → t < m → ltT (aA S t).i id = false
theorem LP.lo {S : List AlD} {id bk : ByteArray} {k m : Nat} {sv : Int} (h : LP S id bk k m) (hg : gsB S sv = true) (hm : m < S.length) (h1 : ¬ (aA S m).i = id) (h2 : ¬ (aA S m).b = bk) (h3 : ltT (aA S m).i id = true) : LP S id bk (m + 1) (m + 1) := by
  refine ⟨fun t ht => ?_, fun t ht => ?_, fun t h4 h5 => by omega⟩
  · by_cases e : t = m
    · rw [e]; exact ⟨h1, h2⟩
    · exact h.1 t (by omega)
  · by_cases e : t = m
    · rw [e]; exact h3
    · exact bl_trs _ _ _ (gs_lt hg (show t < m by omega) hm) h3
theorem LP.hi {S : List AlD} {id bk : ByteArray} {k m : Nat} (h : LP S id bk k m) (h1 : ¬ (aA S m).i = id) (h2 : ¬ (aA S m).b = bk) (h3 : ltT (aA S m).i id = false) : LP S id bk k (m + 1) := by
  refine ⟨fun t ht => ?_, h.2.1, fun t h4 h5 => ?_⟩
  · by_cases e : t = m
    · rw [e]; exact ⟨h1, h2⟩
    · exact h.1 t (by omega)
  · by_cases e : t = m
    · rw [e]; exact h3
    · exact h.2.2 t h4 (by omega)
theorem LP.no {S : List AlD} {id bk : ByteArray} {k : Nat} (h : LP S id bk k S.length) : ¬ tw S id bk := fun ⟨j, h1, h2⟩ => h2.elim (h.1 j h1).1 (h.1 j h1).2
theorem LP.pl {S : List AlD} {id bk : ByteArray} {k : Nat} {sv : Int} (h : LP S id bk k S.length) (hg : gsB S sv = true) (hk : k ≤ S.length) : plP S id = k := pl_is hg id hk h.2.1 (fun hl => h.2.2 k (Nat.le_refl _) hl)
set_option maxHeartbeats 8000000 in
theorem specAl (a : Option Addr) (cap : Nat) (L : List EnD) (s : Int) (id bk : ByteArray) (w : World) (hid : id.size ≤ 1048576) (hbk : bk.size ≤ 1048576) (hG : okE L) (hS : ∀ i, i < L.length → (eA L i).S.length ≤ 1048576) (h : Ea w a L) :
    Calls Try.prog 5 #[.agg #[.slice a L.length cap], .int .i64 s, .string id, .string bk] w fun e w' => ∃ L' c a' cap', auP L s id bk L' c ∧ e = .returned (.tuple #[.agg #[.slice a' L'.length cap'], .int .i64 c]) ∧ Ea w' a' L' ∧ Below w.heap.size w w' := by
  have HG := hide (fun W (b : Below w.heap.size w W) => specGT a cap L W hG hS (h.below b))
  cases hgt : gtB L with
  | false =>
    have HP : Hid (auP L s id bk [] 1) := Or.inl ⟨hgt, rfl, rfl⟩
    rw [hgt] at HG
    clear h hG hS hgt
    go_enter Try.func5, Try.ntmps5
    go_wp2_with fail
    refine (unhide HG _ (((Below.refl _ _).alloc (Nat.le_refl _) _).alloc (by simp) _)).mono ?_
    rintro e w1 ⟨rfl, b1⟩
    have R1 : Bx w1 (w.heap.size + 1) [.slice none 0 0] := (Bx.newAt (w.alloc _) _ _ _ (by simp)).below b1
    have B1 := hide ((((Below.refl w.heap.size w).alloc (Nat.le_refl _) _).alloc (by simp) _).trans (b1.mono (by simp; omega)))
    have r1 := R1.cv
    have r2 := R1.fz
    clear R1 b1
    go_wp2
    refine bodyPost_ret (v := .tuple #[.agg #[.slice none 0 0], .int .i64 1]) (by simp [results, Try.results5, go_sem, r1]) rfl ⟨[], 1, none, 0, unhide HP, rfl, Or.inl rfl, ?_⟩
    exact (unhide B1).setCell (by simp) _
  | true =>
    obtain ⟨hL3, hu, hwf⟩ := gt_facts hgt
    rw [hgt] at HG
    have HGT := hide hgt
    have HGS := hide (gt_srv hgt)
    have HG12 := hide (gt_len hgt)
    have HO := hide (fun W (b : Below w.heap.size w W) => ownTb a cap L W (by omega) (fun i hi => by have := gt_len hgt i hi; omega) (h.below b))
    clear h hG hS hgt hwf hu
    go_enter Try.func5, Try.ntmps5
    go_wp2_with fail
    refine (unhide HG _ (((Below.refl _ _).alloc (Nat.le_refl _) _).alloc (by simp) _)).mono ?_
    rintro e w1 ⟨rfl, b1⟩
    have T1 : Bx w1 w.heap.size [.slice a L.length cap] := ((Bx.new w _ _).alloc _).below b1
    have R1 : Bx w1 (w.heap.size + 1) [.slice none 0 0] := (Bx.newAt (w.alloc _) _ _ _ (by simp)).below b1
    have B1 := hide ((((Below.refl w.heap.size w).alloc (Nat.le_refl _) _).alloc (by simp) _).trans (b1.mono (by simp; omega)))
    have HR := hide R1
    have HT := hide T1
    have t1 := T1.cv
    have hsz1 := R1.lt
    clear R1 T1 b1
    go_wp2_with fail
    refine (unhide HO _ (unhide B1)).mono ?_
    rintro e w2 ⟨v, R, rfl, hO2, hR2, hP2, b2⟩
    obtain ⟨a2, c2, e2, hc2, hf2⟩ := hO2.form
    have hRL : R.length = L.length := by have := congrArg List.length hR2; simpa using this
    rw [hRL] at e2 hc2
    subst e2
    have hz2 := b2.size
    obtain ⟨w3, hw3⟩ : ∃ w3, w3 = w2.setCell ⟨w.heap.size, 0, none⟩ (.slice a2 L.length c2) := ⟨_, rfl⟩
    have T3 : Bx w3 w.heap.size [.slice a2 L.length c2] := by rw [hw3]; exact ((unhide HT).below b2).set (i := 0) (by simp)
    have R3 : Bx w3 (w.heap.size + 1) [.slice none 0 0] := by rw [hw3]; exact ((unhide HR).below b2).other (by omega)
    have B3 : Below w.heap.size w w3 := by rw [hw3]; exact ((unhide B1).trans (b2.mono (unhide B1).size)).setCell (Nat.le_refl _) _
    have O3 : Oe (w1.heap.size + 1 + 1) w3 (.slice a2 L.length c2) R := by
      refine ⟨hO2.1, ?_⟩
      rcases hO2.2 with q | ⟨g9, cap9, cur9, q1, q2, q3, q4⟩
      · exact Or.inl q
      · exact Or.inr ⟨g9, cap9, cur9, q1, q2, (by rw [hw3]; exact (Below.heap_setCell w2 ⟨w.heap.size, 0, none⟩ _ g9 (by show g9 ≠ w.heap.size; omega)).trans q3), q4⟩
    have P3 : ∀ r ∈ R, Pr w3 (.slice a2 L.length c2) r := fun r hr => by
      refine ⟨(hP2 r hr).1, ?_⟩
      rcases (hP2 r hr).2 with q | ⟨g, q1, q2, q3⟩
      · exact Or.inl q
      · by_cases hS9 : r.D.S = []
        · exact Or.inl hS9
        refine Or.inr ⟨g, q1, q2.move (by rw [hw3]; simp) (fun j => ?_), q3⟩
        rw [hw3]
        refine set_blk (fun e9 => ?_)
        have h1 := q2.ci 0 (List.length_pos_iff.2 hS9)
        rw [← e9, ((unhide HT).below b2).cv] at h1
        simp at h1
    have SQ : Hid (Sq w w3 (w1.heap.size + 1 + 1) a2 c2 L R) := ⟨O3, P3, hR2, T3, R3, B3, by omega⟩
    have t2c := ((unhide HT).below b2).cv
    have t2f := ((unhide HT).below b2).fz
    have HBk := hide (fun W => specBk bk W (by unfold maxLen; omega))
    clear hO2 hP2 hR2 b2 O3 P3 T3 R3 B3 t1 hf2 hRL hz2 HR HT B1 HG HO hc2
    generalize w1.heap.size + 1 + 1 = base at *
    subst hw3
    go_wp2_with fail
    refine (unhide HBk _).mono ?_
    rintro e w4 ⟨rfl, e4⟩
    rw [e4]
    clear e4 w4 HBk
    generalize w2.setCell ⟨w.heap.size, 0, none⟩ (.slice a2 L.length c2) = w3 at *
    clear t2c t2f
    have t3 := (unhide SQ).t.cv
    have r3 := (unhide SQ).r.cv
    have r3f := (unhide SQ).r.fz
    cases hg : bkB bk with
    | false =>
      have HP : Hid (auP L s id bk L 1) := Or.inr (Or.inl ⟨unhide HGT, hg, rfl, rfl⟩)
      have FIN := hide (unhide SQ).fin
      clear hg
      go_wp2
      refine bodyPost_ret (v := .tuple #[.agg #[.slice a2 L.length c2], .int .i64 1]) (by simp [results, Try.results5, go_sem, r3]) rfl ⟨L, 1, a2, c2, unhide HP, rfl, unhide FIN⟩
    | true =>
      have HAT := hide (atTb a2 c2 L s w3 (by omega) (by have h9 := unhide SQ; have := er_of rfl h9.o h9.p; rw [h9.m] at this; exact this.2))
      have HBG := hide hg
      clear hg
      go_wp2_with fail
      refine (unhide HAT).mono ?_
      rintro e w5 ⟨j, rfl, hj, b5⟩
      have SQ5 := hide ((unhide SQ).below b5)
      clear b5 SQ t3 r3 r3f HAT
      have t5 := (unhide SQ5).t.cv
      have r5 := (unhide SQ5).r.cv
      have r5f := (unhide SQ5).r.fz
      have hr5 := (unhide SQ5).r.lt
      rcases hj with ⟨rfl, hno⟩ | ⟨i, hi, his, rfl⟩
      · have HP : Hid (auP L s id bk L 2) := Or.inr (Or.inr (Or.inl ⟨unhide HGT, unhide HBG, hno, rfl, rfl⟩))
        have FIN := hide (unhide SQ5).fin
        clear hno
        go_wp2
        refine bodyPost_ret (v := .tuple #[.agg #[.slice a2 L.length c2], .int .i64 2]) (by simp [results, Try.results5, go_sem, r5]) rfl ⟨L, 2, a2, c2, unhide HP, rfl, unhide FIN⟩
      · have PUT : Hid (∀ L2 c2, auE (eA L i) id bk L i L2 c2 → auP L s id bk L2 c2) := fun L2 c2 h => Or.inr (Or.inr (Or.inr ⟨unhide HGT, unhide HBG, i, hi, his, h⟩))
        obtain ⟨g, rfl, hgb, hgl, hgf, hce, hpr, hrd⟩ := (unhide SQ5).at hi
        have HGSi := hide (unhide HGS i hi)
        have H12 := unhide HG12 i hi
        obtain ⟨d0, d1, d2, d3, d4, d5, d6⟩ := hce
        have hpra := hpr.aa
        rw [hrd] at hpra
        have hi0 : (0 : Int) ≤ (i : Int) := by omega
        have hiL : (i : Int) < (L.length : Int) := by omega
        have hiN : ¬ (i : Int) < 0 := by omega
        have HPRA := hide hpra
        clear his hpr hrd hpra HGT HGS HG12 HBG
        generalize hE : eA L i = E at *
        clear hE
        generalize (rA R i).ra = ra at *
        generalize (rA R i).cap = rc at *
        have A6 : Below w5.heap.size w5 (w5.alloc (.cells #[.int .i64 E.sl, .int .i64 E.sv, .int .i64 E.nc, .string E.k, .bool E.t, .slice ra E.S.length rc, .int .i64 E.nx] 43)) := (Below.refl _ _).alloc (Nat.le_refl _) _
        have X6 : Hid (Bx (w5.alloc (.cells #[.int .i64 E.sl, .int .i64 E.sv, .int .i64 E.nc, .string E.k, .bool E.t, .slice ra E.S.length rc, .int .i64 E.nx] 43)) w5.heap.size [.int .i64 E.sl, .int .i64 E.sv, .int .i64 E.nc, .string E.k, .bool E.t, .slice ra E.S.length rc, .int .i64 E.nx]) := Bx.new w5 _ _
        have SQ6 := hide ((unhide SQ5).below A6)
        have HA6 := hide ((unhide HPRA).2.below A6)
        have hsz6 : (w5.alloc (.cells #[.int .i64 E.sl, .int .i64 E.sv, .int .i64 E.nc, .string E.k, .bool E.t, .slice ra E.S.length rc, .int .i64 E.nx] 43)).heap.size = w5.heap.size + 1 := by simp
        by_cases hsz : (id.size : Int) = E.sv
        case neg =>
          have HP := hide (unhide PUT L 1 (Or.inl ⟨hsz, rfl, rfl⟩))
          have FIN := hide (unhide SQ6).fin
          have t6 := (unhide SQ6).t.cv
          have r6 := (unhide SQ6).r.cv
          have r6f := (unhide SQ6).r.fz
          have x6 := (unhide X6).cv
          clear A6
          go_upto_region 10 with fail
          generalize w5.alloc (.cells #[.int .i64 E.sl, .int .i64 E.sv, .int .i64 E.nc, .string E.k, .bool E.t, .slice ra E.S.length rc, .int .i64 E.nx] 43) = W6 at *
          clear d0 d1 d2 d3 d4 d5 d6 t5 r5 r5f hgf SQ5
          generalize w5.heap.size = xe at *
          go_wp2
          refine bodyPost_ret (v := .tuple #[.agg #[.slice (some ⟨g, 0, none⟩) L.length c2], .int .i64 1]) (by simp [results, Try.results5, go_sem, r6]) rfl ⟨L, 1, some ⟨g, 0, none⟩, c2, unhide HP, rfl, unhide FIN⟩
        clear A6
        go_wp2_with fail
        generalize w5.alloc (.cells #[.int .i64 E.sl, .int .i64 E.sv, .int .i64 E.nc, .string E.k, .bool E.t, .slice ra E.S.length rc, .int .i64 E.nx] 43) = W6 at *
        clear d0 d1 d2 d3 d4 d5 d6 t5 r5 r5f hgf SQ5
        generalize w5.heap.size = xe at *
        have HSZ := hide hsz
        go_loopw [12, 47] (fun kv jv wr => ∃ k m : Nat, k ≤ m ∧ m ≤ E.S.length ∧ kv = .int .i64 k ∧ jv = .int .i64 m ∧ LP E.S id bk k m ∧ Below W6.heap.size W6 wr) (fun _ jv _ => E.S.length - (intOf jv).toNat)
        case atStart => exact ⟨0, 0, Nat.le_refl _, Nat.zero_le _, rfl, rfl, ⟨fun t ht => absurd ht (Nat.not_lt_zero _), fun t ht => absurd ht (Nat.not_lt_zero _), fun t _ ht => absurd ht (Nat.not_lt_zero _)⟩, Below.refl _ _⟩
        case round =>
          obtain ⟨k, m, hkm, hm, rfl, rfl, hlp, hbr⟩ := hrel
          have HLP := hide hlp
          have HBR := hide hbr
          clear hlp hbr
          by_cases hlt : m < E.S.length
          · rcases (unhide HA6).below (unhide HBR) with h0 | ⟨bb, o, rfl, hel⟩
            · rw [h0] at hlt; exact absurd hlt (Nat.not_lt_zero _)
            have c0 := hel.ci m hlt
            have c1 := hel.cb m hlt
            have hmI : (m : Int) < (E.S.length : Int) := by omega
            have AB := (unhide HBR).alloc (unhide HBR).size (.cells #[.string (aA E.S m).i, .string (aA E.S m).b] 45)
            have SQ7 := hide ((unhide SQ6).below AB)
            have HAB := hide AB
            have TW : Hid ((aA E.S m).i = id ∨ (aA E.S m).b = bk → auP L s id bk L 3) := fun h => unhide PUT L 3 (Or.inr (Or.inl ⟨unhide HSZ, ⟨m, hlt, h⟩, rfl, rfl⟩))
            have LO : Hid (¬ (aA E.S m).i = id → ¬ (aA E.S m).b = bk → ltT (aA E.S m).i id = true → LP E.S id bk (m + 1) (m + 1)) := fun h1 h2 h3 => (unhide HLP).lo (unhide HGSi) hlt h1 h2 h3
            have HI : Hid (¬ (aA E.S m).i = id → ¬ (aA E.S m).b = bk → ltT (aA E.S m).i id = false → LP E.S id bk k (m + 1)) := fun h1 h2 h3 => (unhide HLP).hi h1 h2 h3
            clear hel AB
            generalize aA E.S m = D at *
            by_cases e1 : (D.i.toList == id.toList) = true
            · have HP := hide (unhide TW (Or.inl ((bq_str _ _).1 e1)))
              have FIN := hide (unhide SQ7).fin
              have e1' := eq_of_beq e1
              have t7 := (unhide SQ7).t.cv
              have r7 := (unhide SQ7).r.cv
              have r7f := (unhide SQ7).r.fz
              clear e1
              go_wp2
              refine bodyPost_ret (v := .tuple #[.agg #[.slice (some ⟨g, 0, none⟩) L.length c2], .int .i64 3]) (by simp [results, Try.results5, go_sem, r7]) rfl ⟨L, 3, some ⟨g, 0, none⟩, c2, unhide HP, rfl, unhide FIN⟩
            by_cases e2 : (D.b.toList == bk.toList) = true
            · have HP := hide (unhide TW (Or.inr ((bq_str _ _).1 e2)))
              have FIN := hide (unhide SQ7).fin
              have e1' := Bool.eq_false_iff.2 e1
              have e2' := eq_of_beq e2
              have t7 := (unhide SQ7).t.cv
              have r7 := (unhide SQ7).r.cv
              have r7f := (unhide SQ7).r.fz
              clear e1 e2
              go_wp2
              refine bodyPost_ret (v := .tuple #[.agg #[.slice (some ⟨g, 0, none⟩) L.length c2], .int .i64 3]) (by simp [results, Try.results5, go_sem, r7]) rfl ⟨L, 3, some ⟨g, 0, none⟩, c2, unhide HP, rfl, unhide FIN⟩
            have n1 : ¬ D.i = id := fun e => e1 ((bq_str _ _).2 e)
            have n2 : ¬ D.b = bk := fun e => e2 ((bq_str _ _).2 e)
            have e1' := Bool.eq_false_iff.2 e1
            have e2' := Bool.eq_false_iff.2 e2
            clear e1 e2
            cases e3 : ltT D.i id with
            | true =>
              have F := hide (unhide LO n1 n2 e3)
              have e3' : Go.Op.bytesLess D.i.toList id.toList = true := e3
              clear n1 n2 e3
              go_wp2
              exact ⟨⟨m + 1, m + 1, Nat.le_refl _, by omega, by go_num, by go_num, unhide F, unhide HAB⟩, by simp [intOf]; omega⟩
            | false =>
              have F := hide (unhide HI n1 n2 e3)
              have e3' : Go.Op.bytesLess D.i.toList id.toList = false := e3
              clear n1 n2 e3
              go_wp2
              exact ⟨⟨k, m + 1, by omega, by omega, rfl, by go_num, unhide F, unhide HAB⟩, by simp [intOf]; omega⟩
          · obtain rfl : m = E.S.length := by omega
            have hpl := (unhide HLP).pl (unhide HGSi) hkm
            have hno := (unhide HLP).no
            have SQ8 := hide ((unhide SQ6).below (unhide HBR))
            have X8 := hide ((unhide X6).below (unhide HBR))
            have HA8 := hide ((unhide HA6).below (unhide HBR))
            by_cases h12 : E.S.length = 12
            · have HP := hide (unhide PUT L 4 (Or.inr (Or.inr (Or.inl ⟨unhide HSZ, hno, h12, rfl, rfl⟩))))
              have FIN := hide (unhide SQ8).fin
              have t7 := (unhide SQ8).t.cv
              have r7 := (unhide SQ8).r.cv
              have r7f := (unhide SQ8).r.fz
              have x7 := (unhide X8).cv
              have h12I : (E.S.length : Int) = 12 := by omega
              clear hpl hno h12
              go_wp2
              refine bodyPost_ret (v := .tuple #[.agg #[.slice (some ⟨g, 0, none⟩) L.length c2], .int .i64 4]) (by simp [results, Try.results5, go_sem, r7]) rfl ⟨L, 4, some ⟨g, 0, none⟩, c2, unhide HP, rfl, unhide FIN⟩
            have HP := hide (unhide PUT _ 0 (Or.inr (Or.inr (Or.inr ⟨unhide HSZ, hno, h12, rfl, rfl⟩))))
            rw [hpl] at HP
            have h12I : ¬ (E.S.length : Int) = 12 := by omega
            have x8 := (unhide X8).cv
            have x8f := (unhide X8).fz
            have x8l := (unhide X8).lt
            clear hpl hno h12
            go_upto_region 23 with fail
            have FINAL : Hid (∀ (w7 : World) (a7 : Option Addr) (c7 : Nat), Below wr.heap.size wr w7 → Oa wr.heap.size w7 (.slice a7 (E.S.length + 1) c7) (E.S.take k ++ ⟨id, bk⟩ :: E.S.drop k) → Ea ((((((((((w7.setCell ⟨xe, 5, none⟩ (.slice a7 (E.S.length + 1) c7)).setCell ⟨g, i * 7, none⟩ (.int .i64 E.sl)).setCell ⟨g, i * 7 + 1, none⟩ (.int .i64 E.sv)).setCell ⟨g, i * 7 + 2, none⟩ (.int .i64 E.nc)).setCell ⟨g, i * 7 + 3, none⟩ (.string E.k)).setCell ⟨g, i * 7 + 4, none⟩ (.bool E.t)).setCell ⟨g, i * 7 + 5, none⟩ (.slice a7 (E.S.length + 1) c7)).setCell ⟨g, i * 7 + 6, none⟩ (.int .i64 E.nx))).setCell ⟨w.heap.size + 1, 0, none⟩ (.slice (some ⟨g, 0, none⟩) L.length c2)) (some ⟨g, 0, none⟩) (L.set i (inS E k ⟨id, bk⟩)) ∧ Below w.heap.size w ((((((((((w7.setCell ⟨xe, 5, none⟩ (.slice a7 (E.S.length + 1) c7)).setCell ⟨g, i * 7, none⟩ (.int .i64 E.sl)).setCell ⟨g, i * 7 + 1, none⟩ (.int .i64 E.sv)).setCell ⟨g, i * 7 + 2, none⟩ (.int .i64 E.nc)).setCell ⟨g, i * 7 + 3, none⟩ (.string E.k)).setCell ⟨g, i * 7 + 4, none⟩ (.bool E.t)).setCell ⟨g, i * 7 + 5, none⟩ (.slice a7 (E.S.length + 1) c7)).setCell ⟨g, i * 7 + 6, none⟩ (.int .i64 E.nx))).setCell ⟨w.heap.size + 1, 0, none⟩ (.slice (some ⟨g, 0, none⟩) L.length c2))) := fun w7 a7 c7 hA7 hO7 => by
              have Q7 := (unhide SQ8).below hA7
              have X7 := (unhide X8).below hA7
              have Q9 := Q7.other X7 (by omega) (by omega) 5 (.slice a7 (E.S.length + 1) c7)
              have hS' : (inS E k ⟨id, bk⟩).S ≠ [] := by unfold inS; simp
              have hlS : (inS E k ⟨id, bk⟩).S.length = E.S.length + 1 := ins_len E.S ⟨id, bk⟩ k hkm
              have hpr : Pr (w7.setCell ⟨xe, 5, none⟩ (.slice a7 (E.S.length + 1) c7)) (.slice (some ⟨g, 0, none⟩) L.length c2) ⟨inS E k ⟨id, bk⟩, a7, c7⟩ := by
                obtain ⟨a', c', e', hc', hf⟩ := hO7.form
                injection e' with q1 _ q3
                subst q1 q3
                refine ⟨by rw [hlS]; rw [ins_len E.S ⟨id, bk⟩ k hkm] at hc'; exact hc', ?_⟩
                rcases hf with hf | ⟨g7, q, hA⟩
                · exact absurd hf hS'
                · refine Or.inr ⟨g7, q, hA.al.move (by simp) (fun j => set_blk (by have := hA.ge; omega)), fun e => ?_⟩
                  injection e with e
                  have e' : g7 = g := e
                  have := hA.ge
                  omega
              have Q10 := (Q9.put hi ⟨inS E k ⟨id, bk⟩, a7, c7⟩ hpr hS').fin
              rw [List.length_set, hlS] at Q10
              exact Q10
            have t8 := (unhide SQ8).t.cv
            have t8l := (unhide SQ8).t.lt
            have hrc := (unhide HPRA).1
            have hk0 : (0 : Int) ≤ (k : Int) := by omega
            have hkI : (k : Int) ≤ (E.S.length : Int) := by omega
            have hkc : (k : Int) ≤ (rc : Int) := by omega
            have hkc' : k ≤ rc := by omega
            rcases unhide HA8 with h0 | ⟨bb, o, rfl, hel⟩
            · have hkz : k = 0 := by rw [h0] at hkm; exact Nat.le_zero.1 hkm
              subst hkz
              obtain ⟨esl, esv, enc, ek, et, eS, enx⟩ := E
              dsimp only at h0
              subst h0
              cases ra with
              | none =>
                obtain ⟨v5, w5', v6, w6, a7, c7, w7, q5, q6, q7, A5, A6, A7, O7⟩ := alTail (wc := wr) [] ⟨id, bk⟩ 0 (Nat.le_refl _) (by simp) none none rc rc (Or.inl ⟨rfl, rfl⟩) (fun W hW => Or.inl ⟨rfl, rfl⟩)
                have FIN := hide (unhide FINAL w7 a7 c7 A7 O7)
                have X5 := (unhide X8).below A5
                have X6 := (unhide X8).below A6
                have X7 := (unhide X8).below A7
                have Q7 := (unhide SQ8).below A7
                have x5 := X5.cv
                have x6 := X6.cv
                have x7 := X7.cv
                have x7f := X7.fz
                have x7l := X7.lt
                have t7 := Q7.t.cv
                have t7l := Q7.t.lt
                have r7 := Q7.r.cv
                have r7f := Q7.r.fz
                obtain ⟨g', e', _, hgl', hgf', hce', _⟩ := Q7.at hi
                injection e' with e'
                injection e' with e'
                subst e'
                obtain ⟨z0, z1, z2, z3, z4, z5, z6⟩ := hce'
                have hxg : xe ≠ g := by omega
                have hgx : g ≠ xe := by omega
                have hxt : xe ≠ w.heap.size := by omega
                have htx : w.heap.size ≠ xe := by omega
                have hgt' : g ≠ w.heap.size := by have := (unhide SQ8).ge; omega
                have htg : w.heap.size ≠ g := by have := (unhide SQ8).ge; omega
                have hgr : g ≠ w.heap.size + 1 := by have := (unhide SQ8).ge; omega
                have hrg : w.heap.size + 1 ≠ g := by have := (unhide SQ8).ge; omega
                have hxr : xe ≠ w.heap.size + 1 := by omega
                have hrx : w.heap.size + 1 ≠ xe := by omega
                have RUN5 := hide q5
                have RUN6 := hide q6
                have RUN7 := hide q7
                clear q5 q6 q7 A5 A6 A7 O7 X5 X6 X7 Q7 h12I FINAL HLP HBR
                go_wp2_with (first | (at_builtin; refine wpl_app rfl _ _ 41 rfl _ _ _ _ rfl rfl (unhide RUN5) ?_) | (at_builtin; refine wpl_app rfl _ _ 41 rfl _ _ _ _ rfl rfl (unhide RUN6) ?_) | (at_builtin; refine wpl_app rfl _ _ 41 rfl _ _ _ _ rfl rfl (unhide RUN7) ?_))
                all_goals
                  refine bodyPost_ret (v := .tuple #[.agg #[.slice (some ⟨g, 0, none⟩) L.length c2], .int .i64 0]) (by simp [results, Try.results5, go_sem, r7]) rfl ?_
                  first | exact ⟨_, 0, some ⟨g, 0, none⟩, c2, unhide HP, by rw [List.length_set], unhide FIN⟩ | exact ⟨_, 0, unhide HP, some ⟨g, 0, none⟩, ⟨c2, by rw [List.length_set]⟩, unhide FIN⟩
              | some pa =>
                obtain ⟨v5, w5', v6, w6, a7, c7, w7, q5, q6, q7, A5, A6, A7, O7⟩ := alTail (wc := wr) [] ⟨id, bk⟩ 0 (Nat.le_refl _) (by simp) (some pa) (some pa) rc rc (Or.inl ⟨rfl, rfl⟩) (fun W hW => Or.inl ⟨rfl, rfl⟩)
                have FIN := hide (unhide FINAL w7 a7 c7 A7 O7)
                have X5 := (unhide X8).below A5
                have X6 := (unhide X8).below A6
                have X7 := (unhide X8).below A7
                have Q7 := (unhide SQ8).below A7
                have x5 := X5.cv
                have x6 := X6.cv
                have x7 := X7.cv
                have x7f := X7.fz
                have x7l := X7.lt
                have t7 := Q7.t.cv
                have t7l := Q7.t.lt
                have r7 := Q7.r.cv
                have r7f := Q7.r.fz
                obtain ⟨g', e', _, hgl', hgf', hce', _⟩ := Q7.at hi
                injection e' with e'
                injection e' with e'
                subst e'
                obtain ⟨z0, z1, z2, z3, z4, z5, z6⟩ := hce'
                have hxg : xe ≠ g := by omega
                have hgx : g ≠ xe := by omega
                have hxt : xe ≠ w.heap.size := by omega
                have htx : w.heap.size ≠ xe := by omega
                have hgt' : g ≠ w.heap.size := by have := (unhide SQ8).ge; omega
                have htg : w.heap.size ≠ g := by have := (unhide SQ8).ge; omega
                have hgr : g ≠ w.heap.size + 1 := by have := (unhide SQ8).ge; omega
                have hrg : w.heap.size + 1 ≠ g := by have := (unhide SQ8).ge; omega
                have hxr : xe ≠ w.heap.size + 1 := by omega
                have hrx : w.heap.size + 1 ≠ xe := by omega
                have RUN5 := hide q5
                have RUN6 := hide q6
                have RUN7 := hide q7
                clear q5 q6 q7 A5 A6 A7 O7 X5 X6 X7 Q7 h12I FINAL HLP HBR
                go_wp2_with (first | (at_builtin; refine wpl_app rfl _ _ 41 rfl _ _ _ _ rfl rfl (unhide RUN5) ?_) | (at_builtin; refine wpl_app rfl _ _ 41 rfl _ _ _ _ rfl rfl (unhide RUN6) ?_) | (at_builtin; refine wpl_app rfl _ _ 41 rfl _ _ _ _ rfl rfl (unhide RUN7) ?_))
                all_goals
                  refine bodyPost_ret (v := .tuple #[.agg #[.slice (some ⟨g, 0, none⟩) L.length c2], .int .i64 0]) (by simp [results, Try.results5, go_sem, r7]) rfl ?_
                  first | exact ⟨_, 0, some ⟨g, 0, none⟩, c2, unhide HP, by rw [List.length_set], unhide FIN⟩ | exact ⟨_, 0, unhide HP, some ⟨g, 0, none⟩, ⟨c2, by rw [List.length_set]⟩, unhide FIN⟩
            obtain ⟨s2, hs2⟩ : ∃ s2, s2 = (if rc = k then some (⟨bb, o, none⟩ : Addr) else some ⟨bb, o + k * 2, none⟩) := ⟨_, rfl⟩
            obtain ⟨v5, w5', v6, w6, a7, c7, w7, q5, q6, q7, A5, A6, A7, O7⟩ := alTail (wc := wr) E.S ⟨id, bk⟩ k hkm (by omega) (some ⟨bb, o, none⟩) s2 rc (rc - k) (by
                have h9 := (show Aa wr (some ⟨bb, o, none⟩) (E.S.take k) from Or.inr ⟨bb, o, rfl, hel.take k hkm⟩).sc
                rw [show (E.S.take k).length = k by rw [List.length_take]; omega] at h9
                exact h9) (fun W hW => by
                by_cases c9 : rc = k
                · refine Or.inl ⟨by omega, ?_⟩
                  rw [List.drop_eq_nil_of_le (by omega)]
                  rfl
                · rw [hs2, if_neg c9]
                  have h9 := (show Aa W (some ⟨bb, o + k * 2, none⟩) (E.S.drop k) from Or.inr ⟨bb, o + k * 2, rfl, (hel.drop k).below hW⟩).sc
                  rw [List.length_drop] at h9
                  exact h9)
            rw [hs2] at q7
            have FIN := hide (unhide FINAL w7 a7 c7 A7 O7)
            have X5 := (unhide X8).below A5
            have X6 := (unhide X8).below A6
            have X7 := (unhide X8).below A7
            have Q7 := (unhide SQ8).below A7
            have x5 := X5.cv
            have x6 := X6.cv
            have x7 := X7.cv
            have x7f := X7.fz
            have x7l := X7.lt
            have t7 := Q7.t.cv
            have t7l := Q7.t.lt
            have r7 := Q7.r.cv
            have r7f := Q7.r.fz
            obtain ⟨g', e', _, hgl', hgf', hce', _⟩ := Q7.at hi
            injection e' with e'
            injection e' with e'
            subst e'
            obtain ⟨z0, z1, z2, z3, z4, z5, z6⟩ := hce'
            have hxg : xe ≠ g := by omega
            have hgx : g ≠ xe := by omega
            have hxt : xe ≠ w.heap.size := by omega
            have htx : w.heap.size ≠ xe := by omega
            have hgt' : g ≠ w.heap.size := by have := (unhide SQ8).ge; omega
            have htg : w.heap.size ≠ g := by have := (unhide SQ8).ge; omega
            have hgr : g ≠ w.heap.size + 1 := by have := (unhide SQ8).ge; omega
            have hrg : w.heap.size + 1 ≠ g := by have := (unhide SQ8).ge; omega
            have hxr : xe ≠ w.heap.size + 1 := by omega
            have hrx : w.heap.size + 1 ≠ xe := by omega
            have RUN5 := hide q5
            have RUN6 := hide q6
            have RUN7 := hide q7
            clear q5 q6 q7 A5 A6 A7 O7 hs2 X5 X6 X7 Q7 hel h12I FINAL HLP HBR
            go_wp2_with (first | (at_builtin; refine wpl_app rfl _ _ 41 rfl _ _ _ _ rfl rfl (unhide RUN5) ?_) | (at_builtin; refine wpl_app rfl _ _ 41 rfl _ _ _ _ rfl rfl (unhide RUN6) ?_) | (at_builtin; refine wpl_app rfl _ _ 41 rfl _ _ _ _ rfl rfl (unhide RUN7) ?_))
            all_goals
              refine bodyPost_ret (v := .tuple #[.agg #[.slice (some ⟨g, 0, none⟩) L.length c2], .int .i64 0]) (by simp [results, Try.results5, go_sem, r7]) rfl ?_
              first | exact ⟨_, 0, some ⟨g, 0, none⟩, c2, unhide HP, by rw [List.length_set], unhide FIN⟩ | exact ⟨_, 0, unhide HP, some ⟨g, 0, none⟩, ⟨c2, by rw [List.length_set]⟩, unhide FIN⟩
end Go.Proofs.Ythgogkimjhjepaa
