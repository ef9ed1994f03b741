/-
  Contracts of the program: CapsulesBytes and CarriedBytes.
-/
import Derived.Test.YtgieglpjkjncfabDoorOwb
import Derived.Test.YtgieglpjkjncfabDoorCpb
import Derived.Test.YtgieglpjkjncfabDoorCpg
import Derived.Test.YtgieglpjkjncfabDoorCdc
import Derived.Deep.RegionHeld
import Derived.Deep.DeepCutAuto
namespace Go.Proofs.YtgieglpjkjncfabDoor
open Go.ChangeShapes Go.WideShapes Go.ChangeAt Go.RowKit
set_option linter.unusedVariables false
set_option maxRecDepth 100000

/-- the bytes of the first m of some numbers -/
def vbs (N : Nat → Int) : Nat → List UInt8
  | 0 => []
  | m + 1 => vbs N m ++ vb (N m)
theorem vbs_length (N : Nat → Int) : ∀ m, (vbs N m).length ≤ 8 * m
  | 0 => by simp [vbs]
  | m + 1 => by
    have h1 := vbs_length N m
    have h2 := vb_length (N m)
    have h3 := vsz_le (N m)
    simp only [vbs, List.length_append]; omega

set_option maxHeartbeats 1000000 in
theorem appendNumbers_ow (v : Value) (xs : List UInt8) (p m : Nat) (N : Nat → Int) (cur : Array Value) (fr : Nat × Nat) (w : World) (base : Nat) (h : Ow base w v xs) (hbase : base ≤ w.heap.size) (htz : Tz w) (hg1 : 1 < base) (hlen : xs.length ≤ 1048576) (hm : m ≤ 4)
    (hp : w.heap[p]? = some (.cells cur 3 fr)) (hc : ∀ i, i < m → cur[i]? = some (.int .i64 (N i))) (hN : ∀ i, i < m → 0 ≤ N i ∧ N i ≤ 4611686018427387903) :
    Calls Tryd.prog 20 #[v, .slice (some ⟨p, 0, none⟩) m m] w fun e w' => ∃ v', e = .returned v' ∧ Ow base w' v' (xs ++ vbs N m) ∧ Gr w w' v v' := by
  have HO := hide h
  have HP := hide hp
  have HC := hide hc
  have HN := hide hN
  have HT := hide htz
  clear h hp hc hN htz
  go_enter Tryd.func20, Tryd.ntmps20
  go_wp2
  go_loopw [0, 9] (fun u i wr => ∃ q : Nat, q ≤ m ∧ i = .int .i64 q ∧ Ow base wr u (xs ++ vbs N q) ∧ Gr w wr v u) (fun _ i _ => m - (intOf i).toNat)
  case atStart => exact ⟨0, Nat.zero_le _, rfl, by simpa [vbs] using unhide HO, Gr.refl _ _⟩
  case round =>
    obtain ⟨q, hq, rfl, how, hgr⟩ := hrel
    by_cases hlt : q < m
    · have hpr := hgr.keep (unhide HP) ((unhide HO).far (unhide HP) (by decide))
      have hcell : wr.cell? ⟨p, q, none⟩ = some (.int .i64 (N q)) := by
        rw [cell_of_row wr p q cur 3 fr hpr]; exact unhide HC q hlt
      have hlq := vbs_length N q
      have hb := hgr.below (unhide HO) hbase
      have HV := hide (appendVarint_ow u0 (xs ++ vbs N q) (N q) wr base how (Nat.le_trans hbase hb.size) ((unhide HT).kept hb hg1) hg1 (by rw [List.length_append]; omega) (unhide HN q hlt).1 (unhide HN q hlt).2)
      clear how hpr
      go_wp2_with (go_at_call 41; refine (unhide HV).mono ?_; rintro e w2 ⟨v2, rfl, how2, hgr2⟩)
      exact ⟨⟨q + 1, by omega, by go_num, by rw [vbs, ← List.append_assoc]; exact how2, hgr.trans hgr2⟩, by simp [intOf]; omega⟩
    · obtain rfl : q = m := by omega
      go_wp2
      go_ret
      exact ⟨_, rfl, how, hgr⟩

/-- a text put behind what the call owns, at a step of a drawn order -/
theorem step_append_string {P : Program} (w : World) {ops : Array Oper} {o : Oper} {a : Act} {K : Act → World → Prop} {Q : Exit → Act → World → Prop} {E : Prop} (hgd : o.guard = none) (sl x : Operand) (t u : TypeId)
    (ho : o.op = .call { callee := .builtin .append, args := #[sl, x], argTypes := #[t, u] })
    (base : Nat) (e : TypeId) (i : TypeInfo) (ht : P.underlying t = some (.slice e)) (hu : P.underlying u = some .string) (hi : P.info? e = some i) (hz : i.zero = some (.int .u8 0))
    (hsize : i.size = 1) (hby : i.bytes = 1)
    (v : Value) (n : Nat) (xs : List Value) (hs : a.eval sl = v) (hown : w.ownsRow base e 1 v n xs) (s : ByteArray) (hx : a.eval x = .string s)
    (h63 : n + s.size ≤ maxLen) (hbytes : n + s.size ≤ 140737488355328) (hbase : base ≤ w.heap.size)
    (h : ∀ v' w', w'.ownsRow base e 1 v' (n + s.size) (xs ++ Lib.strCells s) → w.grownBy w' v.ownBlock → K (a.put o.dst v') w') :
    if Region.wanted o (yielded ops a.tmps) = true then Oper.wp P o a w K Q else E := by
  have hw : Region.wanted o (yielded ops a.tmps) = true := by simp [Region.wanted, hgd]
  rw [if_pos hw]
  obtain ⟨v', w', hr, h2, h3, h4⟩ := Lib.run_append_own_string (P := P) w base t u o.type e i ht hu hi hz hsize hby v n xs hown s h63 hbytes hbase
  unfold Oper.wp execOp
  simp only [ho, resolve, invoke, builtin, Sem.run_bind, Sem.run_pure, Result.andThen_ok, List.map_toArray, List.map_cons, List.map_nil, hs, hx, hr]
  exact h v' w' h2 h3

end Go.Proofs.YtgieglpjkjncfabDoor
namespace Go.Proofs.YtgieglpjkjncfabDoor.Rc
open Go.ChangeShapes Go.WideShapes Go.ChangeAt Go.RowKit Go.Deep
set_option linter.unusedVariables false
set_option maxRecDepth 100000

theorem tz_low {W : World} (h : Tz W) : 1 < W.heap.size := World.block_lt_of_cell? W _ h.c0
/-- the bytes of capsules as a text -/
def cbT (L : List CapsuleD) : ByteArray := ⟨(cbL L).toArray⟩
def cbR (L : List CapsuleD) : ByteArray := if gdL L = true then cbT L else ⟨#[]⟩
theorem cbC_len {D : CapsuleD} (h : gdC D = true) : (cbC D).length ≤ 216 := by
  unfold gdC at h
  rw [Bool.and_eq_true, decide_eq_true_eq] at h
  have h1 := vb_le D.f0
  have h2 := vb_le (D.f1.size : Int)
  have hl : D.f1.data.toList.length = D.f1.size := by rw [Array.length_toList]; rfl
  unfold cbC
  rw [List.length_append, List.length_append]
  omega
theorem cb_len : ∀ (L : List CapsuleD), L.all gdC = true → (cbL L).length ≤ 216 * L.length
  | [], _ => by simp [cbL]
  | D :: L, h => by
    rw [List.all_cons, Bool.and_eq_true] at h
    have h1 := cbC_len h.1
    have h2 := cb_len L h.2
    unfold cbL at h2 ⊢
    rw [List.flatMap_cons, List.length_append, List.length_cons]
    omega
theorem cb_take {L : List CapsuleD} {k : Nat} (hk : k < L.length) : cbL (L.take (k + 1)) = cbL (L.take k) ++ cbC (gt capsuleK L k) := by
  have e : L.take (k + 1) = L.take k ++ [gt capsuleK L k] := by rw [gt_of capsuleK L k hk]; exact (List.take_append_getElem hk).symm
  unfold cbL
  rw [e, List.flatMap_append]
  simp
theorem all_take16 {L : List CapsuleD} (h : L.all gdC = true) (k : Nat) : (L.take k).all gdC = true := by
  rw [List.all_eq_true] at h ⊢
  exact fun x hx => h x (List.mem_of_mem_take hx)
theorem all_gt16 {L : List CapsuleD} (h : L.all gdC = true) {k : Nat} (hk : k < L.length) : gdC (gt capsuleK L k) = true := by
  rw [List.all_eq_true] at h
  exact h _ (gt_mem capsuleK L k hk)
set_option maxHeartbeats 8000000 in
theorem implCB (L : List CapsuleD) (a : Option Addr) (c : Nat) (w : World) (hz : Tz w) (hm : L.length ≤ 1048576) (ho : ∀ i, i < L.length → (gt capsuleK L i).f1.size ≤ 1048576) (h : Rd capsuleK w a L) :
    Calls Tryd.prog 6 #[.slice a L.length c] w fun e w' => e = .returned (.tuple #[.string (cbR L), .bool (gdL L)]) ∧ Below w.heap.size w w' := by
  have HG := hide (implGC L a c w hm ho h)
  have HR := hide h
  have HTZ := hide hz
  have hg1 := tz_low hz
  clear h ho hz
  unfold cbR
  cases hg : gdL L with
  | false =>
    rw [hg] at HG
    rw [if_neg (by decide)]
    go_enter Tryd.func6, Tryd.ntmps6
    go_wp2_with fail
    refine (unhide HG).mono ?_
    rintro e w1 ⟨rfl, b1⟩
    go_wp2_with fail
    refine bodyPost_ret (v := .tuple #[.string ⟨#[]⟩, .bool false]) (by simp [results, Tryd.results6, go_sem]) rfl ?_
    exact ⟨rfl, b1⟩
  | true =>
    have hg2 := hg
    unfold gdL at hg2
    rw [Bool.and_eq_true, decide_eq_true_eq] at hg2
    have hl30 := hg2.1
    have HAL := hide hg2.2
    rw [hg] at HG
    rw [if_pos rfl]
    clear hg hg2
    go_enter Tryd.func6, Tryd.ntmps6
    go_wp2_with fail
    refine (unhide HG).mono ?_
    rintro e w1 ⟨rfl, b1⟩
    have B1 := hide b1
    clear b1 HG
    go_wp2_with fail
    go_loopw [4, 12] (fun v iv wr => ∃ k : Nat, k ≤ L.length ∧ iv = .int .i64 k ∧ Hid (Ow w.heap.size wr v (cbL (L.take k))) ∧ Hid (Below w.heap.size w wr)) (fun _ iv _ => L.length - (intOf iv).toNat)
    case atStart => exact ⟨0, Nat.zero_le _, rfl, (by show World.ownsRow _ _ _ _ _ _ _; simpa [cbL, bs] using World.ownsRow_nil w1 w.heap.size 5 1), B1⟩
    case round =>
      obtain ⟨k, hk, rfl, hO, hB⟩ := hrel
      clear B1
      by_cases hlt : k < L.length
      · rcases (unhide HR).below (unhide hB) with h0 | ⟨b, oo, rfl, _, hel⟩
        · rw [h0] at hlt; exact absurd hlt (Nat.not_lt_zero _)
        have x0 := capsule_r0 hel hlt
        have x1 := capsule_r1 hel hlt
        have HT := hide (cb_take hlt)
        have hD := all_gt16 (unhide HAL) hlt
        have hlen : (cbL (L.take k)).length ≤ 20000 := by
          have h8 := cb_len (L.take k) (all_take16 (unhide HAL) k)
          rw [List.length_take] at h8
          omega
        clear hel
        generalize gt capsuleK L k = D at *
        obtain ⟨nm, vl⟩ := D
        dsimp only at x0 x1
        unfold gdC k62 at hD
        simp only [Bool.and_eq_true, decide_eq_true_eq] at hD
        obtain ⟨⟨d0, d1⟩, d2⟩ := hD
        obtain ⟨S, hS⟩ : ∃ S, cbL (L.take k) = S := ⟨_, rfl⟩
        rw [hS] at hO hlen HT
        obtain ⟨V, hV⟩ : ∃ V, V = wr.alloc (.cells #[.int .i64 nm, .string vl] 30) := ⟨_, rfl⟩
        have hBV : Below w.heap.size w V := by rw [hV]; exact (unhide hB).alloc (unhide hB).size _
        have hbx : Bx V wr.heap.size [.int .i64 nm, .string vl] := by rw [hV]; exact Bx.new wr _ _
        have hOV : Ow w.heap.size V u4 S := by rw [hV]; exact (unhide hO).alloc _
        have HVV := hide hV
        obtain ⟨p, hp⟩ : ∃ p, V.heap.size = p := ⟨_, rfl⟩
        obtain ⟨U, hU⟩ : ∃ U, U = (V.alloc (.cells #[.int .i64 nm] 3)).drew := ⟨_, rfl⟩
        have hUn : U.heap[p]? = some (.cells #[.int .i64 nm] 3 (0, 0)) := by rw [hU, ← hp]; exact heap_new V _
        have hOU : Ow w.heap.size U u4 S := by rw [hU]; exact (hOV.alloc _).drew
        have hBU : Below w.heap.size w U := by rw [hU]; exact (hBV.alloc hBV.size _).drew
        have HN := hide (appendNumbers_ow u4 S p 1 (fun _ => nm) #[.int .i64 nm] (0, 0) U w.heap.size hOU hBU.size ((unhide HTZ).kept hBU hg1) hg1 (by omega) (by omega) hUn (fun i hi => by have h0 : i = 0 := (by omega); subst h0; rfl) (fun i hi => ⟨d0, d1⟩))
        have HHU : Hid (U.heap[wr.heap.size]? = some (.cells #[.int .i64 nm, .string vl] 30 (0, 0))) := by show _ = _; rw [hU]; exact heap_old _ _ _ _ (by rw [hV]; exact heap_new wr _)
        have HBU := hide hBU
        have HFAR : Hid (u4.ownBlock ≠ some wr.heap.size) := hOV.far (fr := (0, 0)) (cur := #[.int .i64 nm, .string vl]) (by rw [hV]; exact heap_new wr _) (by decide)
        have HOU := hide hOU
        have HU := hide hU
        have HP := hide hp
        have HBX := hide (show V.drew.heap[wr.heap.size]? = some (.cells #[.int .i64 nm, .string vl] 30 (0, 0)) by rw [hV]; exact heap_new wr _)
        clear hV hU hp hBV hbx hOV hUn hOU hBU hO hB hS
        go_upto_region 7 with fail
        rw [← unhide HVV]
        clear HVV x0 x1
        refine wp_region_held_drew (S := fun V1 => V1.heap[wr.heap.size]? = some (.cells #[.int .i64 nm, .string vl] 30 (0, 0))) (by kernel_rfl) (unhide HBX) (fun hHeld => ?_)
        refine wpAnyH_take (i := 0) (v := ?_) rfl (by kernel_rfl) (by kernel_rfl) (by kernel_rfl) (fun _ _ _ h => h) (Or.inl ⟨by rfl, ?_⟩) hHeld ?_
        rotate_left
        · intro V hSw; go_simp; rfl
        try simp only [Act.put, List.getElem_toArray, List.getElem_cons_zero, List.setIfInBounds_toArray, List.set_cons_zero, List.set_cons_succ]
        refine wpAnyH_take (i := 1) (v := ?_) rfl (by kernel_rfl) (by kernel_rfl) (by kernel_rfl) (fun _ _ _ h => h) (Or.inl ⟨by rfl, ?_⟩) hHeld ?_
        rotate_left
        · intro V hSw; go_simp; rfl
        try simp only [Act.put, List.getElem_toArray, List.getElem_cons_succ, List.getElem_cons_zero, List.setIfInBounds_toArray, List.set_cons_zero, List.set_cons_succ]
        refine wpAnyH_take (i := 2) (v := ?_) rfl (by kernel_rfl) (by kernel_rfl) (by kernel_rfl) (fun _ _ _ h => h) (Or.inl ⟨by rfl, ?_⟩) hHeld ?_
        rotate_left
        · intro V hSw; have y1 := cell_in hSw; have y2 := hlow hSw; go_simp; rfl
        try simp only [Act.put, List.getElem_toArray, List.getElem_cons_succ, List.getElem_cons_zero, List.setIfInBounds_toArray, List.set_cons_zero, List.set_cons_succ]
        refine wpAnyH_take (i := 5) (v := ?_) rfl (by kernel_rfl) (by kernel_rfl) (by kernel_rfl) (fun _ _ _ h => h) (Or.inl ⟨by rfl, ?_⟩) hHeld ?_
        rotate_left
        · intro V hSw; go_simp; rfl
        try simp only [Act.put, List.getElem_toArray, List.getElem_cons_succ, List.getElem_cons_zero, List.setIfInBounds_toArray, List.set_cons_zero, List.set_cons_succ]
        refine wpAnyH_take (i := 6) (v := ?_) rfl (by kernel_rfl) (by kernel_rfl) (by kernel_rfl) (fun _ _ _ h => h) (Or.inl ⟨by rfl, ?_⟩) hHeld ?_
        rotate_left
        · intro V hSw; have y1 := cell_in hSw; have y2 := hlow hSw; go_simp; rfl
        try simp only [Act.put, List.getElem_toArray, List.getElem_cons_succ, List.getElem_cons_zero, List.setIfInBounds_toArray, List.set_cons_zero, List.set_cons_succ]
        refine wpAnyH_ready (rs := [3]) (by kernel_rfl) (by simp) ?_
        refine (AllReadyH.cons rfl (fun K hK => ?_) AllReadyH.nil)
        go_simp
        refine hK.out _ _ (heap_old _ _ _ _ hHeld) (fun hHeld => ?_)
        clear hK K
        try simp only [Act.put, List.getElem_toArray, List.getElem_cons_succ, List.getElem_cons_zero, List.setIfInBounds_toArray, List.set_cons_zero, List.set_cons_succ]
        refine wpAnyH_ready (rs := [4]) (by kernel_rfl) (by simp) ?_
        refine (AllReadyH.cons rfl (fun K hK => ?_) AllReadyH.nil)
        go_simp
        rw [← unhide HU]
        try rw [unhide HP]
        go_at_call 20
        refine (unhide HN).mono ?_
        rintro e w2 ⟨v2, rfl, o2, g2⟩
        have hb2 := g2.below (unhide HOU) (unhide HBU).size
        have O2 := hide o2
        have HB2 := hide ((unhide HBU).trans hb2)
        refine hK.out _ _ (g2.keep (unhide HHU) (unhide HFAR)) (fun hHeld => ?_)
        clear hK K g2 o2 hb2 HN HHU
        try simp only [Act.put, List.getElem_toArray, List.getElem_cons_succ, List.getElem_cons_zero, List.setIfInBounds_toArray, List.set_cons_zero, List.set_cons_succ]
        have HS3 := hide (appendSized_ow v2 _ vl w2 w.heap.size (unhide O2) (unhide HB2).size ((unhide HTZ).kept (unhide HB2) hg1) hg1 (by simp only [vbs, List.length_append, List.length_nil]; have := vb_le nm; omega) (by omega))
        refine wpAnyH_ready (rs := [7]) (by kernel_rfl) (by simp) ?_
        refine (AllReadyH.cons rfl (fun K hK => ?_) AllReadyH.nil)
        go_simp
        go_at_call 19
        refine (unhide HS3).mono ?_
        rintro e w3 ⟨v3, rfl, o3, b3, k3⟩
        have O3 : Hid (Ow w.heap.size w3 v3 (cbL (L.take (k + 1)))) := by show Ow _ _ _ _; rw [unhide HT]; simpa [cbC, vbs, List.append_assoc] using o3
        have HB3 := hide ((unhide HB2).trans b3)
        refine hK.out _ _ (k3 _ _ _ _ hHeld (by decide)) (fun hHeld => ?_)
        clear hK K o3 b3 k3 HS3
        try simp only [Act.put, List.getElem_toArray, List.getElem_cons_succ, List.getElem_cons_zero, List.setIfInBounds_toArray, List.set_cons_zero, List.set_cons_succ]
        refine wpAnyH_take (i := 8) (v := ?_) rfl (by kernel_rfl) (by kernel_rfl) (by kernel_rfl) (fun _ _ _ h => h) (Or.inl ⟨by rfl, ?_⟩) hHeld ?_
        rotate_left
        · intro V hSw; go_simp; rfl
        try simp only [Act.put, List.getElem_toArray, List.getElem_cons_succ, List.getElem_cons_zero, List.setIfInBounds_toArray, List.set_cons_zero, List.set_cons_succ]
        refine wpAnyH_done (by kernel_rfl) ?_ _
        go_wp2
        exact ⟨⟨k + 1, by omega, by go_num, O3, HB3⟩, by simp [intOf]; omega⟩
      · obtain rfl : k = L.length := by omega
        rw [List.take_length] at hO
        have hcv := own_string Tryd.prog wr w.heap.size 22 9 5 _ _ _ Tryd.underlying22 Tryd.underlying5 Tryd.underlying9 (unhide hO)
        go_wp2_with fail
        refine bodyPost_ret (v := .tuple #[.string (cbT L), .bool true]) (by simp [results, Tryd.results6, go_sem, cbT]) rfl ?_
        exact ⟨rfl, unhide hB⟩
/-- the bytes of what is carried -/
def cyL (D : CarriedD) : List UInt8 := vb (Int.tdiv D.f0 4) ++ (vb D.f1 ++ D.f2.data.toList)
def cyR (D : CarriedD) : ByteArray := if gdK D = true then ⟨(cyL D).toArray⟩ else ⟨#[]⟩
theorem gdK_n {D : CarriedD} (h : gdK D = true) : 0 ≤ D.f0 ∧ D.f0 ≤ 4611686018427387900 ∧ 0 ≤ D.f1 ∧ D.f1 ≤ 4611686018427387903 ∧ D.f2.size ≤ 1200 := by
  unfold gdK inS k62 at h
  simp only [Bool.and_eq_true, decide_eq_true_eq] at h
  exact ⟨h.1.1.1, h.1.1.2, h.2.1.1, h.2.1.2, h.2.2⟩
set_option maxHeartbeats 8000000 in
theorem implCY (D : CarriedD) (hs : D.f2.size ≤ 1048576) (w : World) (hz : Tz w) :
    Calls Tryd.prog 14 #[carriedV D] w fun e w' => e = .returned (.tuple #[.string (cyR D), .bool (gdK D)]) ∧ Below w.heap.size w w' := by
  obtain ⟨V, hV⟩ : ∃ V, V = w.alloc (.cells #[.int .i64 D.f0, .int .i64 D.f1, .string D.f2] 38) := ⟨_, rfl⟩
  have hA : Below w.heap.size w V := by rw [hV]; exact (Below.refl _ _).alloc (Nat.le_refl _) _
  have hX : V.heap[w.heap.size]? = some (.cells #[.int .i64 D.f0, .int .i64 D.f1, .string D.f2] 38 (0, 0)) := by rw [hV]; exact heap_new w _
  have HG := hide (fun W => implGK D hs W)
  have hg1 := tz_low hz
  have HTZ := hide hz
  have HV := hide hV
  have HA := hide hA
  have HX := hide hX
  have y0 := cell_in hX
  have yl := hlow hX
  clear hV hA hX hz
  unfold cyR
  cases hg : gdK D with
  | false =>
    rw [hg] at HG
    rw [if_neg (by decide)]
    clear hg
    go_enter Tryd.func14, Tryd.ntmps14
    go_upto_region 1 with fail
    rw [← unhide HV]
    go_wp2_with fail
    refine (unhide HG _).mono ?_
    rintro e w1 ⟨rfl, b1⟩
    go_wp2_with fail
    refine bodyPost_ret (v := .tuple #[.string ⟨#[]⟩, .bool false]) (by simp [results, Tryd.results14, go_sem]) rfl ?_
    exact ⟨rfl, (unhide HA).trans (b1.mono (unhide HA).size)⟩
  | true =>
    obtain ⟨f0, f1, f2⟩ := D
    obtain ⟨d0, d1, d2, d3, d4⟩ := gdK_n hg
    dsimp only at d0 d1 d2 d3 d4 hs HX y0 HV HG
    rw [hg] at HG
    rw [if_pos rfl]
    clear hg
    have hq0 : Int.tdiv f0 4 = f0 / 4 := Int.tdiv_eq_ediv_of_nonneg d0
    have HQE := hide (show cyL ⟨f0, f1, f2⟩ = vb (Int.tdiv f0 4) ++ (vb f1 ++ f2.data.toList) from rfl)
    obtain ⟨q, hq⟩ : ∃ q, Int.tdiv f0 4 = q := ⟨_, rfl⟩
    rw [hq] at HQE hq0
    have q0 : 0 ≤ q := by omega
    have q1 : q ≤ 4611686018427387903 := by omega
    have wq : IntKind.i64.wrap q = q := wraps_i64 _ (by omega) (by omega)
    go_enter Tryd.func14, Tryd.ntmps14
    go_upto_region 1 with fail
    rw [← unhide HV]
    go_wp2_with fail
    refine (unhide HG _).mono ?_
    rintro e w1 ⟨rfl, b1⟩
    have hB1 := (unhide HA).trans (b1.mono (unhide HA).size)
    have hX1 : w1.heap[w.heap.size]? = some (.cells #[.int .i64 f0, .int .i64 f1, .string f2] 38 (0, 0)) := (b1.block _ (hlow (unhide HX))).trans (unhide HX)
    obtain ⟨p, hp⟩ : ∃ p, w1.heap.size = p := ⟨_, rfl⟩
    obtain ⟨U, hU⟩ : ∃ U, U = (w1.alloc (.cells #[.int .i64 q, .int .i64 f1] 3)).drew := ⟨_, rfl⟩
    have hUn : U.heap[p]? = some (.cells #[.int .i64 q, .int .i64 f1] 3 (0, 0)) := by rw [hU, ← hp]; exact heap_new w1 _
    have hOU : Ow w.heap.size U (.slice none 0 0) [] := World.ownsRow_nil _ _ _ _
    have hBU : Below w.heap.size w U := by rw [hU]; exact (hB1.alloc hB1.size _).drew
    have hXU : U.heap[w.heap.size]? = some (.cells #[.int .i64 f0, .int .i64 f1, .string f2] 38 (0, 0)) := by rw [hU]; exact heap_old _ _ _ _ hX1
    have HN := hide (appendNumbers_ow (.slice none 0 0) [] p 2 (fun i => if i = 0 then q else f1) #[.int .i64 q, .int .i64 f1] (0, 0) U w.heap.size hOU hBU.size ((unhide HTZ).kept hBU hg1) hg1 (by simp) (by omega) hUn (fun i hi => by
      have h2 : i = 0 ∨ i = 1 := by omega
      rcases h2 with rfl | rfl <;> rfl) (fun i hi => by
      have h2 : i = 0 ∨ i = 1 := by omega
      rcases h2 with rfl | rfl
      · exact ⟨q0, q1⟩
      · exact ⟨d2, d3⟩))
    have HBU := hide hBU
    have HOU := hide hOU
    have HU := hide hU
    have HP := hide hp
    have HHU := hide hXU
    have HX1 := hide (show w1.drew.heap[w.heap.size]? = some (.cells #[.int .i64 f0, .int .i64 f1, .string f2] 38 (0, 0)) from hX1)
    obtain ⟨i0, hi, hz0, hz1, hz2⟩ := info_parts Tryd.info5
    have HI := hide hi
    have HI0 := hide hz0
    have HI1 := hide hz1
    have HI2 := hide hz2
    clear hU hp hUn hOU hBU hXU hX1 hB1 b1 HV HA HX y0 yl hi hz0 hz1 hz2 hq0 d0 d1
    go_upto_region 3 with fail
    refine wp_region_noPanic ?_
    refine wp_region_held_drew (S := fun V1 => V1.heap[w.heap.size]? = some (.cells #[.int .i64 f0, .int .i64 f1, .string f2] 38 (0, 0))) (by kernel_rfl) (unhide HX1) (fun hHeld => ?_)
    refine wpAnyH_take (i := 0) (v := ?_) rfl (by kernel_rfl) (by kernel_rfl) (by kernel_rfl) (fun _ _ _ h => h) (Or.inl ⟨by rfl, ?_⟩) hHeld ?_
    rotate_left
    · intro V hSw; go_simp; rfl
    try simp only [Act.put, List.getElem_toArray, List.getElem_cons_zero, List.setIfInBounds_toArray, List.set_cons_zero, List.set_cons_succ]
    refine wpAnyH_take (i := 1) (v := ?_) rfl (by kernel_rfl) (by kernel_rfl) (by kernel_rfl) (fun _ _ _ h => h) (Or.inl ⟨by rfl, ?_⟩) hHeld ?_
    rotate_left
    · intro V hSw; have y1 := cell_in hSw; have y2 := hlow hSw; go_simp; rfl
    try simp only [Act.put, List.getElem_toArray, List.getElem_cons_succ, List.getElem_cons_zero, List.setIfInBounds_toArray, List.set_cons_zero, List.set_cons_succ]
    refine wpAnyH_take (i := 2) (v := ?_) rfl (by kernel_rfl) (by kernel_rfl) (by kernel_rfl) (fun _ _ _ h => h) (Or.inl ⟨by rfl, ?_⟩) hHeld ?_
    rotate_left
    · intro V hSw; go_simp; rfl
    try simp only [Act.put, List.getElem_toArray, List.getElem_cons_succ, List.getElem_cons_zero, List.setIfInBounds_toArray, List.set_cons_zero, List.set_cons_succ]
    refine wpAnyH_take (i := 3) (v := ?_) rfl (by kernel_rfl) (by kernel_rfl) (by kernel_rfl) (fun _ _ _ h => h) (Or.inl ⟨by rfl, ?_⟩) hHeld ?_
    rotate_left
    · intro V hSw; go_simp; rfl
    try simp only [Act.put, List.getElem_toArray, List.getElem_cons_succ, List.getElem_cons_zero, List.setIfInBounds_toArray, List.set_cons_zero, List.set_cons_succ]
    refine wpAnyH_take (i := 4) (v := ?_) rfl (by kernel_rfl) (by kernel_rfl) (by kernel_rfl) (fun _ _ _ h => h) (Or.inl ⟨by rfl, ?_⟩) hHeld ?_
    rotate_left
    · intro V hSw; have y1 := cell_in hSw; have y2 := hlow hSw; go_simp; rfl
    try simp only [Act.put, List.getElem_toArray, List.getElem_cons_succ, List.getElem_cons_zero, List.setIfInBounds_toArray, List.set_cons_zero, List.set_cons_succ]
    refine wpAnyH_take (i := 7) (v := ?_) rfl (by kernel_rfl) (by kernel_rfl) (by kernel_rfl) (fun _ _ _ h => h) (Or.inl ⟨by rfl, ?_⟩) hHeld ?_
    rotate_left
    · intro V hSw; go_simp; rfl
    try simp only [Act.put, List.getElem_toArray, List.getElem_cons_succ, List.getElem_cons_zero, List.setIfInBounds_toArray, List.set_cons_zero, List.set_cons_succ]
    refine wpAnyH_take (i := 8) (v := ?_) rfl (by kernel_rfl) (by kernel_rfl) (by kernel_rfl) (fun _ _ _ h => h) (Or.inl ⟨by rfl, ?_⟩) hHeld ?_
    rotate_left
    · intro V hSw; have y1 := cell_in hSw; have y2 := hlow hSw; go_simp; rfl
    try simp only [Act.put, List.getElem_toArray, List.getElem_cons_succ, List.getElem_cons_zero, List.setIfInBounds_toArray, List.set_cons_zero, List.set_cons_succ]
    refine wpAnyH_ready (rs := [5]) (by kernel_rfl) (by simp) ?_
    refine (AllReadyH.cons rfl (fun K hK => ?_) AllReadyH.nil)
    go_simp
    refine hK.out _ _ (heap_old _ _ _ _ hHeld) (fun hHeld => ?_)
    clear hK K
    try simp only [Act.put, List.getElem_toArray, List.getElem_cons_succ, List.getElem_cons_zero, List.setIfInBounds_toArray, List.set_cons_zero, List.set_cons_succ]
    refine wpAnyH_ready (rs := [6]) (by kernel_rfl) (by simp) ?_
    refine (AllReadyH.cons rfl (fun K hK => ?_) AllReadyH.nil)
    go_simp
    rw [← unhide HU]
    try rw [unhide HP]
    go_at_call 20
    refine (unhide HN).mono ?_
    rintro e w2 ⟨v2, rfl, o2, g2⟩
    have hb2 := g2.below (unhide HOU) (unhide HBU).size
    have O2 := hide o2
    have HB2 := hide ((unhide HBU).trans hb2)
    refine hK.out _ _ (g2.keep (unhide HHU) (by simp [Value.ownBlock])) (fun hHeld => ?_)
    clear hK K g2 o2 hb2 HN HHU
    try simp only [Act.put, List.getElem_toArray, List.getElem_cons_succ, List.getElem_cons_zero, List.setIfInBounds_toArray, List.set_cons_zero, List.set_cons_succ]
    refine wpAnyH_ready (rs := [9]) (by kernel_rfl) (by simp) ?_
    refine (AllReadyH.cons rfl (fun K hK => ?_) AllReadyH.nil)
    refine step_append_string w2 rfl _ _ 22 9 rfl w.heap.size 5 i0 Tryd.underlying22 Tryd.underlying9 (unhide HI) (unhide HI0) (unhide HI1) (unhide HI2) v2 _ _ (by simp [Act.eval]) (unhide O2) f2 (by simp [Act.eval]) ?c1 ?c2 (unhide HB2).size ?_
    case c1 => have h8 := vbs_length (fun i => if i = 0 then q else f1) 2; rw [List.nil_append]; unfold maxLen; omega
    case c2 => have h8 := vbs_length (fun i => if i = 0 then q else f1) 2; rw [List.nil_append]; omega
    intro v3 w3 ho3 hg3
    have hb3 := (unhide O2).below hg3 (unhide HB2).size
    have O3 := hide (ow_text (unhide O2) ho3 rfl)
    have HB3 := hide ((unhide HB2).trans hb3)
    refine hK.out _ _ ((unhide O2).kn hg3 _ _ _ _ hHeld (by decide)) (fun hHeld => ?_)
    clear hK K ho3 hg3 hb3
    try simp only [Act.put, List.getElem_toArray, List.getElem_cons_succ, List.getElem_cons_zero, List.setIfInBounds_toArray, List.set_cons_zero, List.set_cons_succ]
    have hcv := own_string Tryd.prog w3 w.heap.size 22 9 5 _ _ _ Tryd.underlying22 Tryd.underlying5 Tryd.underlying9 (unhide O3)
    refine wpAnyH_ready (rs := [10]) (by kernel_rfl) (by simp) ?_
    refine (AllReadyH.cons rfl (fun K hK => ?_) AllReadyH.nil)
    go_simp
    refine hK.out _ _ (hHeld) (fun hHeld => ?_)
    clear hK K
    try simp only [Act.put, List.getElem_toArray, List.getElem_cons_succ, List.getElem_cons_zero, List.setIfInBounds_toArray, List.set_cons_zero, List.set_cons_succ]
    refine wpAnyH_take (i := 11) (v := ?_) rfl (by kernel_rfl) (by kernel_rfl) (by kernel_rfl) (fun _ _ _ h => h) (Or.inl ⟨by rfl, ?_⟩) hHeld ?_
    rotate_left
    · intro V hSw; go_simp; rfl
    try simp only [Act.put, List.getElem_toArray, List.getElem_cons_succ, List.getElem_cons_zero, List.setIfInBounds_toArray, List.set_cons_zero, List.set_cons_succ]
    refine wpAnyH_take (i := 12) (v := ?_) rfl (by kernel_rfl) (by kernel_rfl) (by kernel_rfl) (fun _ _ _ h => h) (Or.inl ⟨by rfl, ?_⟩) hHeld ?_
    rotate_left
    · intro V hSw; go_simp; rfl
    try simp only [Act.put, List.getElem_toArray, List.getElem_cons_succ, List.getElem_cons_zero, List.setIfInBounds_toArray, List.set_cons_zero, List.set_cons_succ]
    refine wpAnyH_done (by kernel_rfl) ?_ _
    refine NoPanic.normal ?_
    have HE := hide (show (⟨([] ++ vbs (fun i => if i = 0 then q else f1) 2 ++ f2.data.toList).toArray⟩ : ByteArray) = ⟨(cyL ⟨f0, f1, f2⟩).toArray⟩ by rw [unhide HQE]; simp [vbs])
    clear hcv O3 O2 hHeld
    go_wp2_with fail
    refine bodyPost_ret (v := .tuple #[.string ⟨([] ++ vbs (fun i => if i = 0 then q else f1) 2 ++ f2.data.toList).toArray⟩, .bool true]) (by simp [results, Tryd.results14, go_sem]) rfl ?_
    rw [unhide HE]
    exact ⟨rfl, unhide HB3⟩
end Go.Proofs.YtgieglpjkjncfabDoor.Rc
