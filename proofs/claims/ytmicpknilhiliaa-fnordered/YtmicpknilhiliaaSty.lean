/-
  Contracts: a stream that is played, of the model.
-/
import Derived.Test.YtmicpknilhiliaaStw
import Derived.Deep.DeepCutAuto
namespace Go.Proofs.Ytmicpknilhiliaa.Rc
open Go.ChangeShapes Go.WideShapes Go.ChangeAt Go.RowKit Go.Deep
set_option linter.unusedVariables false
set_option maxRecDepth 100000

/-- what is answered -/
def psO (d : ByteArray) (limit : Int) (cuts order : List Int) : ByteArray := if psB d limit cuts order = true then (psF (cutP d 0 cuts) limit order).2 else ⟨#[]⟩
def psD (d : ByteArray) (limit : Int) (cuts order : List Int) : Bool := psB d limit cuts order && decide ((psF (cutP d 0 cuts) limit order).1.fi = (psF (cutP d 0 cuts) limit order).1.re)
theorem dropI {L : List Int} {k : Nat} (h : k < L.length) : L.drop k = gt intK L k :: L.drop (k + 1) := by rw [gt_of intK L k h]; exact List.drop_eq_getElem_cons h
theorem takeI {L : List Int} {k : Nat} (h : k < L.length) : L.take (k + 1) = L.take k ++ [gt intK L k] := by rw [gt_of intK L k h]; exact (List.take_append_getElem h).symm
theorem cutP_len (d : ByteArray) : ∀ (L : List Int) (at' : Int), (cutP d at' L).length = L.length + 1
  | [], _ => rfl
  | k :: L, at' => by show (cutP d k L).length + 1 = _; rw [cutP_len d L k]; rfl
theorem cutP_in (d : ByteArray) : ∀ (L : List Int) (at' : Int) (fst : Bool), 0 ≤ at' → at' ≤ d.size → cuB d.size fst at' L = true → ∀ p ∈ cutP d at' L, (0 ≤ p.f0 ∧ p.f0 ≤ d.size) ∧ p.f1.size ≤ d.size
  | [], at', _, h0, h1, _, p, hp => by
    rcases List.mem_singleton.1 hp with rfl
    exact ⟨⟨h0, h1⟩, by dsimp only; rw [ByteArray.size_extract]; omega⟩
  | k :: L, at', fst, h0, h1, hc, p, hp => by
    unfold cuB at hc
    simp only [Bool.and_eq_true, decide_eq_true_eq] at hc
    rcases List.mem_cons.1 hp with rfl | hp
    · exact ⟨⟨h0, h1⟩, by dsimp only; rw [ByteArray.size_extract]; omega⟩
    · exact cutP_in d L k false hc.1.1 hc.1.2 hc.2.2 p hp
theorem st4q {U : World} {p : Nat} {z0 z1 z2 z3 : Value} (h : Bx U p [z0, z1, z2, z3]) (v0 v1 v2 v3 : Value) :
    Bx ((((U.setCell ⟨p, 0, none⟩ v0).setCell ⟨p, 1, none⟩ v1).setCell ⟨p, 2, none⟩ v2).setCell ⟨p, 3, none⟩ v3) p [v0, v1, v2, v3] ∧ Kq (fun q => q = p) U ((((U.setCell ⟨p, 0, none⟩ v0).setCell ⟨p, 1, none⟩ v1).setCell ⟨p, 2, none⟩ v2).setCell ⟨p, 3, none⟩ v3) :=
  ⟨((((h.set (i := 0) (by simp)).set (i := 1) (by simp)).set (i := 2) (by simp)).set (i := 3) (by simp)), (((((Kq.refl (fun q => q = p) U).set rfl).set rfl).set rfl).set rfl)⟩
theorem Rd.kz' {w w' : World} {p : Nat} {a : Option Addr} {L : List PieceD} (h : Rd pieceK w a L) (k : Kq (fun q => q = p) w w') (hN : ∀ b o t, a = some ⟨b, o, t⟩ → b ≠ p ∨ L = []) : Rd pieceK w' a L := by
  rcases h with h | ⟨b, o, e, l, h⟩
  · exact Or.inl h
  · rcases hN b o none e with h1 | h1
    · refine Or.inr ⟨b, o, e, Nat.lt_of_lt_of_le l k.size, fun q hq => ?_⟩
      rw [World.cell?_of_block (a := ⟨b, o + q, none⟩) (k.block b l h1)]
      exact h q hq
    · exact Or.inl h1
set_option maxHeartbeats 32000000 in
theorem specPS (d : ByteArray) (limit : Int) (cuts order : List Int) (W : World) (hd : d.size ≤ 1099511627776) (hn : cuts.length ≤ 1048576) (hm : order.length ≤ 1048576) (aC : Option Addr) (cC : Nat) (aO : Option Addr) (cO : Nat) (hC : Rd intK W aC cuts) (hO : Rd intK W aO order) :
    Calls Try.prog 6 #[.string d, .int .i64 limit, .slice aC cuts.length cC, .slice aO order.length cO] W fun e w' => e = .returned (.tuple #[.string (psO d limit cuts order), .bool (psD d limit cuts order), .bool (psB d limit cuts order)]) ∧ Below W.heap.size W w' := by
  have HC := hide (fun V (b : Below W.heap.size W V) => hC.below b)
  have HO := hide (fun V (b : Below W.heap.size W V) => hO.below b)
  have HB : Hid (psB d limit cuts order = (niB limit && (decide (d.size ≤ 4000) && (decide (cuts.length ≤ 40) && (decide (order.length ≤ 100) && cuB d.size true 0 cuts))))) := rfl
  have HNO : Hid (psB d limit cuts order = false → psO d limit cuts order = ⟨#[]⟩ ∧ psD d limit cuts order = false) := fun h => ⟨by unfold psO; rw [if_neg (by rw [h]; exact Bool.false_ne_true)], by unfold psD; rw [h]; rfl⟩
  have HYES : Hid (psB d limit cuts order = true → psO d limit cuts order = (psF (cutP d 0 cuts) limit order).2 ∧ psD d limit cuts order = decide ((psF (cutP d 0 cuts) limit order).1.fi = (psF (cutP d 0 cuts) limit order).1.re)) := fun h => ⟨by unfold psO; rw [if_pos h], by unfold psD; rw [h, Bool.true_and]⟩
  have HN := hide (specNI limit W)
  have HL : Hid (niB limit = true → 0 ≤ limit ∧ limit ≤ 4000) := fun h => by unfold niB at h; simpa using h
  have HD : Hid (∀ r, niB limit = r → r = true → niD limit r = ⟨limit, 0, -1, []⟩) := fun r _ h => by rw [h]; rfl
  clear hC hO
  obtain ⟨go, hgo⟩ : ∃ x, psO d limit cuts order = x := ⟨_, rfl⟩
  obtain ⟨gd, hgd⟩ : ∃ x, psD d limit cuts order = x := ⟨_, rfl⟩
  obtain ⟨gb, hgb⟩ : ∃ x, psB d limit cuts order = x := ⟨_, rfl⟩
  rw [hgo, hgd] at HNO HYES
  rw [hgb] at HNO HYES HB
  rw [hgo, hgd, hgb]
  clear hgo hgd hgb
  have ZZ : Hid (gb = false → Ending.returned (.tuple #[.string ⟨#[]⟩, .bool false, .bool false]) = .returned (.tuple #[.string go, .bool gd, .bool gb])) := fun h => by obtain ⟨h1, h2⟩ := unhide HNO h; rw [h, h1, h2]
  clear HNO
  generalize niB limit = r0 at *
  cases r0 with
  | false =>
    have hg : gb = false := by rw [unhide HB]; rfl
    have Z := hide (unhide ZZ hg)
    clear hg HB HYES ZZ HC HO HL HD
    go_enter Try.func6, Try.ntmps6
    go_wp2_with fail
    refine (unhide HN).mono ?_
    rintro e w1 ⟨rfl, b1⟩
    have B1 := hide b1
    have al : Hid (∀ o, Below W.heap.size W (w1.alloc o)) := fun o => (unhide B1).alloc (unhide B1).size o
    clear b1 HN
    go_wp2
    go_ret3
    exact ⟨unhide Z, unhide al _⟩
  | true =>
    have hl := unhide HL rfl
    by_cases h1 : d.size ≤ 4000
    · have t1 : decide ((4000 : Int) < (d.size : Int)) = false := decide_eq_false (by omega)
      by_cases h2 : cuts.length ≤ 40
      · have t2 : decide ((40 : Int) < (cuts.length : Int)) = false := decide_eq_false (by omega)
        by_cases h3 : order.length ≤ 100
        · have t3 : decide ((100 : Int) < (order.length : Int)) = false := decide_eq_false (by omega)
          have HB2 : Hid (gb = cuB d.size true 0 cuts) := by show _ = _; rw [unhide HB, decide_eq_true h1, decide_eq_true h2, decide_eq_true h3]; rfl
          have e0 := unhide HD true rfl rfl
          rw [e0] at HN
          clear HB HL HD e0
          go_enter Try.func6, Try.ntmps6
          go_wp2_with fail
          refine (unhide HN).mono ?_
          rintro e w1 ⟨rfl, b1⟩
          obtain ⟨V1, hV1⟩ : ∃ V, V = w1.alloc (.cells #[.int .i64 limit, .int .i64 0, .int .i64 (-1), .slice none 0 0] 39) := ⟨_, rfl⟩
          have al1 : Below w1.heap.size w1 V1 := by rw [hV1]; exact (Below.refl _ _).alloc (Nat.le_refl _) _
          have X1 := hide (show Bx V1 w1.heap.size (inflowC ⟨limit, 0, -1, []⟩ none 0) by rw [hV1]; exact Bx.new w1 _ _)
          have B1 := hide (b1.trans (al1.mono b1.size))
          have s1 := b1.size
          obtain ⟨xb, hxb⟩ : ∃ q, q = w1.heap.size := ⟨_, rfl⟩
          have O1 := hide (Ro.nil pieceK 53 (xb + 1) V1)
          have HV1 := hide hV1
          have sx : xb < V1.heap.size := by rw [hxb]; exact (unhide X1).lt
          have sxW : W.heap.size ≤ xb := by rw [hxb]; exact s1
          rw [← hxb] at X1
          clear hV1 al1 b1 HN s1
          go_upto_region 2 with fail
          rw [← unhide HV1, ← hxb]
          clear HV1 hxb
          go_upto_region 7 with fail
          have CP0 : Hid (cutP d 0 cuts = [] ++ cutP d ((0 : Nat) : Int) (cuts.drop 0)) := rfl
          have CB0 : Hid (gb = cuB d.size (decide (0 = 0)) ((0 : Nat) : Int) (cuts.drop 0)) := unhide HB2
          have HB3 := HB2
          clear HB2
          go_loopw [13, 14, 48] (fun v13 v14 iv wr => ∃ (k m : Nat) (Q : List PieceD), k ≤ cuts.length ∧ v13 = .int .i64 m ∧ iv = .int .i64 k ∧ Q.length = k ∧ m ≤ d.size ∧ Hid (∀ j, k = j + 1 → gt intK cuts j = m) ∧ Hid (k = 0 → m = 0) ∧ Hid (gb = cuB d.size (decide (k = 0)) m (cuts.drop k)) ∧ Hid (cutP d 0 cuts = Q ++ cutP d m (cuts.drop k)) ∧ Hid (Ro pieceK 53 (xb + 1) wr v14 Q) ∧ Hid (Bx wr xb (inflowC ⟨limit, 0, -1, []⟩ none 0)) ∧ Hid (Below W.heap.size W wr)) (fun _ _ iv _ => cuts.length - (intOf iv).toNat)
          case atStart => exact ⟨0, 0, [], Nat.zero_le _, rfl, rfl, rfl, Nat.zero_le _, hide (fun j h => by omega), hide (fun _ => rfl), CB0, CP0, O1, X1, B1⟩
          case round =>
            obtain ⟨k, m, Q, hk, rfl, rfl, hQ, hm1, hpv, hm0, hg, hcp, hO, hX, hB⟩ := hrel
            clear CP0 CB0 O1 X1 B1
            have sz0 := (unhide hX).lt
            by_cases hlt : k < cuts.length
            · rcases unhide HC wr (unhide hB) with h9 | ⟨b, oo, rfl, _, hel⟩
              · rw [h9] at hlt; exact absurd hlt (Nat.not_lt_zero _)
              have c0 := int_r hel hlt
              have HEL := hide (fun j (h : j < cuts.length) => int_r hel h)
              have HD : Hid (gb = ((decide (0 ≤ gt intK cuts k) && decide (gt intK cuts k ≤ d.size)) && ((decide (k = 0) || decide ((m : Int) < gt intK cuts k)) && cuB d.size false (gt intK cuts k) (cuts.drop (k + 1))))) := by show _ = _; rw [unhide hg, dropI hlt]; rfl
              have HP : Hid (cutP d 0 cuts = (Q ++ [⟨m, d.extract m (gt intK cuts k).toNat⟩]) ++ cutP d (gt intK cuts k) (cuts.drop (k + 1))) := by show _ = _; rw [unhide hcp, dropI hlt, List.append_assoc]; rfl
              have HV : Hid (∀ j, k + 1 = j + 1 → gt intK cuts j = gt intK cuts k) := fun j h => by rw [show j = k by omega]
              have II := hide (inB (gt intK cuts k) 0 d.size)
              generalize gt intK cuts k = kk at *
              have hnk : (k : Int) < (cuts.length : Int) := by omega
              have hk0 : (0 : Int) ≤ (k : Int) := by omega
              have hwd : IntKind.i64.wrap (d.size : Int) = (d.size : Int) := by rw [IntKind.wrap_i64]; omega
              clear hg hcp hel
              by_cases hin : 0 ≤ kk ∧ kk ≤ d.size
              · obtain ⟨q, rfl⟩ : ∃ q : Nat, kk = q := ⟨kk.toNat, by omega⟩
                have hq1 : q ≤ d.size := by omega
                have tin : (decide ((0 : Int) ≤ (q : Int)) && decide ((q : Int) ≤ (d.size : Int))) = true := by rw [decide_eq_true hin.1, decide_eq_true hin.2]; rfl
                rw [tin] at II HD
                clear hin tin
                by_cases hk1 : k = 0
                · have M0 := hide (unhide hm0 hk1)
                  have HK1 := hide hk1
                  have gk : decide ((0 : Int) < (k : Int)) = false := decide_eq_false (by omega)
                  have gk2 : decide (0 < k) = false := decide_eq_false (by omega)
                  have gk3 : ¬ 0 < k := by omega
                  clear hk1
                  have mq : (m : Int) ≤ (q : Int) := by have := unhide M0; omega
                  have n1 : (0 : Int) ≤ (m : Int) := by omega
                  have n2 : (q : Int) ≤ (d.size : Int) := by omega
                  have n3 : (0 : Int) ≤ (q : Int) := by omega
                  have n4 : ((q : Int)).toNat = q := rfl
                  have n5 : ((m : Int)).toNat = m := rfl
                  rw [n4] at HP
                  have GB2 : Hid (gb = cuB d.size (decide (k + 1 = 0)) q (cuts.drop (k + 1))) := by show _ = _; rw [unhide HD]; rw [decide_eq_true (unhide HK1)]; simp
                  obtain ⟨v5, w5, run, o5, b5, h5⟩ := pushPiece wr (xb + 1) u14 Q ⟨(m : Int), d.extract m q⟩ (unhide hO) (by omega) (by omega)
                  have OB : Hid (∀ g, u14.ownBlock = some g → xb + 1 ≤ g ∧ g < wr.heap.size) := fun g e => World.ownsRow.lt (w := wr) (unhide hO) g e
                  have RUN := hide run
                  have GO := hide o5
                  have GX := hide ((unhide hX).kept b5.size (h5 _ sz0 (fun g e => by have := unhide OB g e; omega)))
                  have GB := hide ((unhide hB).trans (b5.mono (by omega)))
                  have sD := hide hQ
                  clear run o5 b5 h5 OB hO hX hB HD HEL hpv hQ
                  go_wp2_with (first | (go_at_call 19; (with_reducible refine (unhide II _).mono ?_); rintro e w9 ⟨rfl, h9⟩; rw [h9]; clear h9 w9) | (at_builtin; refine wpl_app rfl _ _ 37 rfl _ _ _ _ rfl rfl (unhide RUN) ?_))
                  exact ⟨⟨k + 1, q, Q ++ [⟨(m : Int), d.extract m q⟩], by omega, rfl, by go_num, by simp [unhide sD], hq1, HV, hide (fun h => by omega), GB2, HP, GO, GX, GB⟩, by simp [intOf]; omega⟩
                · obtain ⟨j, rfl⟩ : ∃ j, k = j + 1 := ⟨k - 1, by omega⟩
                  have pj := unhide HEL j (by omega)
                  rw [unhide hpv j rfl] at pj
                  have wj : IntKind.i64.wrap (((j + 1 : Nat) : Int) - 1) = (j : Int) := by rw [IntKind.wrap_i64]; omega
                  have gk : decide ((0 : Int) < ((j + 1 : Nat) : Int)) = true := decide_eq_true (by omega)
                  have hj0 : (0 : Int) ≤ (j : Int) := by omega
                  have hjn : (j : Int) < (cuts.length : Int) := by omega
                  by_cases hmq : (m : Int) < (q : Int)
                  · have gm : decide ((q : Int) ≤ (m : Int)) = false := decide_eq_false (by omega)
                    have mq : (m : Int) ≤ (q : Int) := by omega
                    have n1 : (0 : Int) ≤ (m : Int) := by omega
                    have n2 : (q : Int) ≤ (d.size : Int) := by omega
                    have n3 : (0 : Int) ≤ (q : Int) := by omega
                    have n4 : ((q : Int)).toNat = q := rfl
                    have n5 : ((m : Int)).toNat = m := rfl
                    rw [n4] at HP
                    have GB2 : Hid (gb = cuB d.size (decide (j + 1 + 1 = 0)) q (cuts.drop (j + 1 + 1))) := by show _ = _; rw [unhide HD]; rw [decide_eq_true hmq]; simp
                    obtain ⟨v5, w5, run, o5, b5, h5⟩ := pushPiece wr (xb + 1) u14 Q ⟨(m : Int), d.extract m q⟩ (unhide hO) (by omega) (by omega)
                    have OB : Hid (∀ g, u14.ownBlock = some g → xb + 1 ≤ g ∧ g < wr.heap.size) := fun g e => World.ownsRow.lt (w := wr) (unhide hO) g e
                    have RUN := hide run
                    have GO := hide o5
                    have GX := hide ((unhide hX).kept b5.size (h5 _ sz0 (fun g e => by have := unhide OB g e; omega)))
                    have GB := hide ((unhide hB).trans (b5.mono (by omega)))
                    have sD := hide hQ
                    clear run o5 b5 h5 OB hO hX hB HD HEL hpv hQ
                    go_wp2_with (first | (go_at_call 19; (with_reducible refine (unhide II _).mono ?_); rintro e w9 ⟨rfl, h9⟩; rw [h9]; clear h9 w9) | (at_builtin; refine wpl_app rfl _ _ 37 rfl _ _ _ _ rfl rfl (unhide RUN) ?_))
                    exact ⟨⟨j + 1 + 1, q, Q ++ [⟨(m : Int), d.extract m q⟩], by omega, rfl, by go_num, by simp [unhide sD], hq1, HV, hide (fun h => by omega), GB2, HP, GO, GX, GB⟩, by simp [intOf]; omega⟩
                  · have gm : decide ((q : Int) ≤ (m : Int)) = true := decide_eq_true (by omega)
                    have hgf : Hid (gb = false) := by show _ = _; rw [unhide HD, decide_eq_false hk1, decide_eq_false hmq]; rfl
                    have Z := hide (unhide ZZ (unhide hgf))
                    clear HD hgf ZZ HYES HP HV HEL hpv hO hX
                    go_wp2_with (go_at_call 19; (with_reducible refine (unhide II _).mono ?_); rintro e w9 ⟨rfl, h9⟩; rw [h9]; clear h9 w9)
                    go_ret3
                    exact ⟨unhide Z, unhide hB⟩
              · have tin : (decide ((0 : Int) ≤ kk) && decide (kk ≤ (d.size : Int))) = false := by simp only [Bool.and_eq_false_iff, decide_eq_false_iff_not]; omega
                rw [tin] at II HD
                have Z := hide (unhide ZZ (by rw [unhide HD]; rfl))
                clear HD ZZ HYES HP HV HEL hpv hO hX tin hin
                go_wp2_with (go_at_call 19; (with_reducible refine (unhide II _).mono ?_); rintro e w9 ⟨rfl, h9⟩; rw [h9]; clear h9 w9)
                go_ret3
                exact ⟨unhide Z, unhide hB⟩
            · obtain rfl : k = cuts.length := by omega
              have hgb : Hid (gb = true) := by show _ = _; rw [unhide hg, List.drop_length]; rfl
              have hps : Hid (cutP d 0 cuts = Q ++ [⟨(m : Int), d.extract m d.size⟩]) := by show _ = _; rw [unhide hcp, List.drop_length]; rfl
              have n1 : (0 : Int) ≤ (m : Int) := by omega
              have n2 : (m : Int) ≤ (d.size : Int) := by omega
              have n3 : (0 : Int) ≤ (d.size : Int) := by omega
              have n5 : ((m : Int)).toNat = m := rfl
              have n6 : ((d.size : Int)).toNat = d.size := rfl
              have YY := hide (unhide HYES (unhide hgb))
              have hcq : cuB d.size true 0 cuts = true := by have h1 := unhide hgb; rw [unhide HB3] at h1; exact h1
              have PIN := hide (cutP_in d cuts 0 true (Int.le_refl _) (by omega) hcq)
              obtain ⟨v5, w5, run, o5, b5, h5⟩ := pushPiece wr (xb + 1) u14 Q ⟨(m : Int), d.extract m d.size⟩ (unhide hO) (by omega) (by omega)
              have OB : Hid (∀ g, u14.ownBlock = some g → xb + 1 ≤ g ∧ g < wr.heap.size) := fun g e => World.ownsRow.lt (w := wr) (unhide hO) g e
              have RUN := hide run
              have X5 := hide ((unhide hX).kept b5.size (h5 _ sz0 (fun g e => by have := unhide OB g e; omega)))
              have B5 := hide ((unhide hB).trans (b5.mono (by omega)))
              have PL := cutP_len d cuts 0
              have PL1 : (cutP d 0 cuts).length ≤ 41 := by omega
              have PL2 : 1 ≤ (cutP d 0 cuts).length := by omega
              clear PL
              rw [← unhide hps] at o5
              generalize cutP d 0 cuts = PS at *
              obtain ⟨aP, cP, rfl⟩ := o5.opens
              have P5 := hide o5
              have hgt := hide (unhide hgb)
              clear run o5 b5 h5 OB hO hX hB hg hcp hpv hm0 hQ hps hcq ZZ HYES HB3 HC hgb
              go_upto_region 17 with (at_builtin; refine wpl_app rfl _ _ 37 rfl _ _ _ _ rfl rfl (unhide RUN) ?_)
              have I0 : Hid ((order.take 0).foldl (psS PS) (⟨limit, 0, -1, []⟩, ⟨#[]⟩) = (⟨limit, 0, -1, []⟩, ⟨#[]⟩)) := rfl
              have G0 : Hid (GoodI ⟨limit, 0, -1, []⟩ ∧ (0 : Int) = ((⟨#[]⟩ : ByteArray).size : Int)) := ⟨⟨hl.1, hl.2, Int.le_refl _, hl.1, Or.inl rfl, Nat.zero_le _, trivial, fun p hp => by cases hp⟩, rfl⟩
              go_loopw [17, 92] (fun v17 iv wr => ∃ (k : Nat) (D : InflowD) (out : ByteArray) (aI : Option Addr) (cI : Nat), k ≤ order.length ∧ v17 = .string out ∧ iv = .int .i64 k ∧ Hid ((order.take k).foldl (psS PS) (⟨limit, 0, -1, []⟩, ⟨#[]⟩) = (D, out)) ∧ Hid (GoodI D ∧ D.re = out.size) ∧ Hid (Rd pieceK wr aI D.P) ∧ Hid (∀ b o t, aI = some ⟨b, o, t⟩ → xb < b) ∧ Hid (Ro pieceK 53 (xb + 1) wr (.slice aP PS.length cP) PS) ∧ Hid (Bx wr xb (inflowC D aI cI)) ∧ Hid (Below W.heap.size W wr)) (fun _ iv _ => order.length - (intOf iv).toNat)
              case atStart => exact ⟨0, ⟨limit, 0, -1, []⟩, ⟨#[]⟩, none, 0, Nat.zero_le _, rfl, rfl, I0, G0, hide (Or.inl rfl), hide (fun b o t e => by cases e), P5, X5, B5⟩
              case round =>
                obtain ⟨k, D, out, aI, cI, hk, rfl, rfl, hF, hG, hR, hN, hP, hX, hB⟩ := hrel
                clear I0 G0 P5 X5 B5
                have sz0 := (unhide hX).lt
                by_cases hlt : k < order.length
                · rcases unhide HO wr (unhide hB) with h9 | ⟨bo, oo, rfl, _, hel⟩
                  · rw [h9] at hlt; exact absurd hlt (Nat.not_lt_zero _)
                  have c0 := int_r hel hlt
                  have hF2 : Hid ((order.take (k + 1)).foldl (psS PS) (⟨limit, 0, -1, []⟩, ⟨#[]⟩) = psS PS (D, out) (gt intK order k)) := by show _ = _; rw [takeI hlt, List.foldl_append, unhide hF]; rfl
                  generalize gt intK order k = v at *
                  obtain ⟨M, hM⟩ : ∃ M : Nat, PS.length = M + 1 := ⟨PS.length - 1, by omega⟩
                  have II := hide (inB v 0 M)
                  have wM : IntKind.i64.wrap ((PS.length : Int) - 1) = (M : Int) := by rw [IntKind.wrap_i64]; omega
                  have hnk : (k : Int) < (order.length : Int) := by omega
                  have hk0 : (0 : Int) ≤ (k : Int) := by omega
                  clear hel hF
                  by_cases hin : 0 ≤ v ∧ v ≤ (M : Int)
                  · obtain ⟨j, rfl⟩ : ∃ j : Nat, v = j := ⟨v.toNat, by omega⟩
                    have tin : (decide ((0 : Int) ≤ (j : Int)) && decide ((j : Int) ≤ (M : Int))) = true := by rw [decide_eq_true hin.1, decide_eq_true hin.2]; rfl
                    rw [tin] at II
                    have hjP : j < PS.length := by omega
                    have hjI : (j : Int) < (PS.length : Int) := by omega
                    have hj0 : (0 : Int) ≤ (j : Int) := by omega
                    have hstep : Hid (psS PS (D, out) (j : Int) = (rdE (psT PS (D, out) (j : Int)) 4000, out ++ rdO (psT PS (D, out) (j : Int)) 4000)) := by show _ = _; unfold psS; rw [if_pos (by omega)]
                    obtain ⟨fin, hfin⟩ : ∃ fin : Bool, ((j : Int) == (M : Int)) = fin := ⟨_, rfl⟩
                    have hT : Hid (psT PS (D, out) (j : Int) = if tkC D (gt pieceK PS j).f0 (gt pieceK PS j).f1 fin = 0 then tkD D (gt pieceK PS j).f0 (gt pieceK PS j).f1 fin 0 else D) := by
                      show _ = _
                      have e : decide ((j : Int) = (PS.length : Int) - 1) = fin := by rw [← hfin, hM, show (((M + 1 : Nat) : Int) - 1) = (M : Int) by omega]; rfl
                      unfold psT
                      dsimp only
                      rw [e, show ((j : Int)).toNat = j from rfl]
                    have hTG := hide (psT_good (PS := PS) (st := (D, out)) (n := (j : Int)) (unhide hG).1)
                    have hpin := unhide PIN _ (gt_mem pieceK PS j hjP)
                    rcases (unhide hP).rix.1 with h9 | ⟨gp, rfl, ⟨hgp0, hgp1⟩, hGP⟩
                    · rw [h9] at hjP; exact absurd hjP (Nat.not_lt_zero _)
                    have r0 : wr.cell? ⟨gp, 0 + j * 2, none⟩ = some (.int .i64 (gt pieceK PS j).f0) := piece_r0 (o := 0) (fun q hq => by rw [Nat.zero_add]; exact hGP.c q hq) hjP
                    have r1 : wr.cell? ⟨gp, 0 + j * 2 + 1, none⟩ = some (.string (gt pieceK PS j).f1) := piece_r1 (o := 0) (fun q hq => by rw [Nat.zero_add]; exact hGP.c q hq) hjP
                    rw [Nat.zero_add] at r0 r1
                    have LD : Hid (∀ V, Below wr.heap.size wr V → V.cell? ⟨gp, j * 2, none⟩ = some (.int .i64 (gt pieceK PS j).f0) ∧ V.cell? ⟨gp, j * 2 + 1, none⟩ = some (.string (gt pieceK PS j).f1) ∧ gp < V.heap.size) := fun V b => ⟨(b.cell (p := ⟨gp, j * 2, none⟩) hGP.lt).trans r0, (b.cell (p := ⟨gp, j * 2 + 1, none⟩) hGP.lt).trans r1, Nat.lt_of_lt_of_le hGP.lt b.size⟩
                    generalize gt pieceK PS j = x at *
                    have okD : okF D := by
                      have g := (unhide hG).1
                      refine ⟨⟨by have := g.l0; omega, by have := g.l1; omega⟩, ⟨by have := g.r0; omega, by have := g.r1; have := g.l1; omega⟩, ?_, fun p hp => ?_, by have := g.n; omega⟩
                      · rcases g.fi with h | h
                        · rw [h]; unfold okN; omega
                        · have := g.r0; have := g.l1; unfold okN; omega
                      · have h1 := can_lo g.can p hp
                        have h2 := (g.hi p hp).1
                        have h3 := g.l1
                        have h4 := g.r0
                        unfold pE at h2
                        omega
                    have TP := hide (fun U (b : Below wr.heap.size wr U) => specTP D aI cI x.f0 x.f1 fin U okD (by have := hpin.2; omega) ((unhide hR).below b))
                    unfold TPQ at TP
                    generalize tkC D x.f0 x.f1 fin = co at *
                    obtain ⟨E, hE⟩ : ∃ E, tkD D x.f0 x.f1 fin co = E := ⟨_, rfl⟩
                    rw [hE] at TP
                    have HE := hide hE
                    have HFIN := hide hfin
                    have HM := hide hM
                    clear hE hin tin hpin r0 r1 hGP okD hfin hM
                    go_upto_region 20 with (go_at_call 19; (with_reducible refine (unhide II _).mono ?_); rintro e w9 ⟨rfl, h9⟩; rw [h9]; clear h9 w9)
                    go_cut [20, 21] (fun s20 s21 wx => ∃ (p20 : Nat) (aT : Option Addr) (cT : Nat), s20 = .pointer (some ⟨p20, 0, none⟩) ∧ s21 = .int .i64 co ∧ Hid (Bx wx p20 (inflowC E aT cT)) ∧ Hid (Rd pieceK wx aT E.P) ∧ Hid (∀ b o t, aT = some ⟨b, o, t⟩ → xb < b) ∧ Hid (Below wr.heap.size wr wx))
                    case first =>
                      refine wp_region_noPanic ?_
                      refine wp_region_held_drew (S := fun V => Below wr.heap.size wr V) (by kernel_rfl) (Below.refl _ _).drew (fun hHeld => ?_)
                      refine wpAnyH_take (i := 0) (v := ?_) rfl (by kernel_rfl) (by kernel_rfl) (by kernel_rfl) (fun _ _ _ h => h) (Or.inl ⟨by rfl, ?_⟩) hHeld ?_
                      rotate_left
                      · intro V hSw; have y1 := (Bx.below (unhide hX) hSw).cv; have y2 := (Bx.below (unhide hX) hSw).lt; have z1 := (unhide LD _ hSw).1; have z2 := (unhide LD _ hSw).2.1; have z3 := (unhide LD _ hSw).2.2; go_simp; rfl
                      try simp only [Act.put, List.getElem_toArray, List.getElem_cons_zero, List.setIfInBounds_toArray, List.set_cons_zero, List.set_cons_succ]
                      refine wpAnyH_take (i := 1) (v := ?_) rfl (by kernel_rfl) (by kernel_rfl) (by kernel_rfl) (fun _ _ _ h => h) (Or.inl ⟨by rfl, ?_⟩) hHeld ?_
                      rotate_left
                      · intro V hSw; go_simp; rfl
                      try simp only [Act.put, List.getElem_toArray, List.getElem_cons_succ, List.getElem_cons_zero, List.setIfInBounds_toArray, List.set_cons_zero, List.set_cons_succ]
                      refine wpAnyH_take (i := 2) (v := ?_) rfl (by kernel_rfl) (by kernel_rfl) (by kernel_rfl) (fun _ _ _ h => h) (Or.inl ⟨by rfl, ?_⟩) hHeld ?_
                      rotate_left
                      · intro V hSw; go_simp; rfl
                      try simp only [Act.put, List.getElem_toArray, List.getElem_cons_succ, List.getElem_cons_zero, List.setIfInBounds_toArray, List.set_cons_zero, List.set_cons_succ]
                      refine wpAnyH_take (i := 3) (v := ?_) rfl (by kernel_rfl) (by kernel_rfl) (by kernel_rfl) (fun _ _ _ h => h) (Or.inl ⟨by rfl, ?_⟩) hHeld ?_
                      rotate_left
                      · intro V hSw; have y1 := (Bx.below (unhide hX) hSw).cv; have y2 := (Bx.below (unhide hX) hSw).lt; have z1 := (unhide LD _ hSw).1; have z2 := (unhide LD _ hSw).2.1; have z3 := (unhide LD _ hSw).2.2; go_simp; rfl
                      try simp only [Act.put, List.getElem_toArray, List.getElem_cons_succ, List.getElem_cons_zero, List.setIfInBounds_toArray, List.set_cons_zero, List.set_cons_succ]
                      refine wpAnyH_take (i := 4) (v := ?_) rfl (by kernel_rfl) (by kernel_rfl) (by kernel_rfl) (fun _ _ _ h => h) (Or.inl ⟨by rfl, ?_⟩) hHeld ?_
                      rotate_left
                      · intro V hSw; have y1 := (Bx.below (unhide hX) hSw).cv; have y2 := (Bx.below (unhide hX) hSw).lt; have z1 := (unhide LD _ hSw).1; have z2 := (unhide LD _ hSw).2.1; have z3 := (unhide LD _ hSw).2.2; go_simp; rfl
                      try simp only [Act.put, List.getElem_toArray, List.getElem_cons_succ, List.getElem_cons_zero, List.setIfInBounds_toArray, List.set_cons_zero, List.set_cons_succ]
                      refine wpAnyH_take (i := 5) (v := ?_) rfl (by kernel_rfl) (by kernel_rfl) (by kernel_rfl) (fun _ _ _ h => h) (Or.inl ⟨by rfl, ?_⟩) hHeld ?_
                      rotate_left
                      · intro V hSw; have y1 := (Bx.below (unhide hX) hSw).cv; have y2 := (Bx.below (unhide hX) hSw).lt; have z1 := (unhide LD _ hSw).1; have z2 := (unhide LD _ hSw).2.1; have z3 := (unhide LD _ hSw).2.2; go_simp; rfl
                      try simp only [Act.put, List.getElem_toArray, List.getElem_cons_succ, List.getElem_cons_zero, List.setIfInBounds_toArray, List.set_cons_zero, List.set_cons_succ]
                      refine wpAnyH_take (i := 6) (v := ?_) rfl (by kernel_rfl) (by kernel_rfl) (by kernel_rfl) (fun _ _ _ h => h) (Or.inl ⟨by rfl, ?_⟩) hHeld ?_
                      rotate_left
                      · intro V hSw; go_simp; rfl
                      try simp only [Act.put, List.getElem_toArray, List.getElem_cons_succ, List.getElem_cons_zero, List.setIfInBounds_toArray, List.set_cons_zero, List.set_cons_succ]
                      refine wpAnyH_take (i := 7) (v := ?_) rfl (by kernel_rfl) (by kernel_rfl) (by kernel_rfl) (fun _ _ _ h => h) (Or.inl ⟨by rfl, ?_⟩) hHeld ?_
                      rotate_left
                      · intro V hSw; go_simp; rfl
                      try simp only [Act.put, List.getElem_toArray, List.getElem_cons_succ, List.getElem_cons_zero, List.setIfInBounds_toArray, List.set_cons_zero, List.set_cons_succ]
                      refine wpAnyH_take (i := 8) (v := ?_) rfl (by kernel_rfl) (by kernel_rfl) (by kernel_rfl) (fun _ _ _ h => h) (Or.inl ⟨by rfl, ?_⟩) hHeld ?_
                      rotate_left
                      · intro V hSw; have y1 := (Bx.below (unhide hX) hSw).cv; have y2 := (Bx.below (unhide hX) hSw).lt; have z1 := (unhide LD _ hSw).1; have z2 := (unhide LD _ hSw).2.1; have z3 := (unhide LD _ hSw).2.2; go_simp; rfl
                      try simp only [Act.put, List.getElem_toArray, List.getElem_cons_succ, List.getElem_cons_zero, List.setIfInBounds_toArray, List.set_cons_zero, List.set_cons_succ]
                      refine wpAnyH_take (i := 9) (v := ?_) rfl (by kernel_rfl) (by kernel_rfl) (by kernel_rfl) (fun _ _ _ h => h) (Or.inl ⟨by rfl, ?_⟩) hHeld ?_
                      rotate_left
                      · intro V hSw; have y1 := (Bx.below (unhide hX) hSw).cv; have y2 := (Bx.below (unhide hX) hSw).lt; have z1 := (unhide LD _ hSw).1; have z2 := (unhide LD _ hSw).2.1; have z3 := (unhide LD _ hSw).2.2; go_simp; rfl
                      try simp only [Act.put, List.getElem_toArray, List.getElem_cons_succ, List.getElem_cons_zero, List.setIfInBounds_toArray, List.set_cons_zero, List.set_cons_succ]
                      refine wpAnyH_take (i := 10) (v := ?_) rfl (by kernel_rfl) (by kernel_rfl) (by kernel_rfl) (fun _ _ _ h => h) (Or.inl ⟨by rfl, ?_⟩) hHeld ?_
                      rotate_left
                      · intro V hSw; have y1 := (Bx.below (unhide hX) hSw).cv; have y2 := (Bx.below (unhide hX) hSw).lt; have z1 := (unhide LD _ hSw).1; have z2 := (unhide LD _ hSw).2.1; have z3 := (unhide LD _ hSw).2.2; go_simp; rfl
                      try simp only [Act.put, List.getElem_toArray, List.getElem_cons_succ, List.getElem_cons_zero, List.setIfInBounds_toArray, List.set_cons_zero, List.set_cons_succ]
                      refine wpAnyH_take (i := 11) (v := ?_) rfl (by kernel_rfl) (by kernel_rfl) (by kernel_rfl) (fun _ _ _ h => h) (Or.inl ⟨by rfl, ?_⟩) hHeld ?_
                      rotate_left
                      · intro V hSw; go_simp; rfl
                      try simp only [Act.put, List.getElem_toArray, List.getElem_cons_succ, List.getElem_cons_zero, List.setIfInBounds_toArray, List.set_cons_zero, List.set_cons_succ]
                      refine wpAnyH_take (i := 12) (v := ?_) rfl (by kernel_rfl) (by kernel_rfl) (by kernel_rfl) (fun _ _ _ h => h) (Or.inl ⟨by rfl, ?_⟩) hHeld ?_
                      rotate_left
                      · intro V hSw; go_simp; rfl
                      try simp only [Act.put, List.getElem_toArray, List.getElem_cons_succ, List.getElem_cons_zero, List.setIfInBounds_toArray, List.set_cons_zero, List.set_cons_succ]
                      refine wpAnyH_take (i := 13) (v := ?_) rfl (by kernel_rfl) (by kernel_rfl) (by kernel_rfl) (fun _ _ _ h => h) (Or.inl ⟨by rfl, ?_⟩) hHeld ?_
                      rotate_left
                      · intro V hSw; go_simp; rfl
                      try simp only [Act.put, List.getElem_toArray, List.getElem_cons_succ, List.getElem_cons_zero, List.setIfInBounds_toArray, List.set_cons_zero, List.set_cons_succ]
                      refine wpAnyH_take (i := 14) (v := ?_) rfl (by kernel_rfl) (by kernel_rfl) (by kernel_rfl) (fun _ _ _ h => h) (Or.inl ⟨by rfl, ?_⟩) hHeld ?_
                      rotate_left
                      · intro V hSw; go_simp; rfl
                      try simp only [Act.put, List.getElem_toArray, List.getElem_cons_succ, List.getElem_cons_zero, List.setIfInBounds_toArray, List.set_cons_zero, List.set_cons_succ]
                      refine wpAnyH_take (i := 15) (v := ?_) rfl (by kernel_rfl) (by kernel_rfl) (by kernel_rfl) (fun _ _ _ h => h) (Or.inl ⟨by rfl, ?_⟩) hHeld ?_
                      rotate_left
                      · intro V hSw; go_simp; rfl
                      try simp only [Act.put, List.getElem_toArray, List.getElem_cons_succ, List.getElem_cons_zero, List.setIfInBounds_toArray, List.set_cons_zero, List.set_cons_succ]
                      rw [unhide HFIN]
                      obtain ⟨U0, hU0⟩ : ∃ U, U = wr.drew := ⟨_, rfl⟩
                      rw [← hU0] at hHeld ⊢
                      clear hU0
                      refine wpAnyH_ready (rs := [16, 20]) (by kernel_rfl) (by simp) ?_
                      refine (AllReadyH.cons rfl (fun K hK => ?_) (AllReadyH.cons rfl (fun K hK => ?_) AllReadyH.nil))
                      · skip
                        go_simp
                        go_at_call 20
                        refine (unhide TP _ hHeld).mono ?_
                        rintro e v1 ⟨aT, cT, rfl, oT, b2⟩
                        have hsz := hHeld.size
                        refine hK.out _ _ (hHeld.trans (b2.mono hHeld.size)) (fun hHeld => ?_)
                        clear hK K
                        try simp only [Act.put, List.getElem_toArray, List.getElem_cons_succ, List.getElem_cons_zero, List.setIfInBounds_toArray, List.set_cons_zero, List.set_cons_succ]
                        have NX : Hid (∀ b o t, aT = some ⟨b, o, t⟩ → xb < b) := fun b o t e => by have := oT.blkx b o t e; omega
                        have TT := hide (Rd.ro oT)
                        have NL : Hid (∀ b o t, aT = some ⟨b, o, t⟩ → b < v1.heap.size ∨ E.P = []) := fun b o t e => by rcases unhide TT with h | ⟨b8, o8, e8, l8, _⟩; exact Or.inr h; rw [e8] at e; injection e with e; injection e with e1; exact Or.inl (by omega)
                        clear b2 oT hsz
                        refine wpAnyH_take (i := 17) (v := ?_) rfl (by kernel_rfl) (by kernel_rfl) (by kernel_rfl) (fun _ _ _ h => h) (Or.inl ⟨by rfl, ?_⟩) hHeld ?_
                        rotate_left
                        · intro V hSw; go_simp; rfl
                        try simp only [Act.put, List.getElem_toArray, List.getElem_cons_succ, List.getElem_cons_zero, List.setIfInBounds_toArray, List.set_cons_zero, List.set_cons_succ]
                        refine wpAnyH_take (i := 18) (v := ?_) rfl (by kernel_rfl) (by kernel_rfl) (by kernel_rfl) (fun _ _ _ h => h) (Or.inl ⟨by rfl, ?_⟩) hHeld ?_
                        rotate_left
                        · intro V hSw; go_simp; rfl
                        try simp only [Act.put, List.getElem_toArray, List.getElem_cons_succ, List.getElem_cons_zero, List.setIfInBounds_toArray, List.set_cons_zero, List.set_cons_succ]
                        refine wpAnyH_take (i := 19) (v := ?_) rfl (by kernel_rfl) (by kernel_rfl) (by kernel_rfl) (fun _ _ _ h => h) (Or.inl ⟨by rfl, ?_⟩) hHeld ?_
                        rotate_left
                        · intro V hSw; go_simp; rfl
                        try simp only [Act.put, List.getElem_toArray, List.getElem_cons_succ, List.getElem_cons_zero, List.setIfInBounds_toArray, List.set_cons_zero, List.set_cons_succ]
                        refine wpAnyH_ready (rs := [20]) (by kernel_rfl) (by simp) ?_
                        refine (AllReadyH.cons rfl (fun K hK => ?_) AllReadyH.nil)
                        · skip
                          go_simp
                          obtain ⟨U2, hU⟩ : ∃ U, U = v1.alloc (.cells #[.int .i64 0, .int .i64 0, .int .i64 0, .slice none 0 0] 39) := ⟨_, rfl⟩
                          have bU : Below v1.heap.size v1 U2 := by rw [hU]; exact (Below.refl _ _).alloc (Nat.le_refl _) _
                          have BXX := hide (show Bx U2 v1.heap.size [.int .i64 0, .int .i64 0, .int .i64 0, .slice none 0 0] by rw [hU]; exact Bx.new v1 _ _)
                          have hp0 := hide hHeld.size
                          rw [← hU]
                          refine hK.out _ _ (hHeld.trans (bU.mono hHeld.size)) (fun hHeld => ?_)
                          clear hK K hU
                          try simp only [Act.put, List.getElem_toArray, List.getElem_cons_succ, List.getElem_cons_zero, List.setIfInBounds_toArray, List.set_cons_zero, List.set_cons_succ]
                          have NB : Hid (∀ b o t, aT = some ⟨b, o, t⟩ → b < v1.heap.size ∨ E.P = []) := unhide NL
                          replace TT := hide ((unhide TT).below bU)
                          replace NB : Hid (∀ b o t, aT = some ⟨b, o, t⟩ → b ≠ v1.heap.size ∨ E.P = []) := fun b o t e => (unhide NB b o t e).imp (fun h => by omega) id
                          clear bU
                          have y1 := (unhide BXX).cv
                          have y2 := (unhide BXX).fz
                          have yl := (unhide BXX).lt
                          have F4 := hide (st4q (unhide BXX) (.int .i64 E.li) (.int .i64 E.re) (.int .i64 E.fi) (.slice aT E.P.length cT))
                          have hpb := unhide hp0
                          refine wpAnyH_ready (rs := [21]) (by kernel_rfl) (by simp) ?_
                          refine (AllReadyH.cons rfl (fun K hK => ?_) AllReadyH.nil)
                          go_simp
                          refine hK.out _ _ (hHeld.trans ((unhide F4).2.below hHeld.size (fun q hq => by omega))) (fun hHeld => ?_)
                          clear hK K
                          try simp only [Act.put, List.getElem_toArray, List.getElem_cons_succ, List.getElem_cons_zero, List.setIfInBounds_toArray, List.set_cons_zero, List.set_cons_succ]
                          refine wpAnyH_take (i := 22) (v := ?_) rfl (by kernel_rfl) (by kernel_rfl) (by kernel_rfl) (fun _ _ _ h => h) (Or.inl ⟨by rfl, ?_⟩) hHeld ?_
                          rotate_left
                          · intro V hSw; go_simp; rfl
                          try simp only [Act.put, List.getElem_toArray, List.getElem_cons_succ, List.getElem_cons_zero, List.setIfInBounds_toArray, List.set_cons_zero, List.set_cons_succ]
                          refine wpAnyH_done (by kernel_rfl) ?_ _
                          refine NoPanic.normal ?_
                          have HHB := hide hHeld
                          have RT := hide ((unhide TT).kz' (unhide F4).2 (unhide NB))
                          clear hHeld y1 y2
                          go_wp2_with fail
                          go_meet
                          exact ⟨_, aT, cT, rfl, rfl, (unhide F4).1, RT, unhide NX, unhide HHB⟩
                      · skip
                        go_simp
                        obtain ⟨U1, hU⟩ : ∃ U, U = U0.alloc (.cells #[.int .i64 0, .int .i64 0, .int .i64 0, .slice none 0 0] 39) := ⟨_, rfl⟩
                        have bU : Below U0.heap.size U0 U1 := by rw [hU]; exact (Below.refl _ _).alloc (Nat.le_refl _) _
                        have BXX := hide (show Bx U1 U0.heap.size [.int .i64 0, .int .i64 0, .int .i64 0, .slice none 0 0] by rw [hU]; exact Bx.new U0 _ _)
                        have hp0 := hide hHeld.size
                        rw [← hU]
                        refine hK.out _ _ (hHeld.trans (bU.mono hHeld.size)) (fun hHeld => ?_)
                        clear hK K hU
                        try simp only [Act.put, List.getElem_toArray, List.getElem_cons_succ, List.getElem_cons_zero, List.setIfInBounds_toArray, List.set_cons_zero, List.set_cons_succ]
                        clear bU
                        refine wpAnyH_ready (rs := [16]) (by kernel_rfl) (by simp) ?_
                        refine (AllReadyH.cons rfl (fun K hK => ?_) AllReadyH.nil)
                        · skip
                          go_simp
                          go_at_call 20
                          refine (unhide TP _ hHeld).mono ?_
                          rintro e v2 ⟨aT, cT, rfl, oT, b2⟩
                          have hsz := hHeld.size
                          refine hK.out _ _ (hHeld.trans (b2.mono hHeld.size)) (fun hHeld => ?_)
                          clear hK K
                          try simp only [Act.put, List.getElem_toArray, List.getElem_cons_succ, List.getElem_cons_zero, List.setIfInBounds_toArray, List.set_cons_zero, List.set_cons_succ]
                          have NX : Hid (∀ b o t, aT = some ⟨b, o, t⟩ → xb < b) := fun b o t e => by have := oT.blkx b o t e; omega
                          have TT := hide (Rd.ro oT)
                          have NB : Hid (∀ b o t, aT = some ⟨b, o, t⟩ → b ≠ U0.heap.size ∨ E.P = []) := fun b o t e => Or.inl (by have := oT.blkx b o t e; have := (unhide BXX).lt; omega)
                          replace BXX := hide ((unhide BXX).below b2)
                          clear b2 oT hsz
                          refine wpAnyH_take (i := 17) (v := ?_) rfl (by kernel_rfl) (by kernel_rfl) (by kernel_rfl) (fun _ _ _ h => h) (Or.inl ⟨by rfl, ?_⟩) hHeld ?_
                          rotate_left
                          · intro V hSw; go_simp; rfl
                          try simp only [Act.put, List.getElem_toArray, List.getElem_cons_succ, List.getElem_cons_zero, List.setIfInBounds_toArray, List.set_cons_zero, List.set_cons_succ]
                          refine wpAnyH_take (i := 18) (v := ?_) rfl (by kernel_rfl) (by kernel_rfl) (by kernel_rfl) (fun _ _ _ h => h) (Or.inl ⟨by rfl, ?_⟩) hHeld ?_
                          rotate_left
                          · intro V hSw; go_simp; rfl
                          try simp only [Act.put, List.getElem_toArray, List.getElem_cons_succ, List.getElem_cons_zero, List.setIfInBounds_toArray, List.set_cons_zero, List.set_cons_succ]
                          refine wpAnyH_take (i := 19) (v := ?_) rfl (by kernel_rfl) (by kernel_rfl) (by kernel_rfl) (fun _ _ _ h => h) (Or.inl ⟨by rfl, ?_⟩) hHeld ?_
                          rotate_left
                          · intro V hSw; go_simp; rfl
                          try simp only [Act.put, List.getElem_toArray, List.getElem_cons_succ, List.getElem_cons_zero, List.setIfInBounds_toArray, List.set_cons_zero, List.set_cons_succ]
                          have y1 := (unhide BXX).cv
                          have y2 := (unhide BXX).fz
                          have yl := (unhide BXX).lt
                          have F4 := hide (st4q (unhide BXX) (.int .i64 E.li) (.int .i64 E.re) (.int .i64 E.fi) (.slice aT E.P.length cT))
                          have hpb := unhide hp0
                          refine wpAnyH_ready (rs := [21]) (by kernel_rfl) (by simp) ?_
                          refine (AllReadyH.cons rfl (fun K hK => ?_) AllReadyH.nil)
                          go_simp
                          refine hK.out _ _ (hHeld.trans ((unhide F4).2.below hHeld.size (fun q hq => by omega))) (fun hHeld => ?_)
                          clear hK K
                          try simp only [Act.put, List.getElem_toArray, List.getElem_cons_succ, List.getElem_cons_zero, List.setIfInBounds_toArray, List.set_cons_zero, List.set_cons_succ]
                          refine wpAnyH_take (i := 22) (v := ?_) rfl (by kernel_rfl) (by kernel_rfl) (by kernel_rfl) (fun _ _ _ h => h) (Or.inl ⟨by rfl, ?_⟩) hHeld ?_
                          rotate_left
                          · intro V hSw; go_simp; rfl
                          try simp only [Act.put, List.getElem_toArray, List.getElem_cons_succ, List.getElem_cons_zero, List.setIfInBounds_toArray, List.set_cons_zero, List.set_cons_succ]
                          refine wpAnyH_done (by kernel_rfl) ?_ _
                          refine NoPanic.normal ?_
                          have HHB := hide hHeld
                          have RT := hide ((unhide TT).kz' (unhide F4).2 (unhide NB))
                          clear hHeld y1 y2
                          go_wp2_with fail
                          go_meet
                          exact ⟨_, aT, cT, rfl, rfl, (unhide F4).1, RT, unhide NX, unhide HHB⟩
                    case rest =>
                    obtain ⟨p20, aT, cT, rfl, rfl, XT, RT, NT, bT⟩ := hcut
                    obtain ⟨V2, hV2⟩ : ∃ V, V = wc := ⟨_, rfl⟩
                    rw [← hV2] at XT RT bT ⊢
                    clear hV2 LD TP II
                    have X2 := hide ((unhide hX).below (unhide bT))
                    have P2 := hide ((unhide hP).below (unhide bT))
                    have R2 := hide ((unhide hR).below (unhide bT))
                    have B2 := hide ((unhide hB).trans ((unhide bT).mono (unhide hB).size))
                    have s2 := (unhide bT).size
                    obtain ⟨D1, hD1⟩ : ∃ D1, psT PS (D, out) (j : Int) = D1 := ⟨_, rfl⟩
                    rw [hD1] at hstep hT hTG
                    clear hD1 hX hP hR hB bT hjI hj0 hjP wM
                    have t20 := (unhide XT).cv
                    have t20l := (unhide XT).lt
                    have x2 := (unhide X2).cv
                    have x2f := (unhide X2).fz
                    have x2l := (unhide X2).lt
                    go_upto_if 123 with fail
                    go_cut [] (fun wx => ∃ (a1 : Option Addr) (c1 : Nat), Hid (Bx wx xb (inflowC D1 a1 c1)) ∧ Hid (Rd pieceK wx a1 D1.P) ∧ Hid (∀ b o t, a1 = some ⟨b, o, t⟩ → xb < b) ∧ Hid (Ro pieceK 53 (xb + 1) wx (.slice (some ⟨gp, 0, none⟩) PS.length cP) PS) ∧ Hid (Below W.heap.size W wx))
                    case first =>
                      by_cases hco : co = 0
                      · have tco : (co == (0 : Int)) = true := beq_iff_eq.2 hco
                        have e1 : D1 = E := by rw [unhide hT, if_pos hco, ← unhide HE, hco]
                        have F4 := st4q (unhide X2) (.int .i64 E.li) (.int .i64 E.re) (.int .i64 E.fi) (.slice aT E.P.length cT)
                        obtain ⟨V3, hV3⟩ : ∃ V, V = ((((V2.setCell ⟨xb, 0, none⟩ (.int .i64 E.li)).setCell ⟨xb, 1, none⟩ (.int .i64 E.re)).setCell ⟨xb, 2, none⟩ (.int .i64 E.fi)).setCell ⟨xb, 3, none⟩ (.slice aT E.P.length cT)) := ⟨_, rfl⟩
                        rw [← hV3] at F4
                        have G1 : Hid (Bx V3 xb (inflowC D1 aT cT)) := by show Bx _ _ _; rw [e1]; exact F4.1
                        have G2 : Hid (Rd pieceK V3 aT D1.P) := by show Rd _ _ _ _; rw [e1]; exact (unhide RT).kz' F4.2 (fun b o t e => Or.inl (by have := unhide NT b o t e; omega))
                        have G4 : Hid (Ro pieceK 53 (xb + 1) V3 (.slice (some ⟨gp, 0, none⟩) PS.length cP) PS) := (unhide P2).kq F4.2 (fun q hq => by omega)
                        have G5 := hide ((unhide B2).trans (F4.2.below (base := W.heap.size) (by have := (unhide B2).size; omega) (fun q hq => by omega)))
                        have HV3 := hide hV3
                        clear e1 F4 hV3 hco X2 P2 R2 B2 RT XT
                        go_wp2
                        go_meet
                        rw [← unhide HV3]
                        exact ⟨aT, cT, G1, G2, NT, G4, G5⟩
                      · have tco : (co == (0 : Int)) = false := beq_eq_false_iff_ne.2 hco
                        have e1 : D1 = D := by rw [unhide hT, if_neg hco]
                        have G1 : Hid (Bx V2 xb (inflowC D1 aI cI)) := by show Bx _ _ _; rw [e1]; exact unhide X2
                        have G2 : Hid (Rd pieceK V2 aI D1.P) := by show Rd _ _ _ _; rw [e1]; exact unhide R2
                        clear e1 hco RT XT X2 R2
                        go_wp2
                        go_meet
                        exact ⟨aI, cI, G1, G2, hN, P2, B2⟩
                    case rest =>
                    obtain ⟨a1, c1, X3, R3, N3, P3, B3⟩ := hcut
                    obtain ⟨V3, hV3⟩ : ∃ V, V = wc := ⟨_, rfl⟩
                    rw [← hV3] at X3 R3 P3 B3 ⊢
                    clear hV3 t20 t20l x2 x2f x2l X2 P2 R2 B2 RT XT HE hT
                    have g := unhide hTG
                    have RD := hide (specRd D1 a1 c1 4000 V3 (by omega) (by omega) g.r0 (by have := g.r1; have := g.l1; omega) (by have := g.n; omega) (fun p hp => by have h1 := can_lo g.can p hp; have h2 := (g.hi p hp).1; have h3 := g.l1; have h4 := g.r0; unfold pE at h2; omega) (unhide R3))
                    unfold RDQ at RD
                    have RG := hide (rd_good (most := 4000) g (by omega))
                    have hps := psS_good (PS := PS) (st := (D, out)) (n := (j : Int)) (unhide hG).1 (unhide hG).2
                    rw [unhide hstep] at hps
                    have HPS := hide hps
                    rw [unhide hstep] at hF2
                    have hosz : Hid (out.size + (rdO D1 4000).size ≤ 9223372036854775807) := by
                      have h1 := (unhide hG).2
                      have h2 := (unhide hG).1.r1
                      have h3 := (unhide hG).1.l1
                      have h4 := (unhide RG).2.2
                      show _ ≤ _
                      omega
                    generalize rdE D1 4000 = E2 at *
                    generalize rdO D1 4000 = s2' at *
                    have ad := fun U : World => run_string_add_sum (P := Try.prog) (w := U) out s2' (unhide hosz)
                    have x3 := (unhide X3).cv
                    have x3l := (unhide X3).lt
                    have s3 := (unhide B3).size
                    clear hps g hTG RG hstep
                    go_wp2_with fail
                    refine (unhide RD).mono ?_
                    rintro e w5 ⟨a5, c5, rfl, r5, n5, b5⟩
                    obtain ⟨V6, hV6⟩ : ∃ V, V = w5.alloc (.cells #[.int .i64 E2.li, .int .i64 E2.re, .int .i64 E2.fi, .slice a5 E2.P.length c5] 39) := ⟨_, rfl⟩
                    have al6 : Below w5.heap.size w5 V6 := by rw [hV6]; exact (Below.refl _ _).alloc (Nat.le_refl _) _
                    have b6 := b5.trans (al6.mono b5.size)
                    have Y6 := hide (show Bx V6 w5.heap.size (inflowC E2 a5 c5) by rw [hV6]; exact Bx.new w5 _ _)
                    have X6 := hide ((unhide X3).below b6)
                    have P6 := hide ((unhide P3).below b6)
                    have R6 := hide (r5.below al6)
                    have B6 := hide ((unhide B3).trans (b6.mono s3))
                    have s6 : xb < V6.heap.size := (unhide X6).lt
                    have N6 : Hid (∀ b o t, a5 = some ⟨b, o, t⟩ → xb < b) := fun b o t e => by have := n5 b o t e; omega
                    have F4 := st4q (unhide X6) (.int .i64 E2.li) (.int .i64 E2.re) (.int .i64 E2.fi) (.slice a5 E2.P.length c5)
                    obtain ⟨V7, hV7⟩ : ∃ V, V = ((((V6.setCell ⟨xb, 0, none⟩ (.int .i64 E2.li)).setCell ⟨xb, 1, none⟩ (.int .i64 E2.re)).setCell ⟨xb, 2, none⟩ (.int .i64 E2.fi)).setCell ⟨xb, 3, none⟩ (.slice a5 E2.P.length c5)) := ⟨_, rfl⟩
                    rw [← hV7] at F4
                    have G1 := hide F4.1
                    have G2 := hide ((unhide R6).kz' F4.2 (fun b o t e => Or.inl (by have := unhide N6 b o t e; omega)))
                    have G4 : Hid (Ro pieceK 53 (xb + 1) V7 (.slice (some ⟨gp, 0, none⟩) PS.length cP) PS) := (unhide P6).kq F4.2 (fun q hq => by omega)
                    have G5 := hide ((unhide B6).trans (F4.2.below (base := W.heap.size) (by have := (unhide B6).size; omega) (fun q hq => by omega)))
                    have HV7 := hide hV7
                    have HV6 := hide hV6
                    have y6 := (unhide Y6).cv
                    have y6l := (unhide Y6).lt
                    have x6 := (unhide X6).cv
                    have x6f := (unhide X6).fz
                    have x6l := (unhide X6).lt
                    clear F4 hV7 hV6 al6 b6 b5 r5 n5 Y6 X6 P6 R6 B6 X3 R3 P3 B3 RD x3 x3l
                    go_upto_region 24 with fail
                    rw [← unhide HV6]
                    clear HV6
                    go_upto_region 25 with fail
                    rw [← unhide HV7]
                    clear HV7 y6 y6l x6 x6f x6l
                    go_wp2
                    exact ⟨⟨k + 1, E2, out ++ s2', a5, c5, by omega, rfl, by go_num, hF2, HPS, G2, N6, G4, G1, G5⟩, by simp [intOf]; omega⟩
                  · have tin : (decide ((0 : Int) ≤ v) && decide (v ≤ (M : Int))) = false := by simp only [Bool.and_eq_false_iff, decide_eq_false_iff_not]; omega
                    rw [tin] at II
                    have hs : Hid (psS PS (D, out) v = (D, out)) := by show _ = _; unfold psS; rw [if_neg (by omega)]
                    have GF : Hid ((order.take (k + 1)).foldl (psS PS) (⟨limit, 0, -1, []⟩, ⟨#[]⟩) = (D, out)) := by show _ = _; rw [unhide hF2, unhide hs]
                    clear hF2 hs tin hin hM
                    go_wp2_with (go_at_call 19; (with_reducible refine (unhide II _).mono ?_); rintro e w9 ⟨rfl, h9⟩; rw [h9]; clear h9 w9)
                    exact ⟨⟨k + 1, D, out, aI, cI, by omega, rfl, by go_num, GF, hG, hR, hN, hP, hX, hB⟩, by simp [intOf]; omega⟩
                · obtain rfl : k = order.length := by omega
                  rw [List.take_length] at hF
                  have hE : Hid (psF PS limit order = (D, out)) := unhide hF
                  have FF : Hid (Ending.returned (.tuple #[.string out, .bool (D.fi == D.re), .bool true]) = .returned (.tuple #[.string go, .bool gd, .bool gb])) := by show _ = _; rw [(unhide YY).1, (unhide YY).2, unhide hE, unhide hgt]; rfl
                  have x1 := (unhide hX).cv
                  have x1l := (unhide hX).lt
                  clear hF hE YY hgt hG hR hN hP hX
                  go_wp2_with fail
                  go_quiet (fail)
                  all_goals
                    go_wp2
                    go_ret3
                    exact ⟨unhide FF, below_drewN (unhide hB) _⟩
        · have t3 : decide ((100 : Int) < (order.length : Int)) = true := decide_eq_true (by omega)
          have hg : gb = false := by rw [unhide HB]; simp [h3]
          have Z := hide (unhide ZZ hg)
          clear hg HB HYES ZZ HC HO HL HD
          go_enter Try.func6, Try.ntmps6
          go_wp2_with fail
          refine (unhide HN).mono ?_
          rintro e w1 ⟨rfl, b1⟩
          have B1 := hide b1
          have al : Hid (∀ o, Below W.heap.size W (w1.alloc o)) := fun o => (unhide B1).alloc (unhide B1).size o
          clear b1 HN
          go_wp2
          go_ret3
          exact ⟨unhide Z, unhide al _⟩
      · have t2 : decide ((40 : Int) < (cuts.length : Int)) = true := decide_eq_true (by omega)
        have hg : gb = false := by rw [unhide HB]; simp [h2]
        have Z := hide (unhide ZZ hg)
        clear hg HB HYES ZZ HC HO HL HD
        go_enter Try.func6, Try.ntmps6
        go_wp2_with fail
        refine (unhide HN).mono ?_
        rintro e w1 ⟨rfl, b1⟩
        have B1 := hide b1
        have al : Hid (∀ o, Below W.heap.size W (w1.alloc o)) := fun o => (unhide B1).alloc (unhide B1).size o
        clear b1 HN
        go_wp2
        go_ret3
        exact ⟨unhide Z, unhide al _⟩
    · have t1 : decide ((4000 : Int) < (d.size : Int)) = true := decide_eq_true (by omega)
      have hg : gb = false := by rw [unhide HB]; simp [h1]
      have Z := hide (unhide ZZ hg)
      clear hg HB HYES ZZ HC HO HL HD
      go_enter Try.func6, Try.ntmps6
      go_wp2_with fail
      refine (unhide HN).mono ?_
      rintro e w1 ⟨rfl, b1⟩
      have B1 := hide b1
      have al : Hid (∀ o, Below W.heap.size W (w1.alloc o)) := fun o => (unhide B1).alloc (unhide B1).size o
      clear b1 HN
      go_wp2
      go_ret3
      exact ⟨unhide Z, unhide al _⟩
end Go.Proofs.Ytmicpknilhiliaa.Rc
