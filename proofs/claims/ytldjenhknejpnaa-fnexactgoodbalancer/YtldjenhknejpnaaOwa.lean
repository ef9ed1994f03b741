/-
  Contracts: the program's own copies of configs and servers.
-/
import Derived.Test.YtldjenhknejpnaaRws
import Derived.Test.YtldjenhknejpnaaShelf
namespace Go.Proofs.Ytldjenhknejpnaa
open Go.ChangeShapes Go.WideShapes Go.ChangeAt Go.RowKit Go.Deep
set_option linter.unusedVariables false
set_option maxRecDepth 100000

theorem cln (s : ByteArray) (hs : s.size ≤ 1048576) (w : World) : Calls Try.prog 60 #[.string s] w fun e w' => e = .returned (.string s) ∧ Below w.heap.size w w' := by
  have H := hide (fun W => Try.stringslite_Clone s W (by omega))
  go_enter Try.func60, Try.ntmps60
  go_wp2_with fail
  refine (unhide H _).mono ?_
  rintro e w1 ⟨rfl, b1⟩
  go_wp2
  go_ret
  exact ⟨rfl, b1⟩
set_option maxHeartbeats 1000000 in
theorem ownCf (sl sv nc : Int) (k : ByteArray) (t : Bool) (hk : k.size ≤ 1048576) (w : World) :
    Calls Try.prog 57 #[kv sl sv nc k t] w fun e w' => e = .returned (kv sl sv nc k t) ∧ Below w.heap.size w w' := by
  have H := hide (cln k hk)
  go_enter Try.func57, Try.ntmps57
  go_wp2_with fail
  refine (unhide H _).mono ?_
  rintro e w1 ⟨rfl, b1⟩
  have s1 : w.heap.size + 1 < w1.heap.size := by have := b1.size; simp at this; omega
  have B1 := hide ((((Below.refl w.heap.size w).alloc (Nat.le_refl _) _).alloc (by simp) _).trans (b1.mono (by simp; omega)))
  have X1 : Bx w1 w.heap.size [.int .i64 sl, .int .i64 sv, .int .i64 nc, .string k, .bool t] := ((Bx.new w _ _).alloc _).below b1
  have R1 : Bx w1 (w.heap.size + 1) [.int .i64 0, .int .i64 0, .int .i64 0, .string ⟨#[]⟩, .bool false] := (Bx.newAt (w.alloc _) _ _ _ (by simp)).below b1
  have x1 := X1.cv
  have x2 := X1.fz
  have r1 := R1.cv
  have r2 := R1.fz
  clear b1 X1 R1
  go_wp2
  refine bodyPost_ret (v := kv sl sv nc k t) (by simp [results, Try.results57, go_sem, r1]) rfl ⟨rfl, ?_⟩
  iterate 6 refine Below.setCell ?_ (by simp) _
  exact unhide B1
set_option maxHeartbeats 1000000 in
theorem ownAl (D : AlD) (hi : D.i.size ≤ 1048576) (hb : D.b.size ≤ 1048576) (w : World) :
    Calls Try.prog 72 #[.string D.i, .string D.b] w fun e w' => e = .returned (av D) ∧ Below w.heap.size w w' := by
  have H := hide (cln D.i hi)
  have H2 := hide (cln D.b hb)
  go_enter Try.func72, Try.ntmps72
  go_wp2_with fail
  refine (unhide H _).mono ?_
  rintro e w1 ⟨rfl, b1⟩
  have R1 : Bx w1 w.heap.size [.string ⟨#[]⟩, .string ⟨#[]⟩] := (Bx.new w _ _).below b1
  have HR := hide R1
  have B1 := hide (((Below.refl w.heap.size w).alloc (Nat.le_refl _) _).trans (b1.mono (by simp)))
  clear R1 b1
  go_wp2_with fail
  refine (unhide H2 _).mono ?_
  rintro e w2 ⟨rfl, b2⟩
  have R2 := (unhide HR).below b2
  have B2 := hide ((unhide B1).trans (b2.mono (unhide B1).size))
  have r1 := R2.cv
  have r2 := R2.fz
  clear b2 R2 B1 HR
  go_wp2
  refine bodyPost_ret (v := av D) (by simp [results, Try.results72, go_sem, r1]) rfl ⟨rfl, ?_⟩
  iterate 2 refine Below.setCell ?_ (by simp) _
  exact unhide B2
theorem take_aA (L : List AlD) (k : Nat) (h : k < L.length) : L.take k ++ [aA L k] = L.take (k + 1) := by
  rw [List.take_add_one, List.getElem?_eq_getElem h]
  simp [aA, List.getD, List.getElem?_eq_getElem h]
theorem alC_sing (D : AlD) : alC [D] = [.string D.i, .string D.b] := rfl
theorem grown_below {base : Nat} {w w' : World} {v : Value} (hg : w.grownBy w' v.ownBlock) (hb : base ≤ w.heap.size) (hv : ∀ k, v.ownBlock = some k → base ≤ k) : Below base w w' :=
  ⟨hg.os, hg.tape, hg.output, hg.size, fun k hk => hg.block k (by omega) (fun e => by have := hv k e.symm; omega)⟩
theorem Oa.blk {base : Nat} {w : World} {v : Value} {L : List AlD} (h : Oa base w v L) : ∀ k, v.ownBlock = some k → base ≤ k := fun k e => (World.ownsRow.lt h k e).1
theorem Oe.blk {base : Nat} {w : World} {v : Value} {R : List EnR} (h : Oe base w v R) : ∀ k, v.ownBlock = some k → base ≤ k := fun k e => (World.ownsRow.lt h k e).1
/-- a literal of one alloc as a source -/
theorem sc_al (w : World) (D : AlD) (T : TypeId) : Sc (w.alloc (.cells #[.string D.i, .string D.b] T)) (some ⟨w.heap.size, 0, none⟩) [D].length (alC [D]) := by
  refine Or.inr ⟨_, rfl, fun j u hu => ?_⟩
  rw [add_none]
  have := (Bx.new w [.string D.i, .string D.b] T).cv (0 + j)
  rw [this, Nat.zero_add]
  exact hu
set_option maxHeartbeats 2000000 in
theorem ownSrv (a : Option Addr) (cap : Nat) (L : List AlD) (w : World) (hN : L.length ≤ 1000000) (hz : ∀ i, i < L.length → (aA L i).i.size ≤ 1048576 ∧ (aA L i).b.size ≤ 1048576) (h : Aa w a L) :
    Calls Try.prog 58 #[.slice a L.length cap] w fun e w' => ∃ v, e = .returned v ∧ Oa w.heap.size w' v L ∧ Below w.heap.size w w' := by
  have HR := hide h
  have HN := hide hz
  clear h hz
  go_enter Try.func58, Try.ntmps58
  go_wp2
  go_loopw [3, 8] (fun v i wr => ∃ k : Nat, k ≤ L.length ∧ i = .int .i64 k ∧ Oa w.heap.size wr v (L.take k) ∧ Below w.heap.size w wr) (fun _ i _ => L.length - (intOf i).toNat)
  case atStart => exact ⟨0, Nat.zero_le _, rfl, Oa.nil _ _, Below.refl _ _⟩
  case round =>
    obtain ⟨k, hk, rfl, hO, hbel⟩ := hrel
    by_cases hlt : k < L.length
    · rcases (unhide HR).below hbel with h0 | ⟨b, off, rfl, hel⟩
      · rw [h0] at hlt; exact absurd hlt (Nat.not_lt_zero _)
      have c0 := hel.ci k hlt
      have c1 := hel.cb k hlt
      have hnk : (k : Int) < (L.length : Int) := by omega
      have HC := hide (ownAl (aA L k) (unhide HN k hlt).1 (unhide HN k hlt).2)
      have HO := hide (hO.below ((Below.refl wr.heap.size wr).alloc (Nat.le_refl _) (.cells #[.string (aA L k).i, .string (aA L k).b] 76)))
      have HB := hide (hbel.alloc hbel.size (.cells #[.string (aA L k).i, .string (aA L k).b] 76))
      have TK := hide (take_aA L k hlt)
      clear hel hO hbel
      generalize aA L k = D at *
      have hlen : (L.take k).length = k := by rw [List.length_take]; omega
      go_wp2_with fail
      refine (unhide HC _).mono ?_
      rintro e w2 ⟨rfl, b2⟩
      have B2 := hide ((unhide HB).trans (b2.mono (unhide HB).size))
      obtain ⟨v', w', hrun, hO', hg, _⟩ := appA (w2.alloc (.cells #[.string D.i, .string D.b] 76)) 71 w.heap.size u3 (L.take k) (((unhide HO).below b2).below ((Below.refl _ _).alloc (Nat.le_refl _) _)) (some ⟨w2.heap.size, 0, none⟩) 1 [D] (sc_al w2 D _) (by rw [hlen]; show k + 1 ≤ _; omega) (by have := (unhide B2).size; simp; omega)
      have hrun' : (Builtin.append_ #[71, 71] 71 #[u3, .slice (some ⟨w2.heap.size, 0, none⟩) 1 1]).run Try.prog (w2.alloc (.cells #[.string D.i, .string D.b] 76)) = .ok v' w' := hrun
      rw [unhide TK] at hO'
      have HO2 := hide hO'
      have HB2 := hide (((unhide B2).alloc (unhide B2).size (.cells #[.string D.i, .string D.b] 76)).trans (grown_below hg (by have := (unhide B2).size; simp; omega) (Oa.blk (unhide HO))))
      have RUN := hide hrun'
      clear hrun hrun' hO' hg b2 HO HB HC TK B2
      go_wp2_with (at_builtin; refine wpl_app rfl _ _ 71 rfl _ _ _ _ rfl rfl (unhide RUN) ?_)
      exact ⟨⟨k + 1, by omega, by go_num, unhide HO2, unhide HB2⟩, by simp [intOf]; omega⟩
    · obtain rfl : k = L.length := by omega
      rw [List.take_length] at hO
      have HO := hide hO
      have HB := hide hbel
      clear hO hbel
      go_wp2
      go_ret
      exact ⟨_, rfl, unhide HO, unhide HB⟩
end Go.Proofs.Ytldjenhknejpnaa
