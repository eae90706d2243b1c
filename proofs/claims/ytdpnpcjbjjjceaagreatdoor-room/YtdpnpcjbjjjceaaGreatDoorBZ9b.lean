import Derived.ProofKit
import Derived.Test.YtdpnpcjbjjjceaaGreatDoorBZ1
set_option linter.unusedSimpArgs false
set_option linter.unusedVariables false
namespace Go.Proofs.YtdpnpcjbjjjceaaGreatDoor.S
open Go.RowKit Go.Maps Go.MuLone Go.Proofs.YtdpnpcjbjjjceaaGreatDoor

theorem infoConnP : (Tryz.prog.info? 89).map (fun i => (i.zero, i.size, i.bytes)) = some (some (.pointer none), 1, 8) := by kernel_rfl
theorem info_parts {o : Option TypeInfo} {x : Option Value × Nat × Nat} (h : o.map (fun i => (i.zero, i.size, i.bytes)) = some x) : ∃ i, o = some i ∧ i.zero = x.1 ∧ i.size = x.2.1 ∧ i.bytes = x.2.2 := by
  cases o with
  | none => cases h
  | some i => cases h; exact ⟨i, rfl, rfl, rfl, rfl⟩
theorem made_nils (n : Nat) : (madeCells (Value.pointer none).cells (n * 1)) = Array.replicate n (Value.pointer none) := by
  apply Array.ext'
  apply List.ext_getElem?
  intro j
  by_cases hj : j < n
  · have h0 : j % 1 = 0 := Nat.mod_one j
    simp [madeCells, hj, Value.cells, h0]
  · simp [madeCells, hj]
set_option maxRecDepth 100000 in
theorem open_t (a : Value) (n : Nat) (ts : List K.Ten) (w : World) (hG : 8 ≤ w.heap.size) (hB : Calls Tryz.prog 48 #[a] w fun e w' => ∃ m bs, e = .returned (.tuple #[.map (some m), .bool true]) ∧ Tens w' w.heap.size m ts bs ∧ Below w.heap.size w w') (ha : ∃ p x y, a = .slice p x y) (h5 : ts.length ≤ 5) (hq : ∀ t ∈ ts, t.q ≤ 2000) (h1 : 1 ≤ n) (h8 : n ≤ 8) :
    Calls Tryz.prog 18 #[a, .int .i64 n] w fun e w' => ∃ a F, e = .returned (.tuple #[.pointer (some a), .int .i64 0]) ∧ Srv w' a F (M.opened (ts.map K.Ten.plain) n) 0 ∧ Below w.heap.size w w' ∧ ∀ k, F k → w.heap.size ≤ k := by
  obtain ⟨p, x, y, rfl⟩ := ha
  obtain ⟨i0, hi, hz0, hz1, hz2⟩ := info_parts infoConnP
  simp only at hz0 hz1 hz2
  have k1 : ¬ (n : Int) < 1 := by omega
  have k8 : ¬ (8 : Int) < n := by omega
  have hm : ∀ W : World, (Instr.makeSlice 85 (.int .i64 (n : Int)) (.int .i64 (n : Int))).run Tryz.prog W = .ok (.slice (some ⟨W.heap.size, 0, none⟩) n n) (W.alloc (.cells (Array.replicate n (Value.pointer none)) 89)) := by
    intro W
    have hm := run_make (P := Tryz.prog) W 85 89 i0 _ Tryz.underlying85 hi hz0 .i64 .i64 (n : Int) (n : Int) (by omega) (by omega) (by rw [hz2]; omega) (by omega)
    have e1 : ((n : Int)).toNat = n := by omega
    rw [e1, hz1, made_nils] at hm
    exact hm
  have HQ := Hid.of hq
  clear hq
  go_enter Tryz.func18, Tryz.ntmps18
  go_wp2_with (go_at_call 48; refine hB.mono ?_; rintro e w1 ⟨m, bs, rfl, hT, hp⟩)
  have hS := srv_made (n := n) hT hG h5 HQ.out h8
  have hz := hp.size
  have hbw : Below w.heap.size w (madeW w1 m n) := hp.trans ((((Below.refl _ _).alloc (Nat.le_refl _) _).alloc (by simp) _ : Below w1.heap.size w1 (madeW w1 m n)).mono hz)
  refine bodyPost_ret (v := .tuple #[.pointer (some ⟨w1.heap.size + 1, 0, none⟩), .int .i64 0]) (by simp [results, Tryz.results18, go_sem]) rfl ⟨⟨w1.heap.size + 1, 0, none⟩, fun k => (Lay.made w1.heap.size m ts bs).τ k ≠ 0, rfl, ⟨Lay.made w1.heap.size m ts bs, 0, rfl, fun k => Iff.rfl, hS⟩, hbw, fun k hk => ?_⟩
  rcases Nat.lt_or_ge k w.heap.size with h9 | h9
  · exfalso
    apply hk
    have g1 := hT.ge
    show (if k = w1.heap.size + 1 then 2 else if k = m then 3 else if k = w1.heap.size then 4 else tagB bs 10 k) = 0
    rw [if_neg (by omega), if_neg (by omega), if_neg (by omega)]
    exact tagB_none bs 10 k (fun hk' => by have := (hT.new k hk').1; omega)
  · exact h9
end Go.Proofs.YtdpnpcjbjjjceaaGreatDoor.S
