import Derived.Test.YtdpnpcjbjjjceaaGreatDoorBC2
set_option linter.unusedSimpArgs false
set_option linter.unusedVariables false
namespace Go.Proofs.YtdpnpcjbjjjceaaGreatDoor.S
open Go.RowKit Go.Maps Go.MuLone Go.Proofs.YtdpnpcjbjjjceaaGreatDoor

theorem below_al {w w' : World} (h : Below w.heap.size w w') (o : Obj) : Below w.heap.size w (w'.alloc o) := h.alloc h.size o
/-- the box of an item -/
def ItemAt (W : World) (B : Nat) (K V : ByteArray) (fl : Nat) : Prop := W.heap[B]? = some (.cells #[.string K, .string V, .int .i64 fl] 162 (0, 0))
theorem item_put {W : World} {B : Nat} {a b c : Value} {K V : ByteArray} {fl : Nat} (h : W.heap[B]? = some (.cells #[a, b, c] 162 (0, 0))) : ItemAt (((W.setCell ⟨B, 0, none⟩ (.string K)).setCell ⟨B, 1, none⟩ (.string V)).setCell ⟨B, 2, none⟩ (.int .i64 fl)) B K V fl := set_here (set_here (set_here h))
theorem item_new {W : World} {K V : ByteArray} {fl : Nat} : ItemAt (W.alloc (.cells #[.string K, .string V, .int .i64 fl] 162 (0, 0))) W.heap.size K V fl := alloc_here _ _
theorem blk1 {w w' : World} {a : Array Value} {t : TypeId} (h : Below (w.alloc (.cells a t (0, 0))).heap.size (w.alloc (.cells a t (0, 0))) w') : w'.heap[w.heap.size]? = some (.cells a t (0, 0)) := (h.block _ (by simp)).trans (alloc_here _ _)
theorem blk1d {w w' : World} {a : Array Value} {t : TypeId} (h : Below (w.alloc (.cells a t (0, 0))).drew.heap.size (w.alloc (.cells a t (0, 0))).drew w') : w'.heap[w.heap.size]? = some (.cells a t (0, 0)) := (h.block _ (by simp)).trans (alloc_here _ _)
theorem blk2 {w w' : World} {g : Nat} {o : Obj} (h : Below w.heap.size w w') (hg : g < w.heap.size) (ho : w.heap[g]? = some o) : w'.heap[g]? = some o := (h.block _ hg).trans ho
theorem ItemAt.keep {W w3 : World} {B : Nat} {K V : ByteArray} {fl : Nat} (h : ItemAt W B K V fl) (hb : Below W.heap.size W w3) : ItemAt w3 B K V fl := (hb.block _ (Array.getElem?_eq_some_iff.1 h).1).trans h
theorem ItemAt.drew {W : World} {B : Nat} {K V : ByteArray} {fl : Nat} (h : ItemAt W B K V fl) : ItemAt W.drew B K V fl := h
theorem ItemAt.after {W w3 : World} {B : Nat} {K V : ByteArray} {fl : Nat} (h : ItemAt W B K V fl) (hb : Below W.heap.size W w3) : w3.cell? ⟨B, 0, none⟩ = some (.string K) ∧ w3.cell? ⟨B, 1, none⟩ = some (.string V) ∧ w3.cell? ⟨B, 2, none⟩ = some (.int .i64 fl) := by
  have h1 := (hb.block _ (Array.getElem?_eq_some_iff.1 h).1).trans h
  exact ⟨heap_cell h1 0 rfl, heap_cell h1 1 rfl, heap_cell h1 2 rfl⟩
/-- the world is forgotten, but for S -/
theorem wp_any {F : Act → World → Prop} {a : Act} {W : World} {S : World → Prop} (h : S W) (k : ∀ W, S W → F a W) : F a W := k W h
theorem three_of {w w' : World} {cb : Nat} {a b c : Value} (hcb : cb < w.heap.size) (h3 : w.cell? ⟨cb, 3, none⟩ = some a) (h4 : w.cell? ⟨cb, 4, none⟩ = some b) (h5 : w.cell? ⟨cb, 5, none⟩ = some c) (hb : Below w.heap.size w w') :
    w'.cell? ⟨cb, 3, none⟩ = some a ∧ w'.cell? ⟨cb, 4, none⟩ = some b ∧ w'.cell? ⟨cb, 5, none⟩ = some c ∧ Below w.heap.size w w' :=
  ⟨(hb.cell (p := ⟨cb, 3, none⟩) hcb).trans h3, (hb.cell (p := ⟨cb, 4, none⟩) hcb).trans h4, (hb.cell (p := ⟨cb, 5, none⟩) hcb).trans h5, hb⟩
set_option maxRecDepth 20000 in
set_option maxHeartbeats 8000000 in
theorem storeValue_c {X : Cx} {w : World} {n : Nat} {y : M.Sys} {c : M.Conn} {rv : Value} (h : KAt X w n y c rv) (hn : n ≤ 10000000000) {t : Nat} (ht : t < X.N) (hown : c.owner = some t) (ws : List M.Bytes) (hwant : c.want = .value ws) (hwv : M.wantsValue ws = true) (v : M.Bytes) (hv : v.length ≤ 100) :
    Calls Tryz.prog 122 #[.pointer (some ⟨X.cb, 0, none⟩), .string ⟨v.toArray⟩] w fun e w' => e = .returned (.string ⟨(M.stored y.clock (M.storeAt y t) ws v).1.toArray⟩) ∧ KAt X w' (n + 1) (M.setAt y t (M.stored y.clock (M.storeAt y t) ws v).2) c rv ∧ TurnK X w w' := by
  obtain ⟨sv, wt, nv, tv, iv, av, hc, hcb⟩ := conn_cells h
  have hwt := hc.want
  rw [hwant] at hwt
  obtain ⟨_, base, hcmd, _⟩ := hwt
  obtain ⟨rfl, hSC, hname⟩ := cmd_store hcmd hwv
  obtain ⟨g1, k1, rfl, _, hg1, ct⟩ := hSC.tx
  obtain ⟨g2, k2, n2, rfl, _, hg2, hn2, d0, d1, d2, d3⟩ := hSC.nm
  have c1 := store_ptr h hown
  have c3 := hc.cb.c3
  have c4 := hc.cb.c4
  have c5 := hc.cb.c5
  have kK : Hid (∀ W, Below w.heap.size w W → Calls Tryz.prog 166 #[.agg #[str (M.word ws 0), .slice (some ⟨g1, 0, none⟩) 1 k1, .slice (some ⟨g2, 0, none⟩) n2 k2]] W fun e w' => e = .returned (str (M.word ws 1)) ∧ Bw w W w') := fun W hW =>
    (key_c _ _ W g1 1 k1 _ _ rfl ((hW.cell (p := ⟨g1, 0, none⟩) hg1).trans ct) (Nat.lt_of_lt_of_le hg1 hW.size) (by decide) ⟨_, rfl⟩ ⟨_, _, _, rfl⟩).mono fun e w' ⟨he, hb⟩ => ⟨he, bw_of hW hb⟩
  have kF : Hid (∀ W, Below w.heap.size w W → Calls Tryz.prog 167 #[.agg #[str (M.word ws 0), .slice (some ⟨g1, 0, none⟩) 1 k1, .slice (some ⟨g2, 0, none⟩) n2 k2]] W fun e w' => e = .returned (int (M.num (M.word ws 2))) ∧ Bw w W w') := fun W hW =>
    (flags_c _ _ W g2 n2 k2 _ ((hW.cell (p := ⟨g2, 0, none⟩) hg2).trans d0) (Nat.lt_of_lt_of_le hg2 hW.size) (by omega) ⟨_, rfl⟩ ⟨_, _, _, rfl⟩).mono fun e w' ⟨he, hb⟩ => ⟨he, bw_of hW hb⟩
  have kL : Hid (∀ W, Below w.heap.size w W → Calls Tryz.prog 168 #[.agg #[str (M.word ws 0), .slice (some ⟨g1, 0, none⟩) 1 k1, .slice (some ⟨g2, 0, none⟩) n2 k2]] W fun e w' => e = .returned (int (M.num (M.word ws 3))) ∧ Bw w W w') := fun W hW =>
    (life_st (M.word ws 0) _ W g2 n2 k2 _ ((hW.cell (p := ⟨g2, 1, none⟩) hg2).trans d1) (Nat.lt_of_lt_of_le hg2 hW.size) (by omega) ⟨_, _, _, rfl⟩ hname).mono fun e w' ⟨he, hb⟩ => ⟨he, bw_of hW hb⟩
  have kS := Hid.of (stored_k h hn ht ws v hv hSC.key hSC.flags hSC.life)
  clear hc hcmd hwant hown hv hwv
  obtain ⟨r, hr⟩ : ∃ r, r = M.stored y.clock (M.storeAt y t) ws v := ⟨_, rfl⟩
  rw [← hr] at kS ⊢
  obtain ⟨K, hK⟩ : ∃ K : ByteArray, K = ⟨(M.word ws 1).toArray⟩ := ⟨_, rfl⟩
  obtain ⟨V, hV⟩ : ∃ V : ByteArray, V = ⟨v.toArray⟩ := ⟨_, rfl⟩
  unfold str at kK kF kL kS c3
  unfold int at kF kL kS
  rw [← hK] at kK kS
  rw [← hV] at kS ⊢
  obtain ⟨fl, hfl⟩ : ∃ fl, fl = M.num (M.word ws 2) := ⟨_, rfl⟩
  obtain ⟨lf, hlf⟩ : ∃ lf, lf = M.num (M.word ws 3) := ⟨_, rfl⟩
  rw [← hfl] at kF kS
  rw [← hlf] at kL kS
  clear hK hV hr hfl hlf hSC ct d0 d1 d2
  rcases hname with h0 | h0 | h0 | h0
  · have kA : Hid (∀ W, Below w.heap.size w W → Calls Tryz.prog 173 #[.pointer (some ⟨X.sb t, 0, none⟩), .agg #[.string K, .string V, .int .i64 fl], .int .i64 lf] W fun e w' => e = .returned (.string ⟨r.1.toArray⟩) ∧ KAt X w' (n + 1) (M.setAt y t r.2) c rv ∧ TurnK X w w') := fun W hW => (kS.out W hW).2.2.2 h0
    rw [h0] at c3 kK kF kL
    clear kS h0 d3
    go_enter Tryz.func122, Tryz.ntmps122
    go_wp2_with fail
    have hbw : Below w.heap.size w w := Below.refl _ _
    go_region_held3 (fun w' => w'.cell? ⟨X.cb, 3, none⟩ = some (.string ⟨#[115, 101, 116]⟩) ∧ w'.cell? ⟨X.cb, 4, none⟩ = some (.slice (some ⟨g1, 0, none⟩) 1 k1) ∧ w'.cell? ⟨X.cb, 5, none⟩ = some (.slice (some ⟨g2, 0, none⟩) n2 k2) ∧ Below w.heap.size w w')
      ((refine three_of hcb c3 c4 c5 ?_; repeat (first | with_reducible assumption | with_reducible refine Below.drew ?_ | with_reducible refine below_al ?_ _ | with_reducible refine Below.setCell ?_ (by first | exact Nat.le_refl _ | assumption | omega | (simp; done) | (simp; omega)) _)))
      (first
      | (go_at_call 166; refine (kK.out _ (by repeat (first | with_reducible assumption | with_reducible refine Below.drew ?_ | with_reducible refine below_al ?_ _ | with_reducible refine Below.setCell ?_ (by first | exact Nat.le_refl _ | assumption | omega | (simp; done) | (simp; omega)) _))).mono ?_; rintro e w1 ⟨rfl, hw1, hb1⟩; have s1 := hw1.size; have q1 := fun b j (hb : b < _) => hb1.cell (p := ⟨b, j, none⟩) hb; have q1f := fun b j (hb : b < _) => hb1.frozen (p := ⟨b, j, none⟩) hb; try (have z1 : w.heap.size < w1.heap.size := by (have := hb1.size; simp at this; omega)))
      | (go_at_call 167; refine (kF.out _ (by repeat (first | with_reducible assumption | with_reducible refine Below.drew ?_ | with_reducible refine below_al ?_ _ | with_reducible refine Below.setCell ?_ (by first | exact Nat.le_refl _ | assumption | omega | (simp; done) | (simp; omega)) _))).mono ?_; rintro e w2 ⟨rfl, hw2, hb2⟩; have s2 := hw2.size; have q2 := fun b j (hb : b < _) => hb2.cell (p := ⟨b, j, none⟩) hb; have q2f := fun b j (hb : b < _) => hb2.frozen (p := ⟨b, j, none⟩) hb))
    · rename_i hHeld
      replace hHeld := hHeld.2.2.2
      refine wp_any (S := fun W => Below w.heap.size w W ∧ ItemAt W w2.heap.size K V fl) ⟨hHeld, item_new⟩ ?_
      clear hHeld hb2 hb1 q1 q1f q2 q2f hbw
      rintro W ⟨hW, hBx⟩
      obtain ⟨e3, e4, e5, _⟩ := three_of hcb c3 c4 c5 hW
      have HBX := Hid.of hBx
      clear hBx
      go_wp2_with (go_at_call 168; refine (kL.out _ hW).mono ?_; rintro e w3 ⟨rfl, hw3, hb3⟩; obtain ⟨b0, b1, b2⟩ := HBX.out.after hb3; obtain ⟨c33, c43, c53, _⟩ := three_of hcb c3 c4 c5 hw3; have c13 := (hw3.cell (p := ⟨X.cb, 1, none⟩) hcb).trans c1; have HW3 := Hid.of hw3; have HBX3 := Hid.of (HBX.out.keep hb3); clear hw3 hb3 e3 e4 e5)
      go_region_with (go_at_call 173; refine (kA.out _ HW3.out.drew).mono ?_; rintro e w4 ⟨rfl, hK4, hT4⟩)
      all_goals
        go_wp2
        go_ret
        exact ⟨rfl, hK4, hT4⟩
    · rename_i hHeld
      replace hHeld := hHeld.2.2.2
      refine wp_any (S := fun W => Below w.heap.size w W ∧ ItemAt W w1.heap.size K V fl) ⟨hHeld, item_put (blk1 hb2)⟩ ?_
      clear hHeld hb2 hb1 q1 q1f q2 q2f hbw
      rintro W ⟨hW, hBx⟩
      obtain ⟨e3, e4, e5, _⟩ := three_of hcb c3 c4 c5 hW
      have HBX := Hid.of hBx
      clear hBx
      go_wp2_with (go_at_call 168; refine (kL.out _ hW).mono ?_; rintro e w3 ⟨rfl, hw3, hb3⟩; obtain ⟨b0, b1, b2⟩ := HBX.out.after hb3; obtain ⟨c33, c43, c53, _⟩ := three_of hcb c3 c4 c5 hw3; have c13 := (hw3.cell (p := ⟨X.cb, 1, none⟩) hcb).trans c1; have HW3 := Hid.of hw3; have HBX3 := Hid.of (HBX.out.keep hb3); clear hw3 hb3 e3 e4 e5)
      go_region_with (go_at_call 173; refine (kA.out _ HW3.out.drew).mono ?_; rintro e w4 ⟨rfl, hK4, hT4⟩)
      all_goals
        go_wp2
        go_ret
        exact ⟨rfl, hK4, hT4⟩
    · rename_i hHeld
      replace hHeld := hHeld.2.2.2
      refine wp_any (S := fun W => Below w.heap.size w W ∧ ItemAt W w.heap.size K V fl) ⟨hHeld, item_put (blk2 hb2 z1 (blk1d hb1))⟩ ?_
      clear hHeld hb2 hb1 q1 q1f q2 q2f hbw
      rintro W ⟨hW, hBx⟩
      obtain ⟨e3, e4, e5, _⟩ := three_of hcb c3 c4 c5 hW
      have HBX := Hid.of hBx
      clear hBx
      go_wp2_with (go_at_call 168; refine (kL.out _ hW).mono ?_; rintro e w3 ⟨rfl, hw3, hb3⟩; obtain ⟨b0, b1, b2⟩ := HBX.out.after hb3; obtain ⟨c33, c43, c53, _⟩ := three_of hcb c3 c4 c5 hw3; have c13 := (hw3.cell (p := ⟨X.cb, 1, none⟩) hcb).trans c1; have HW3 := Hid.of hw3; have HBX3 := Hid.of (HBX.out.keep hb3); clear hw3 hb3 e3 e4 e5)
      go_region_with (go_at_call 173; refine (kA.out _ HW3.out.drew).mono ?_; rintro e w4 ⟨rfl, hK4, hT4⟩)
      all_goals
        go_wp2
        go_ret
        exact ⟨rfl, hK4, hT4⟩
  · have kA : Hid (∀ W, Below w.heap.size w W → Calls Tryz.prog 169 #[.pointer (some ⟨X.sb t, 0, none⟩), .agg #[.string K, .string V, .int .i64 fl], .int .i64 lf] W fun e w' => e = .returned (.string ⟨r.1.toArray⟩) ∧ KAt X w' (n + 1) (M.setAt y t r.2) c rv ∧ TurnK X w w') := fun W hW => (kS.out W hW).1 h0
    rw [h0] at c3 kK kF kL
    clear kS h0 d3
    go_enter Tryz.func122, Tryz.ntmps122
    go_wp2_with fail
    have hbw : Below w.heap.size w w := Below.refl _ _
    go_region_held3 (fun w' => w'.cell? ⟨X.cb, 3, none⟩ = some (.string ⟨#[97, 100, 100]⟩) ∧ w'.cell? ⟨X.cb, 4, none⟩ = some (.slice (some ⟨g1, 0, none⟩) 1 k1) ∧ w'.cell? ⟨X.cb, 5, none⟩ = some (.slice (some ⟨g2, 0, none⟩) n2 k2) ∧ Below w.heap.size w w')
      ((refine three_of hcb c3 c4 c5 ?_; repeat (first | with_reducible assumption | with_reducible refine Below.drew ?_ | with_reducible refine below_al ?_ _ | with_reducible refine Below.setCell ?_ (by first | exact Nat.le_refl _ | assumption | omega | (simp; done) | (simp; omega)) _)))
      (first
      | (go_at_call 166; refine (kK.out _ (by repeat (first | with_reducible assumption | with_reducible refine Below.drew ?_ | with_reducible refine below_al ?_ _ | with_reducible refine Below.setCell ?_ (by first | exact Nat.le_refl _ | assumption | omega | (simp; done) | (simp; omega)) _))).mono ?_; rintro e w1 ⟨rfl, hw1, hb1⟩; have s1 := hw1.size; have q1 := fun b j (hb : b < _) => hb1.cell (p := ⟨b, j, none⟩) hb; have q1f := fun b j (hb : b < _) => hb1.frozen (p := ⟨b, j, none⟩) hb; try (have z1 : w.heap.size < w1.heap.size := by (have := hb1.size; simp at this; omega)))
      | (go_at_call 167; refine (kF.out _ (by repeat (first | with_reducible assumption | with_reducible refine Below.drew ?_ | with_reducible refine below_al ?_ _ | with_reducible refine Below.setCell ?_ (by first | exact Nat.le_refl _ | assumption | omega | (simp; done) | (simp; omega)) _))).mono ?_; rintro e w2 ⟨rfl, hw2, hb2⟩; have s2 := hw2.size; have q2 := fun b j (hb : b < _) => hb2.cell (p := ⟨b, j, none⟩) hb; have q2f := fun b j (hb : b < _) => hb2.frozen (p := ⟨b, j, none⟩) hb))
    · rename_i hHeld
      replace hHeld := hHeld.2.2.2
      refine wp_any (S := fun W => Below w.heap.size w W ∧ ItemAt W w2.heap.size K V fl) ⟨hHeld, item_new⟩ ?_
      clear hHeld hb2 hb1 q1 q1f q2 q2f hbw
      rintro W ⟨hW, hBx⟩
      obtain ⟨e3, e4, e5, _⟩ := three_of hcb c3 c4 c5 hW
      have HBX := Hid.of hBx
      clear hBx
      go_wp2_with (go_at_call 168; refine (kL.out _ hW).mono ?_; rintro e w3 ⟨rfl, hw3, hb3⟩; obtain ⟨b0, b1, b2⟩ := HBX.out.after hb3; obtain ⟨c33, c43, c53, _⟩ := three_of hcb c3 c4 c5 hw3; have c13 := (hw3.cell (p := ⟨X.cb, 1, none⟩) hcb).trans c1; have HW3 := Hid.of hw3; have HBX3 := Hid.of (HBX.out.keep hb3); clear hw3 hb3 e3 e4 e5)
      go_region_with (go_at_call 169; refine (kA.out _ HW3.out.drew).mono ?_; rintro e w4 ⟨rfl, hK4, hT4⟩)
      all_goals
        go_wp2
        go_ret
        exact ⟨rfl, hK4, hT4⟩
    · rename_i hHeld
      replace hHeld := hHeld.2.2.2
      refine wp_any (S := fun W => Below w.heap.size w W ∧ ItemAt W w1.heap.size K V fl) ⟨hHeld, item_put (blk1 hb2)⟩ ?_
      clear hHeld hb2 hb1 q1 q1f q2 q2f hbw
      rintro W ⟨hW, hBx⟩
      obtain ⟨e3, e4, e5, _⟩ := three_of hcb c3 c4 c5 hW
      have HBX := Hid.of hBx
      clear hBx
      go_wp2_with (go_at_call 168; refine (kL.out _ hW).mono ?_; rintro e w3 ⟨rfl, hw3, hb3⟩; obtain ⟨b0, b1, b2⟩ := HBX.out.after hb3; obtain ⟨c33, c43, c53, _⟩ := three_of hcb c3 c4 c5 hw3; have c13 := (hw3.cell (p := ⟨X.cb, 1, none⟩) hcb).trans c1; have HW3 := Hid.of hw3; have HBX3 := Hid.of (HBX.out.keep hb3); clear hw3 hb3 e3 e4 e5)
      go_region_with (go_at_call 169; refine (kA.out _ HW3.out.drew).mono ?_; rintro e w4 ⟨rfl, hK4, hT4⟩)
      all_goals
        go_wp2
        go_ret
        exact ⟨rfl, hK4, hT4⟩
    · rename_i hHeld
      replace hHeld := hHeld.2.2.2
      refine wp_any (S := fun W => Below w.heap.size w W ∧ ItemAt W w.heap.size K V fl) ⟨hHeld, item_put (blk2 hb2 z1 (blk1d hb1))⟩ ?_
      clear hHeld hb2 hb1 q1 q1f q2 q2f hbw
      rintro W ⟨hW, hBx⟩
      obtain ⟨e3, e4, e5, _⟩ := three_of hcb c3 c4 c5 hW
      have HBX := Hid.of hBx
      clear hBx
      go_wp2_with (go_at_call 168; refine (kL.out _ hW).mono ?_; rintro e w3 ⟨rfl, hw3, hb3⟩; obtain ⟨b0, b1, b2⟩ := HBX.out.after hb3; obtain ⟨c33, c43, c53, _⟩ := three_of hcb c3 c4 c5 hw3; have c13 := (hw3.cell (p := ⟨X.cb, 1, none⟩) hcb).trans c1; have HW3 := Hid.of hw3; have HBX3 := Hid.of (HBX.out.keep hb3); clear hw3 hb3 e3 e4 e5)
      go_region_with (go_at_call 169; refine (kA.out _ HW3.out.drew).mono ?_; rintro e w4 ⟨rfl, hK4, hT4⟩)
      all_goals
        go_wp2
        go_ret
        exact ⟨rfl, hK4, hT4⟩
  · have kA : Hid (∀ W, Below w.heap.size w W → Calls Tryz.prog 170 #[.pointer (some ⟨X.sb t, 0, none⟩), .agg #[.string K, .string V, .int .i64 fl], .int .i64 lf] W fun e w' => e = .returned (.string ⟨r.1.toArray⟩) ∧ KAt X w' (n + 1) (M.setAt y t r.2) c rv ∧ TurnK X w w') := fun W hW => (kS.out W hW).2.1 h0
    rw [h0] at c3 kK kF kL
    clear kS h0 d3
    go_enter Tryz.func122, Tryz.ntmps122
    go_wp2_with fail
    have hbw : Below w.heap.size w w := Below.refl _ _
    go_region_held3 (fun w' => w'.cell? ⟨X.cb, 3, none⟩ = some (.string ⟨#[114, 101, 112, 108, 97, 99, 101]⟩) ∧ w'.cell? ⟨X.cb, 4, none⟩ = some (.slice (some ⟨g1, 0, none⟩) 1 k1) ∧ w'.cell? ⟨X.cb, 5, none⟩ = some (.slice (some ⟨g2, 0, none⟩) n2 k2) ∧ Below w.heap.size w w')
      ((refine three_of hcb c3 c4 c5 ?_; repeat (first | with_reducible assumption | with_reducible refine Below.drew ?_ | with_reducible refine below_al ?_ _ | with_reducible refine Below.setCell ?_ (by first | exact Nat.le_refl _ | assumption | omega | (simp; done) | (simp; omega)) _)))
      (first
      | (go_at_call 166; refine (kK.out _ (by repeat (first | with_reducible assumption | with_reducible refine Below.drew ?_ | with_reducible refine below_al ?_ _ | with_reducible refine Below.setCell ?_ (by first | exact Nat.le_refl _ | assumption | omega | (simp; done) | (simp; omega)) _))).mono ?_; rintro e w1 ⟨rfl, hw1, hb1⟩; have s1 := hw1.size; have q1 := fun b j (hb : b < _) => hb1.cell (p := ⟨b, j, none⟩) hb; have q1f := fun b j (hb : b < _) => hb1.frozen (p := ⟨b, j, none⟩) hb; try (have z1 : w.heap.size < w1.heap.size := by (have := hb1.size; simp at this; omega)))
      | (go_at_call 167; refine (kF.out _ (by repeat (first | with_reducible assumption | with_reducible refine Below.drew ?_ | with_reducible refine below_al ?_ _ | with_reducible refine Below.setCell ?_ (by first | exact Nat.le_refl _ | assumption | omega | (simp; done) | (simp; omega)) _))).mono ?_; rintro e w2 ⟨rfl, hw2, hb2⟩; have s2 := hw2.size; have q2 := fun b j (hb : b < _) => hb2.cell (p := ⟨b, j, none⟩) hb; have q2f := fun b j (hb : b < _) => hb2.frozen (p := ⟨b, j, none⟩) hb))
    · rename_i hHeld
      replace hHeld := hHeld.2.2.2
      refine wp_any (S := fun W => Below w.heap.size w W ∧ ItemAt W w2.heap.size K V fl) ⟨hHeld, item_new⟩ ?_
      clear hHeld hb2 hb1 q1 q1f q2 q2f hbw
      rintro W ⟨hW, hBx⟩
      obtain ⟨e3, e4, e5, _⟩ := three_of hcb c3 c4 c5 hW
      have HBX := Hid.of hBx
      clear hBx
      go_wp2_with (go_at_call 168; refine (kL.out _ hW).mono ?_; rintro e w3 ⟨rfl, hw3, hb3⟩; obtain ⟨b0, b1, b2⟩ := HBX.out.after hb3; obtain ⟨c33, c43, c53, _⟩ := three_of hcb c3 c4 c5 hw3; have c13 := (hw3.cell (p := ⟨X.cb, 1, none⟩) hcb).trans c1; have HW3 := Hid.of hw3; have HBX3 := Hid.of (HBX.out.keep hb3); clear hw3 hb3 e3 e4 e5)
      go_region_with (go_at_call 170; refine (kA.out _ HW3.out.drew).mono ?_; rintro e w4 ⟨rfl, hK4, hT4⟩)
      all_goals
        go_wp2
        go_ret
        exact ⟨rfl, hK4, hT4⟩
    · rename_i hHeld
      replace hHeld := hHeld.2.2.2
      refine wp_any (S := fun W => Below w.heap.size w W ∧ ItemAt W w1.heap.size K V fl) ⟨hHeld, item_put (blk1 hb2)⟩ ?_
      clear hHeld hb2 hb1 q1 q1f q2 q2f hbw
      rintro W ⟨hW, hBx⟩
      obtain ⟨e3, e4, e5, _⟩ := three_of hcb c3 c4 c5 hW
      have HBX := Hid.of hBx
      clear hBx
      go_wp2_with (go_at_call 168; refine (kL.out _ hW).mono ?_; rintro e w3 ⟨rfl, hw3, hb3⟩; obtain ⟨b0, b1, b2⟩ := HBX.out.after hb3; obtain ⟨c33, c43, c53, _⟩ := three_of hcb c3 c4 c5 hw3; have c13 := (hw3.cell (p := ⟨X.cb, 1, none⟩) hcb).trans c1; have HW3 := Hid.of hw3; have HBX3 := Hid.of (HBX.out.keep hb3); clear hw3 hb3 e3 e4 e5)
      go_region_with (go_at_call 170; refine (kA.out _ HW3.out.drew).mono ?_; rintro e w4 ⟨rfl, hK4, hT4⟩)
      all_goals
        go_wp2
        go_ret
        exact ⟨rfl, hK4, hT4⟩
    · rename_i hHeld
      replace hHeld := hHeld.2.2.2
      refine wp_any (S := fun W => Below w.heap.size w W ∧ ItemAt W w.heap.size K V fl) ⟨hHeld, item_put (blk2 hb2 z1 (blk1d hb1))⟩ ?_
      clear hHeld hb2 hb1 q1 q1f q2 q2f hbw
      rintro W ⟨hW, hBx⟩
      obtain ⟨e3, e4, e5, _⟩ := three_of hcb c3 c4 c5 hW
      have HBX := Hid.of hBx
      clear hBx
      go_wp2_with (go_at_call 168; refine (kL.out _ hW).mono ?_; rintro e w3 ⟨rfl, hw3, hb3⟩; obtain ⟨b0, b1, b2⟩ := HBX.out.after hb3; obtain ⟨c33, c43, c53, _⟩ := three_of hcb c3 c4 c5 hw3; have c13 := (hw3.cell (p := ⟨X.cb, 1, none⟩) hcb).trans c1; have HW3 := Hid.of hw3; have HBX3 := Hid.of (HBX.out.keep hb3); clear hw3 hb3 e3 e4 e5)
      go_region_with (go_at_call 170; refine (kA.out _ HW3.out.drew).mono ?_; rintro e w4 ⟨rfl, hK4, hT4⟩)
      all_goals
        go_wp2
        go_ret
        exact ⟨rfl, hK4, hT4⟩
  · obtain ⟨hn4, d5⟩ := d3 h0
    obtain ⟨mk, hmk⟩ : ∃ mk, mk = M.num (M.word ws 5) := ⟨_, rfl⟩
    rw [← hmk] at d5 kS
    have kM : Hid (∀ W, Below w.heap.size w W → Calls Tryz.prog 172 #[.agg #[str (M.word ws 0), .slice (some ⟨g1, 0, none⟩) 1 k1, .slice (some ⟨g2, 0, none⟩) n2 k2]] W fun e w' => e = .returned (int mk) ∧ Bw w W w') := fun W hW =>
      (mark_c _ _ W g2 n2 k2 _ ((hW.cell (p := ⟨g2, 3, none⟩) hg2).trans d5) (Nat.lt_of_lt_of_le hg2 hW.size) (by omega) ⟨_, rfl⟩ ⟨_, _, _, rfl⟩).mono fun e w' ⟨he, hb⟩ => ⟨he, bw_of hW hb⟩
    unfold str at kM
    unfold int at kM
    have kA : Hid (∀ W, Below w.heap.size w W → Calls Tryz.prog 171 #[.pointer (some ⟨X.sb t, 0, none⟩), .agg #[.string K, .string V, .int .i64 fl], .int .i64 lf, .int .i64 mk] W fun e w' => e = .returned (.string ⟨r.1.toArray⟩) ∧ KAt X w' (n + 1) (M.setAt y t r.2) c rv ∧ TurnK X w w') := fun W hW => (kS.out W hW).2.2.1 h0
    rw [h0] at c3 kK kF kL kM
    clear kS h0 d3 hmk d5
    go_enter Tryz.func122, Tryz.ntmps122
    go_wp2_with fail
    have hbw : Below w.heap.size w w := Below.refl _ _
    go_region_held3 (fun w' => w'.cell? ⟨X.cb, 3, none⟩ = some (.string ⟨#[99, 97, 115]⟩) ∧ w'.cell? ⟨X.cb, 4, none⟩ = some (.slice (some ⟨g1, 0, none⟩) 1 k1) ∧ w'.cell? ⟨X.cb, 5, none⟩ = some (.slice (some ⟨g2, 0, none⟩) n2 k2) ∧ Below w.heap.size w w')
      ((refine three_of hcb c3 c4 c5 ?_; repeat (first | with_reducible assumption | with_reducible refine Below.drew ?_ | with_reducible refine below_al ?_ _ | with_reducible refine Below.setCell ?_ (by first | exact Nat.le_refl _ | assumption | omega | (simp; done) | (simp; omega)) _)))
      (first
      | (go_at_call 166; refine (kK.out _ (by repeat (first | with_reducible assumption | with_reducible refine Below.drew ?_ | with_reducible refine below_al ?_ _ | with_reducible refine Below.setCell ?_ (by first | exact Nat.le_refl _ | assumption | omega | (simp; done) | (simp; omega)) _))).mono ?_; rintro e w1 ⟨rfl, hw1, hb1⟩; have s1 := hw1.size; have q1 := fun b j (hb : b < _) => hb1.cell (p := ⟨b, j, none⟩) hb; have q1f := fun b j (hb : b < _) => hb1.frozen (p := ⟨b, j, none⟩) hb; try (have z1 : w.heap.size < w1.heap.size := by (have := hb1.size; simp at this; omega)))
      | (go_at_call 167; refine (kF.out _ (by repeat (first | with_reducible assumption | with_reducible refine Below.drew ?_ | with_reducible refine below_al ?_ _ | with_reducible refine Below.setCell ?_ (by first | exact Nat.le_refl _ | assumption | omega | (simp; done) | (simp; omega)) _))).mono ?_; rintro e w2 ⟨rfl, hw2, hb2⟩; have s2 := hw2.size; have q2 := fun b j (hb : b < _) => hb2.cell (p := ⟨b, j, none⟩) hb; have q2f := fun b j (hb : b < _) => hb2.frozen (p := ⟨b, j, none⟩) hb))
    · rename_i hHeld
      replace hHeld := hHeld.2.2.2
      refine wp_any (S := fun W => Below w.heap.size w W ∧ ItemAt W w2.heap.size K V fl) ⟨hHeld, item_new⟩ ?_
      clear hHeld hb2 hb1 q1 q1f q2 q2f hbw
      rintro W ⟨hW, hBx⟩
      obtain ⟨e3, e4, e5, _⟩ := three_of hcb c3 c4 c5 hW
      have HBX := Hid.of hBx
      clear hBx
      go_wp2_with (go_at_call 168; refine (kL.out _ hW).mono ?_; rintro e w3 ⟨rfl, hw3, hb3⟩; obtain ⟨b0, b1, b2⟩ := HBX.out.after hb3; obtain ⟨c33, c43, c53, _⟩ := three_of hcb c3 c4 c5 hw3; have c13 := (hw3.cell (p := ⟨X.cb, 1, none⟩) hcb).trans c1; have HW3 := Hid.of hw3; have HBX3 := Hid.of (HBX.out.keep hb3); clear hw3 hb3 e3 e4 e5)
      go_region_with (first
        | (go_at_call 172; refine (kM.out _ (by first | exact HW3.out.drew | exact HW3.out)).mono ?_; rintro e w5 ⟨rfl, hw5, hb5⟩; obtain ⟨b05, b15, b25⟩ := (HBX3.out.drew).after hb5; obtain ⟨c35, c45, c55, _⟩ := three_of hcb c3 c4 c5 hw5; have c15 := (hw5.cell (p := ⟨X.cb, 1, none⟩) hcb).trans c1; have HW5 := Hid.of hw5; clear hw5 hb5)
        | (go_at_call 171; refine (kA.out _ HW5.out).mono ?_; rintro e w4 ⟨rfl, hK4, hT4⟩))
      all_goals
        go_wp2
        go_ret
        exact ⟨rfl, hK4, hT4⟩
    · rename_i hHeld
      replace hHeld := hHeld.2.2.2
      refine wp_any (S := fun W => Below w.heap.size w W ∧ ItemAt W w1.heap.size K V fl) ⟨hHeld, item_put (blk1 hb2)⟩ ?_
      clear hHeld hb2 hb1 q1 q1f q2 q2f hbw
      rintro W ⟨hW, hBx⟩
      obtain ⟨e3, e4, e5, _⟩ := three_of hcb c3 c4 c5 hW
      have HBX := Hid.of hBx
      clear hBx
      go_wp2_with (go_at_call 168; refine (kL.out _ hW).mono ?_; rintro e w3 ⟨rfl, hw3, hb3⟩; obtain ⟨b0, b1, b2⟩ := HBX.out.after hb3; obtain ⟨c33, c43, c53, _⟩ := three_of hcb c3 c4 c5 hw3; have c13 := (hw3.cell (p := ⟨X.cb, 1, none⟩) hcb).trans c1; have HW3 := Hid.of hw3; have HBX3 := Hid.of (HBX.out.keep hb3); clear hw3 hb3 e3 e4 e5)
      go_region_with (first
        | (go_at_call 172; refine (kM.out _ (by first | exact HW3.out.drew | exact HW3.out)).mono ?_; rintro e w5 ⟨rfl, hw5, hb5⟩; obtain ⟨b05, b15, b25⟩ := (HBX3.out.drew).after hb5; obtain ⟨c35, c45, c55, _⟩ := three_of hcb c3 c4 c5 hw5; have c15 := (hw5.cell (p := ⟨X.cb, 1, none⟩) hcb).trans c1; have HW5 := Hid.of hw5; clear hw5 hb5)
        | (go_at_call 171; refine (kA.out _ HW5.out).mono ?_; rintro e w4 ⟨rfl, hK4, hT4⟩))
      all_goals
        go_wp2
        go_ret
        exact ⟨rfl, hK4, hT4⟩
    · rename_i hHeld
      replace hHeld := hHeld.2.2.2
      refine wp_any (S := fun W => Below w.heap.size w W ∧ ItemAt W w.heap.size K V fl) ⟨hHeld, item_put (blk2 hb2 z1 (blk1d hb1))⟩ ?_
      clear hHeld hb2 hb1 q1 q1f q2 q2f hbw
      rintro W ⟨hW, hBx⟩
      obtain ⟨e3, e4, e5, _⟩ := three_of hcb c3 c4 c5 hW
      have HBX := Hid.of hBx
      clear hBx
      go_wp2_with (go_at_call 168; refine (kL.out _ hW).mono ?_; rintro e w3 ⟨rfl, hw3, hb3⟩; obtain ⟨b0, b1, b2⟩ := HBX.out.after hb3; obtain ⟨c33, c43, c53, _⟩ := three_of hcb c3 c4 c5 hw3; have c13 := (hw3.cell (p := ⟨X.cb, 1, none⟩) hcb).trans c1; have HW3 := Hid.of hw3; have HBX3 := Hid.of (HBX.out.keep hb3); clear hw3 hb3 e3 e4 e5)
      go_region_with (first
        | (go_at_call 172; refine (kM.out _ (by first | exact HW3.out.drew | exact HW3.out)).mono ?_; rintro e w5 ⟨rfl, hw5, hb5⟩; obtain ⟨b05, b15, b25⟩ := (HBX3.out.drew).after hb5; obtain ⟨c35, c45, c55, _⟩ := three_of hcb c3 c4 c5 hw5; have c15 := (hw5.cell (p := ⟨X.cb, 1, none⟩) hcb).trans c1; have HW5 := Hid.of hw5; clear hw5 hb5)
        | (go_at_call 171; refine (kA.out _ HW5.out).mono ?_; rintro e w4 ⟨rfl, hK4, hT4⟩))
      all_goals
        go_wp2
        go_ret
        exact ⟨rfl, hK4, hT4⟩
end Go.Proofs.YtdpnpcjbjjjceaaGreatDoor.S
