import Derived.Test.YtdpnpcjbjjjceaaGreatDoorBZ1
import Derived.Test.YtdpnpcjbjjjceaaGreatDoorBX23
set_option linter.unusedSimpArgs false
set_option linter.unusedVariables false
namespace Go.Proofs.YtdpnpcjbjjjceaaGreatDoor.S
open Go.RowKit Go.Maps Go.MuLone Go.Proofs.YtdpnpcjbjjjceaaGreatDoor

theorem inn_le {l : List (Option M.Conn)} {i : Nat} {x : M.Conn} (h : l[i]? = some (some x)) : x.inn.length ≤ innSum l := by
  have := inn_set l i x { x with inn := [] } h
  simp only [List.length_nil] at this
  omega
theorem srv_feed {w : World} {a : Addr} {F : Nat → Prop} {m : M.Server} {b : Nat} (c : Nat) (x : M.Conn) (s : ByteArray) (h : Srv w a F m b) (hG : Glob w) (hx : m.conns[c]? = some (some x)) (hb : b + s.size ≤ K.lim) :
    Calls Tryz.prog 20 #[.pointer (some a), .int .i64 c, .string s] w fun e w' => e = .returned (.int .i64 0) ∧ ∃ F', Srv w' a F' (M.fed m c x s.data.toList) (b + s.size) ∧ K.Touch F w F' w' := by
  obtain ⟨l, n, rfl, hF, hS⟩ := h
  have hk := hS.kat hx
  have hlive := (hS.live c x hx).1
  have hnum := hS.num
  have hinn := inn_le hx
  have hphi := hS.phi c x hx
  have hsl : s.data.toList.length = s.size := Array.length_toList
  unfold K.lim at hb
  refine feedS (hS.leads hx) s _ (fun w1 hb1 => ?_)
  have hs : s = ⟨s.data.toList.toArray⟩ := by simp
  have hc := feed_c (hk.below hb1) (hG.below hb1) s.data.toList hS.yfit (hS.wfit c x hx) (by omega) (by omega)
  rw [← hs] at hc
  refine hc.mono ?_
  rintro e w' ⟨rfl, n', h1, h2, h3⟩
  have hT := (TurnK.below (X := l.cx w.heap.size c) hb1).trans h3
  obtain ⟨f1, f2, f3⟩ := M.feed_fit m.sys x s.data.toList hS.yfit (hS.wfit c x hx)
  have hset := inn_set m.conns c x (M.feed m.sys x s.data.toList).2 hx
  refine ⟨rfl, _, ⟨l.after w.heap.size w'.heap.size c, n', rfl, fun k => Iff.rfl, ?_⟩, touch_of hS hlive hT hF⟩
  exact hS.go hx h2 hT f1 f2 (by omega) (by omega) (by omega)
theorem srv_take {w : World} {a : Addr} {F : Nat → Prop} {m : M.Server} {b : Nat} (c : Nat) (x : M.Conn) (k : Nat) (h : Srv w a F m b) (hx : m.conns[c]? = some (some x)) (hk : k ≤ 1099511627776) :
    Calls Tryz.prog 21 #[.pointer (some a), .int .i64 c, .int .i64 k] w fun e w' => e = .returned (.tuple #[.string ⟨(x.out.take k).toArray⟩, .int .i64 0]) ∧ ∃ F', Srv w' a F' (M.taken m c x k) b ∧ K.Touch F w F' w' := by
  obtain ⟨l, n, rfl, hF, hS⟩ := h
  have hkat := hS.kat hx
  have hlive := (hS.live c x hx).1
  refine takeS (hS.leads hx) k _ _ (fun w1 hb1 => ?_)
  refine (take_c (hkat.below hb1) k hk).mono ?_
  rintro e w' ⟨rfl, h2, h3⟩
  have hT := (TurnK.below (X := l.cx w.heap.size c) hb1).trans h3
  have hset := inn_set m.conns c x { x with out := x.out.drop k } hx
  have hn := hS.num
  have hp := hS.phi c x hx
  refine ⟨rfl, _, ⟨l.after w.heap.size w'.heap.size c, n, rfl, fun k => Iff.rfl, ?_⟩, touch_of hS hlive hT hF⟩
  refine hS.go hx h2 hT hS.yfit (fun ws hw => hS.wfit c x hx ws hw) ?_ (Nat.le_refl _) ?_
  · have : M.phi { x with out := x.out.drop k } ≤ M.phi x := by
      unfold M.phi
      simp only [List.length_drop]
      omega
    exact Nat.le_trans this hp
  · simp only at hset
    show n + innSum (m.conns.set c (some { x with out := x.out.drop k })) ≤ b
    omega
theorem srv_frame {w w' : World} {a : Addr} {F : Nat → Prop} {m : M.Server} {b : Nat} (h : Srv w a F m b) (hs : w.heap.size ≤ w'.heap.size) (hf : ∀ k, F k → w'.heap[k]? = w.heap[k]?) : Srv w' a F m b := by
  obtain ⟨l, n, rfl, hF, hS⟩ := h
  exact ⟨l, n, rfl, hF, hS.move hs (fun k hk => hf k ((hF k).2 hk))⟩
theorem srv_inn {w : World} {a : Addr} {F : Nat → Prop} {m : M.Server} {b : Nat} (h : Srv w a F m b) : ∀ k, F k → k < w.heap.size := by
  obtain ⟨l, n, rfl, hF, hS⟩ := h
  exact fun k hk => hS.inn k ((hF k).1 hk)
theorem srv_outs {w : World} {a : Addr} {F : Nat → Prop} {m : M.Server} {b : Nat} (h : Srv w a F m b) : ∀ (c : Nat) (x : M.Conn), m.conns[c]? = some (some x) → x.out.length ≤ 200 * b + 20 := by
  obtain ⟨l, n, rfl, hF, hS⟩ := h
  intro c x hx
  have := hS.phi c x hx
  unfold M.phi at this
  omega
end Go.Proofs.YtdpnpcjbjjjceaaGreatDoor.S
