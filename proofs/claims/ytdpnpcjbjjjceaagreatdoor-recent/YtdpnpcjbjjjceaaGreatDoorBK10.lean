import Derived.Laws.OwnMore
import Derived.Test.YtdpnpcjbjjjceaaGreatDoorBK9
set_option linter.unusedSimpArgs false
set_option linter.unusedVariables false
namespace Go.Proofs.YtdpnpcjbjjjceaaGreatDoor.K
open Go.RowKit Go.Proofs.YtdpnpcjbjjjceaaGreatDoor

/-- a slice of bytes in memory, in a block from base on -/
def BytesAt (base : Nat) (w : World) (v : Value) (l : List UInt8) : Prop :=
  ∃ (ra : Option Addr) (cap : Nat), v = .slice ra l.length cap ∧ l.length ≤ cap ∧ ((l = [] ∧ ra = none) ∨ ∃ b, ra = some ⟨b, 0, none⟩ ∧ base ≤ b ∧ b < w.heap.size ∧ ∀ (j : Nat) (q : UInt8), l[j]? = some q → w.cell? ⟨b, j, none⟩ = some (.int .u8 (q.toNat : Int)))
def atB (l : List UInt8) (k : UInt8) : Int :=
  match l.findIdx? (fun b => decide (b = k)) with
  | some i => i
  | none => -1
theorem atB_none {l : List UInt8} {k : UInt8} (h : ∀ (j : Nat) (q : UInt8), l[j]? = some q → q ≠ k) : atB l k = -1 := by
  unfold atB
  have : l.findIdx? (fun b => decide (b = k)) = none := by
    rw [List.findIdx?_eq_none_iff]
    intro x hx
    obtain ⟨j, hj⟩ := List.getElem?_of_mem hx
    simpa using h j x hj
  rw [this]
theorem atB_some {l : List UInt8} {k : UInt8} {i : Nat} (h : l[i]? = some k) (hb : ∀ (j : Nat) (q : UInt8), j < i → l[j]? = some q → q ≠ k) : atB l k = i := by
  unfold atB
  have hi := (List.getElem?_eq_some_iff.1 h)
  have : l.findIdx? (fun b => decide (b = k)) = some i := by
    rw [List.findIdx?_eq_some_iff_getElem]
    refine ⟨hi.1, by simpa using hi.2, fun j hj => ?_⟩
    have hjl : j < l.length := Nat.lt_trans hj hi.1
    have := hb j (l[j]'hjl) hj (List.getElem?_eq_getElem hjl)
    simpa using this
  rw [this]
theorem u8_eq (a b : UInt8) : ((a.toNat : Int) == (b.toNat : Int)) = decide (a = b) := by
  by_cases h : a = b
  · subst h; simp
  · have : a.toNat ≠ b.toNat := fun e => h (UInt8.toNat_inj.1 e)
    rw [decide_eq_false h, beq_eq_false_iff_ne]
    omega

set_option maxRecDepth 20000 in
theorem at_c (base : Nat) (w : World) (v : Value) (l : List UInt8) (k : UInt8) (h : BytesAt base w v l) (hl : l.length ≤ 100) :
    Calls Tryz.prog 33 #[v, .int .u8 (k.toNat : Int)] w fun e w' => e = .returned (.int .i64 (atB l k)) ∧ w' = w := by
  obtain ⟨ra, cap, rfl, _, h⟩ := h
  have H : Hid ((l = [] ∧ ra = none) ∨ ∃ b, ra = some ⟨b, 0, none⟩ ∧ base ≤ b ∧ b < w.heap.size ∧ ∀ (j : Nat) (q : UInt8), l[j]? = some q → w.cell? ⟨b, j, none⟩ = some (.int .u8 (q.toNat : Int))) := h
  clear h
  go_enter Tryz.func33, Tryz.ntmps33
  go_wp2_with fail
  go_loopw [5] (fun i wr => ∃ j : Nat, j ≤ l.length ∧ i = .int .i64 j ∧ wr = w ∧ ∀ t q, t < j → l[t]? = some q → q ≠ k) (fun i _ => l.length - (intOf i).toNat)
  case atStart => exact ⟨0, by omega, rfl, rfl, fun _ _ h => absurd h (Nat.not_lt_zero _)⟩
  case round =>
    obtain ⟨j, hj, rfl, rfl, hb⟩ := hrel
    have HB : Hid (∀ t q, t < j → l[t]? = some q → q ≠ k) := hb
    clear hb
    by_cases hlt : j < l.length
    · have klt : (j : Int) < l.length := by omega
      obtain ⟨q, hq⟩ : ∃ q, l[j]? = some q := ⟨_, List.getElem?_eq_getElem hlt⟩
      obtain ⟨b, rfl, _, hbl, hc⟩ := H.out.resolve_left (fun h => by rw [h.1] at hq; simp at hq)
      have cq := hc j q hq
      by_cases hqk : q = k
      · have keq : ((q.toNat : Int) == (k.toNat : Int)) = true := by rw [u8_eq]; exact decide_eq_true hqk
        have HE : Hid (atB l k = j) := atB_some (by rw [hq, hqk]) HB.out
        clear hc hq
        go_wp2
        go_ret
        exact ⟨by rw [HE.out]; rfl, rfl⟩
      · have keq : ((q.toNat : Int) == (k.toNat : Int)) = false := by rw [u8_eq]; exact decide_eq_false hqk
        have HE : Hid (∀ t r, t < j + 1 → l[t]? = some r → r ≠ k) := by
          show ∀ t r, t < j + 1 → l[t]? = some r → r ≠ k
          intro t r ht hr
          rcases Nat.lt_succ_iff_lt_or_eq.1 ht with h | h
          · exact HB.out t r h hr
          · subst h
            rw [hq] at hr
            cases hr
            exact hqk
        clear hc hq
        go_wp2
        go_roundw
        case rel => exact ⟨j + 1, by omega, by go_num, trivial, HE.out⟩
        case measure => simp [intOf] <;> omega
    · have klt : ¬ (j : Int) < l.length := by omega
      have HE : Hid (atB l k = -1) := atB_none (fun t q hq => HB.out t q (by have := (List.getElem?_eq_some_iff.1 hq).1; omega) hq)
      go_wp2
      go_ret
      exact ⟨by rw [HE.out]; rfl, rfl⟩
end Go.Proofs.YtdpnpcjbjjjceaaGreatDoor.K
