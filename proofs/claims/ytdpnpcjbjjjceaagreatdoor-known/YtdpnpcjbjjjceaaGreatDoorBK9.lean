import Derived.Test.YtdpnpcjbjjjceaaGreatDoorBK7
import Derived.Test.YtdpnpcjbjjjceaaGreatDoorBKnown
set_option linter.unusedSimpArgs false
set_option linter.unusedVariables false
namespace Go.Proofs.YtdpnpcjbjjjceaaGreatDoor.K
open Go.RowKit Go.Proofs.YtdpnpcjbjjjceaaGreatDoor

def knL : List ByteArray := [⟨#[103, 101, 116, 32, 97, 32, 98]⟩, ⟨#[103, 101, 116]⟩, ⟨#[]⟩, ⟨#[32, 113, 117, 105, 116]⟩, ⟨#[115, 101, 116, 32, 107, 32, 48, 32, 48, 32, 49, 48, 49]⟩, ⟨#[115, 101, 116, 32, 107, 32, 48, 32, 48, 32, 48, 55]⟩, ⟨#[113, 117, 105, 116, 32, 110, 111, 119]⟩, ⟨#[97, 117, 116, 104, 32, 97, 32, 98]⟩, ⟨#[115, 116, 97, 116, 115]⟩, ⟨#[115, 101, 116, 32, 107, 32, 54, 53, 53, 51, 53, 32, 49, 48, 48, 48, 48, 48, 48, 32, 49, 48, 48]⟩, ⟨#[115, 101, 116, 32, 107, 32, 54, 53, 53, 51, 54, 32, 48, 32, 49]⟩]
def knW : List ByteArray := [⟨#[103, 101, 116]⟩, ⟨#[98, 97, 100]⟩, ⟨#[98, 97, 100]⟩, ⟨#[98, 97, 100]⟩, ⟨#[98, 97, 100]⟩, ⟨#[98, 97, 100]⟩, ⟨#[98, 97, 100]⟩, ⟨#[97, 117, 116, 104]⟩, ⟨#[115, 116, 97, 116, 115]⟩, ⟨#[115, 101, 116]⟩, ⟨#[98, 97, 100]⟩]
theorem kn_all : knL.map (fun s => (⟨(P.rLine s.data.toList).toArray⟩ : ByteArray)) = knW := by kernel_rfl
theorem kn_at (k : Nat) (x y : ByteArray) (hx : knL[k]? = some x) (hy : knW[k]? = some y) : (⟨(P.rLine x.data.toList).toArray⟩ : ByteArray) = y := by
  rw [← kn_all, List.getElem?_map, hx] at hy
  exact Option.some.inj hy
theorem kn_size (k : Nat) (x : ByteArray) (hx : knL[k]? = some x) : x.size ≤ 1048576 := by
  have : ∀ s ∈ knL, s.size ≤ 1048576 := by decide
  exact this x (List.mem_of_getElem? hx)

def knIn : ByteArray := ⟨#[103, 101, 116, 32, 97, 10, 97, 117, 116, 104, 32, 97, 110, 110, 32, 121, 10, 97, 117, 116, 104, 32, 97, 110, 110, 32, 120, 10, 115, 101, 116, 32, 97, 32, 55, 32, 48, 32, 51, 10, 97, 98, 99, 10, 103, 101, 116, 32, 97, 32, 98, 10, 97, 100, 100, 32, 97, 32, 48, 32, 48, 32, 49, 10, 120, 10, 105, 110, 99, 114, 32, 97, 32, 49, 10]⟩ ++ ⟨#[115, 101, 116, 32, 98, 32, 48, 32, 48, 32, 51, 10, 97, 98, 99, 10, 115, 101, 116, 32, 99, 32, 48, 32, 48, 32, 51, 10, 97, 98, 99, 10, 115, 101, 116, 32, 100, 32, 48, 32, 48, 32, 51, 10, 97, 98, 99, 10, 115, 101, 116, 32, 101, 32, 48, 32, 48, 32, 51, 10, 97, 98, 99, 10, 103, 101, 116, 32, 97, 10, 115, 101, 116, 32, 102, 32, 48, 32, 48, 32, 51, 10, 97, 98, 99, 10, 115, 116, 97, 116, 115, 10]⟩ ++ ⟨#[115, 101, 116, 32, 110, 32, 48, 32, 53, 32, 50, 10, 48, 57, 10, 105, 110, 99, 114, 32, 110, 32, 49, 10, 115, 101, 116, 32, 107, 32, 48, 32, 48, 32, 50, 10, 97, 98, 99, 10, 103, 101, 116, 32, 98, 10]⟩
def knOut : ByteArray := ⟨#[69, 82, 82, 79, 82, 32, 97, 117, 116, 104, 10, 68, 69, 78, 73, 69, 68, 10, 79, 75, 10, 83, 84, 79, 82, 69, 68, 10, 86, 65, 76, 85, 69, 32, 97, 32, 55, 32, 51, 32, 49, 10, 97, 98, 99, 10, 69, 78, 68, 10, 78, 79, 84, 32, 83, 84, 79, 82, 69, 68, 10, 78, 79, 84, 32, 78, 85, 77, 66, 69, 82, 10]⟩ ++ ⟨#[83, 84, 79, 82, 69, 68, 10, 83, 84, 79, 82, 69, 68, 10, 83, 84, 79, 82, 69, 68, 10, 83, 84, 79, 82, 69, 68, 10, 86, 65, 76, 85, 69, 32, 97, 32, 55, 32, 51, 32, 49, 10, 97, 98, 99, 10, 69, 78, 68, 10, 83, 84, 79, 82, 69, 68, 10, 103, 101, 116, 115, 32, 51, 10, 104, 105, 116, 115, 32, 50, 10, 115, 116, 111, 114, 101, 115, 32, 54, 10, 101, 118, 105, 99, 116, 101, 100, 32, 49, 10, 101, 120, 112, 105, 114, 101, 100, 32, 48, 10, 105, 116, 101, 109, 115, 32, 53, 10, 98, 121, 116, 101, 115, 32, 49, 48, 48, 10, 69, 78, 68, 10]⟩ ++ ⟨#[83, 84, 79, 82, 69, 68, 10, 49, 48, 10, 69, 82, 82, 79, 82, 32, 100, 97, 116, 97, 10, 69, 78, 68, 10]⟩
def knT : List Ten := [⟨annS, ⟨#[120]⟩, 100⟩]
theorem knT_ok : tensOk knT := by
  refine ⟨by decide, by decide, ?_, ?_⟩
  · intro t ht
    simp only [knT, List.mem_cons, List.mem_nil_iff, or_false] at ht
    subst ht
    rfl
  · simp [knT]
theorem knIn_list : knIn.data.toList = M.knownIn := by
  unfold knIn M.knownIn
  rw [ByteArray.data_append, Array.toList_append, ByteArray.data_append, Array.toList_append]
theorem knOut_list : knOut.data.toList = M.knownOut := by
  unfold knOut M.knownOut
  rw [ByteArray.data_append, Array.toList_append, ByteArray.data_append, Array.toList_append]
theorem kn_len : M.knownOut.length ≤ 1099511627776 := of_decide_eq_true (by kernel_rfl)
theorem kn_out : (⟨((M.feed (M.opened [([97, 110, 110], [120], 100)] 1).sys M.fresh knIn.data.toList).2.out.take 1099511627776).toArray⟩ : ByteArray) = knOut := by
  rw [knIn_list, M.known_run, List.take_of_length_le kn_len, ← knOut_list]
section
variable {Srv : World → Addr → (Nat → Prop) → M.Server → Nat → Prop} {Glob : World → Prop}
set_option maxRecDepth 20000 in
set_option maxHeartbeats 1000000 in
theorem known_c (I : Iface Srv Glob) (c : Int) (w : World) (hlo : -9223372036854775808 ≤ c) (hhi : c ≤ 9223372036854775807) (hg : Glob w) :
    Calls Tryz.prog 6 #[.int .i64 c] w fun e w' => e = .returned (.bool true) ∧ Below w.heap.size w w' := by
  have hP := fun W => pick_c c 2 W hlo hhi (by decide) (by decide)
  have h2 := pk_lt c 2 (by decide)
  generalize pk c 2 = p at hP h2
  have HG : Hid (Glob w) := hg
  clear hlo hhi hg
  by_cases h0 : p = 0
  · subst h0
    go_enter Tryz.func6, Tryz.ntmps6
    go_wp2_with (first
      | (go_at_call 16; refine (hP _).mono ?_; rintro e w1 ⟨rfl, rfl⟩)
      | fail)
    go_loopw [5] (fun i wr => ∃ k : Nat, k ≤ 11 ∧ i = .int .i64 k ∧ wr.heap[w1.heap.size]? = some (.cells (knL.map Value.string).toArray 9 (0, 0)) ∧ wr.heap[w1.heap.size + 1]? = some (.cells (knW.map Value.string).toArray 9 (0, 0)) ∧ Below w1.heap.size w1 wr) (fun i _ => 11 - (intOf i).toNat)
    case atStart => exact ⟨0, by omega, rfl, (Below.heap_alloc _ _ _ (by simp)).trans (alloc_at _ _ _ rfl), alloc_at _ _ _ (by simp), ((Below.refl _ _).alloc (Nat.le_refl _) _).alloc (by simp) _⟩
    case round =>
      obtain ⟨k, hk, rfl, hl, hw, hb⟩ := hrel
      have hszl : w1.heap.size + 1 < wr.heap.size := (Array.getElem?_eq_some_iff.1 hw).1
      by_cases hlt : k < 11
      · have klt : (k : Int) < 11 := by omega
        obtain ⟨x, hx⟩ : ∃ x, knL[k]? = some x := ⟨_, List.getElem?_eq_getElem (show k < knL.length from hlt)⟩
        obtain ⟨y, hy⟩ : ∃ y, knW[k]? = some y := ⟨_, List.getElem?_eq_getElem (show k < knW.length from hlt)⟩
        have cx : wr.cell? ⟨w1.heap.size, k, none⟩ = some (.string x) := heap_cell hl k (by simp [hx])
        have hLn := I.line wr x (I.glob HG.out hb) (kn_size k x hx)
        rw [kn_at k x y hx hy] at hLn
        have hLn' : Calls Tryz.prog 17 #[.string x] wr fun e w' => e = .returned (.string y) ∧ (w'.cell? ⟨w1.heap.size + 1, k, none⟩ = some (.string y) ∧ w'.heap[w1.heap.size]? = some (.cells (knL.map Value.string).toArray 9 (0, 0)) ∧ w'.heap[w1.heap.size + 1]? = some (.cells (knW.map Value.string).toArray 9 (0, 0)) ∧ Below w1.heap.size w1 w') :=
          hLn.mono fun e w' ⟨he, h⟩ => ⟨he, heap_cell ((h.block _ hszl).trans hw) k (by simp [hy]), (h.block _ (by omega)).trans hl, (h.block _ hszl).trans hw, hb.trans (h.mono hb.size)⟩
        clear hLn hl hw hb hx hy
        go_wp2_with (go_at_call 17; refine hLn'.mono ?_; rintro e w2 ⟨rfl, cy, hl2, hw2, hb2⟩)
        go_roundw
        case rel => exact ⟨k + 1, by omega, by go_num, hl2, hw2, hb2⟩
        case measure => simp [intOf] <;> omega
      · obtain rfl : k = 11 := by omega
        go_wp2
        go_ret
        exact ⟨rfl, hb⟩
  · obtain rfl : p = 1 := by omega
    have hO := make_c I w knT 1 HG.out knT_ok (by decide) (by decide)
    have hO' : Calls Tryz.prog 18 #[.slice (some ⟨w.heap.size, 0, none⟩) 1 1, .int .i64 1] (w.alloc (.cells #[.string annS, .string ⟨#[120]⟩, .int .i64 100] 32)) fun e w' => ∃ a, e = .returned (.tuple #[.pointer (some a), .int .i64 0]) ∧ UpE Srv w a (M.opened [([97, 110, 110], [120], 100)] 1) 0 w' := hO
    clear hO
    go_enter Tryz.func6, Tryz.ntmps6
    go_wp2_with (first
      | (go_at_call 16; refine (hP _).mono ?_; rintro e w1 ⟨rfl, rfl⟩; have hO := hO')
      | (go_at_call 18; refine hO.mono ?_; rintro e w2 ⟨a, rfl, hU⟩; have hD := hU.dial I HG.out 0 rfl; clear hO' hU)
      | (go_at_call 19; refine hD.mono ?_; rintro e w3 ⟨rfl, hU⟩; have hF := hU.feed I HG.out 0 M.fresh knIn rfl (by decide); clear hD hU)
      | (go_at_call 20; refine hF.mono ?_; rintro e w4 ⟨rfl, hU⟩; have hT := hU.take I HG.out 0 (M.feed (M.opened [([97, 110, 110], [120], 100)] 1).sys M.fresh knIn.data.toList).2 1099511627776 rfl (by decide); clear hF hU; rw [kn_out] at hT)
      | (go_at_call 21; refine hT.mono ?_; rintro e w5 ⟨rfl, hU5⟩; clear hT)
      | fail)
    have hb := hU5.below
    clear hU5
    go_ret
    refine ⟨?_, hb⟩
    show Ending.returned (Value.bool (knOut.toList == knOut.toList)) = _
    rw [beq_self_eq_true]
end
end Go.Proofs.YtdpnpcjbjjjceaaGreatDoor.K
