import Derived.Test.YtpdmafpgdiefpaaPBase
import Derived.Maps.OwnSet
namespace Go.Proofs.Ytpdmafpgdiefpaa
open Go.RowKit Go.Builtin
open Go.Maps (Keyed)

/-- how a tenant in the program's map reads: that it is there -/
def tenElem (v : Value) : Option (DataW Unit × List MemPlace) :=
  match v with
  | .agg a => match a.toList with
    | [.string _, .string _, .int .i64 _] => some (.lit (.bool true), [])
    | _ => none
  | _ => none
theorem tenElem_mk (s t : ByteArray) (q : Int) : tenElem (.agg #[.string s, .string t, .int .i64 q]) = some (.lit (.bool true), []) := rfl
theorem tenElem_inv {v : Value} {z : DataW Unit × List MemPlace} (h : tenElem v = some z) : ∃ s t q, v = .agg #[.string s, .string t, .int .i64 q] := by
  unfold tenElem at h
  split at h
  · rename_i a
    split at h
    · rename_i s t q he
      refine ⟨s, t, q, ?_⟩
      congr 1
      apply Array.ext'
      rw [he]
    · cases h
  · cases h

theorem keyedStr : Keyed Try.prog 9 := Maps.string_keyed Try.underlying9
theorem zeroTen (w : World) : (zeroValue 40).run Try.prog w = .ok (.agg #[.string ByteArray.empty, .string ByteArray.empty, .int .i64 0]) w := by kernel_rfl

def tnLit (x : Ten) : Lit := .string x.n.data.toList
def mapD (ts : List Ten) (i : Nat) : DataW Unit := Maps.setOf (.lit (.bool true)) ((ts.take i).map tnLit)

theorem tolist_data (a : ByteArray) : a.toList = a.data.toList := by
  exact ByteArray.toList_eq a

theorem mapD_has (ts : List Ten) (i : Nat) (x : Ten) : Maps.has (mapD ts i) (tnLit x) = !newName ts i x := by
  unfold mapD
  rw [Maps.has_setOf _ _ _ (by intro y hy; obtain ⟨z, _, rfl⟩ := List.mem_map.1 hy; exact trivial)]
  unfold newName
  induction ts.take i with
  | nil => rfl
  | cons y r ih =>
    rw [List.map_cons, List.any_cons, ih, List.all_cons]
    have e : (tnLit y).sameKey (tnLit x) = (y.n.toList == x.n.toList) := by
      rw [tolist_data, tolist_data]; rfl
    rw [e]
    cases (y.n.toList == x.n.toList) <;> simp
theorem mapD_step (ts : List Ten) (i : Nat) (x : Ten) (h : ts[i]? = some x) : (mapD ts i).put (tnLit x) (.lit (.bool true)) = mapD ts (i + 1) := by
  unfold mapD
  rw [List.take_add_one, h, ← Maps.setOf_snoc]; simp

theorem run_makeMapN {P : Program} {t k e : TypeId} (ht : P.underlying t = some (.map k e)) (w : World) (n : Int) : (Instr.makeMap t (some (.int .i64 n))).run P w = .ok (.map (some w.heap.size)) (w.alloc (.map #[] 0)) := by
  simp [Instr.makeMap, run_underlying ht]
  rfl

theorem lookup_ten {P : Program} (w : World) {ops : Array Oper} {rest : List Oper} {o : Oper} {a : Act} {Q : Exit → Act → World → Prop}
    (hg : o.guard = none) (m x : Operand) (t : TypeId) (hop : o.op = Op.lookup t m x true)
    (k e : TypeId) (K : Keyed P k) (ht : P.underlying t = some (.map k e)) (hz : (zeroValue e).run P w = .ok (.agg #[.string ByteArray.empty, .string ByteArray.empty, .int .i64 0]) w) (b n : Nat) (D : DataW Unit)
    (hm : a.eval m = .map (some b)) (hown : w.ownsMap P k tenElem b n D) (key : Value) (kl : Lit) (hx : a.eval x = key) (hkey : keyOf P k key = some kl) (bv : Bool) (hbv : Maps.has D kl = bv)
    (hK : ∀ s t q, wpList P ops Q rest (a.put o.dst (.tuple #[.agg #[.string s, .string t, .int .i64 q], .bool bv])) w) :
    wpList P ops Q (o :: rest) a w :=
  wpList_lookup_own_ok w hg m x t hop k e K ht tenElem hz (.lit (.bool true)) [] rfl b n D hm hown key kl hx hkey (fun v ps hv => by
    obtain ⟨s, t, q, rfl⟩ := tenElem_inv hv
    rw [hbv]
    exact hK s t q)
end Go.Proofs.Ytpdmafpgdiefpaa
