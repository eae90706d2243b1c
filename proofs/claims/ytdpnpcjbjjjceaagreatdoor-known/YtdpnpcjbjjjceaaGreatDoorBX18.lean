import Derived.Test.YtdpnpcjbjjjceaaGreatDoorBX17
import Derived.Test.YtdpnpcjbjjjceaaGreatDoorBX9
set_option linter.unusedSimpArgs false
set_option linter.unusedVariables false
namespace Go.Proofs.YtdpnpcjbjjjceaaGreatDoor.S
open Go.RowKit Go.Maps Go.MuLone Go.Proofs.YtdpnpcjbjjjceaaGreatDoor

/-- what one step comes to -/
def StepPost (X : Cx) (w : World) (n k : Nat) (r : Bool × M.Sys × M.Conn) (rv : Value) (e : Ending) (w' : World) : Prop :=
  e = .returned (.tuple #[.string ⟨r.2.2.inn.toArray⟩, .bool r.1]) ∧ KAt X w' (n + (k - r.2.2.inn.length)) r.2.1 r.2.2 rv ∧ TurnK X w w'
theorem KAt.inn {X : Cx} {w : World} {n : Nat} {y : M.Sys} {c : M.Conn} {rv : Value} (h : KAt X w n y c rv) (b : M.Bytes) : KAt X w n y { c with inn := b } rv := by
  obtain ⟨sv, wt, nv, tv, iv, av, hc⟩ := h.conn
  exact ⟨h.ok, h.sys, sv, wt, nv, tv, iv, av, hc.cb, hc.owner, hc.want, hc.nv, hc.tv, hc.iv⟩
theorem piece_take (T : M.Bytes) (a : Nat) : (ByteArray.mk T.toArray).extract 0 a = ⟨(T.take a).toArray⟩ := by
  apply ByteArray.ext
  simp
theorem piece_drop (T : M.Bytes) (a : Nat) : (ByteArray.mk T.toArray).extract a T.length = ⟨(T.drop a).toArray⟩ := by
  apply ByteArray.ext
  simp
  exact List.take_of_length_le (by rw [List.length_drop]; exact Nat.le_refl _)

set_option maxRecDepth 20000 in
set_option maxHeartbeats 4000000 in
/-- a line has come whole -/
theorem takeLine_some {X : Cx} {w : World} {n : Nat} {y : M.Sys} {c : M.Conn} {rv : Value} (h : KAt X w n y c rv) (hG : Glob w) (hn : n + 10 ≤ 10000000000) (ho : c.out.length ≤ 35184372088832) (hwt : c.want = .line) (T : M.Bytes) (hT : c.inn = T) (hTl : T.length ≤ 4000000000) (i : Nat) (hi : M.nl T = some i) (hi2 : i ≤ 120) :
    Calls Tryz.prog 83 #[.pointer (some ⟨X.cb, 0, none⟩), .string ⟨T.toArray⟩] w (StepPost X w n T.length (M.step y c) rv) := by
  have hlt := M.nl_lt hi
  have hS : M.step y c = (true, M.doLine y { c with inn := T.drop (i + 1) } (M.trim (T.take i))) := by
    unfold M.step
    rw [hwt, hT]
    simp only [hi]
    rw [if_neg (by omega)]
  rw [hS]
  have hind : Lib.indexByte (ByteArray.mk (T.take (min T.length 121)).toArray).data.toList ((10 : Int).toNat.toUInt8) = (i : Int) := by
    show Lib.indexByte (T.take (min T.length 121)) 10 = _
    rw [idx_nl, nl_take, hi]
    simp only
    rw [if_pos (by omega)]
  have hsz : (ByteArray.mk T.toArray).size = T.length := str_size T
  have e1 : (ByteArray.mk T.toArray).extract 0 (min T.length 121) = ⟨(T.take (min T.length 121)).toArray⟩ := piece_take T _
  have e2 : (ByteArray.mk T.toArray).extract 0 i = ⟨(T.take i).toArray⟩ := piece_take T i
  have e3 : (ByteArray.mk T.toArray).extract (i + 1) T.length = ⟨(T.drop (i + 1)).toArray⟩ := piece_drop T (i + 1)
  have CI := Hid.of (fun W => Tryz.strings_IndexByte (ByteArray.mk (T.take (min T.length 121)).toArray) 10 W)
  rw [hind, ← e1, show min T.length 121 = (min (T.length : Int) 121).toNat by omega] at CI
  have CT := Hid.of (fun W => Tryz.strings_TrimSuffix (ByteArray.mk (T.take i).toArray) ⟨#[13]⟩ W (by rw [str_size, List.length_take]; omega))
  have e4 : (Lib.trimSuffix (ByteArray.mk (T.take i).toArray).data.toList (ByteArray.mk #[13]).data.toList) = M.trim (T.take i) := trim_same _
  rw [e4, ← e2] at CT
  have hll : (M.trim (T.take i)).length ≤ i := Nat.le_trans (trim_len _) (by rw [List.length_take]; omega)
  have CD := Hid.of (doLine_c (h.inn (T.drop (i + 1))) hG hn ho (M.trim (T.take i)) (by omega))
  have hinn := M.doLine_inn y { c with inn := T.drop (i + 1) } (M.trim (T.take i))
  have hdl : (T.drop (i + 1)).length = T.length - (i + 1) := List.length_drop
  obtain ⟨r, hr⟩ : ∃ r, r = M.doLine y { c with inn := T.drop (i + 1) } (M.trim (T.take i)) := ⟨_, rfl⟩
  rw [← hr] at CD hinn ⊢
  have HP : Hid (∀ w', KPost X w (n + (M.trim (T.take i)).length + 1) r rv w' → StepPost X w n T.length (true, r) rv (.returned (.tuple #[.string ⟨(T.drop (i + 1)).toArray⟩, .bool true])) w') := by
    intro w' hk
    refine ⟨?_, hk.1.more ?_, hk.2⟩
    · show _ = Ending.returned (.tuple #[.string ⟨r.2.inn.toArray⟩, .bool true])
      rw [hinn]
    · show _ ≤ n + (T.length - r.2.inn.length)
      rw [hinn]
      show _ ≤ n + (T.length - (T.drop (i + 1)).length)
      omega
  obtain ⟨TB, hTB⟩ : ∃ TB : ByteArray, TB = ⟨T.toArray⟩ := ⟨_, rfl⟩
  rw [← hTB] at hsz e3 CI CT ⊢
  obtain ⟨m, hm⟩ : ∃ m, m = T.length := ⟨_, rfl⟩
  rw [← hm] at hsz e3 CI hlt hTl hdl HP ⊢
  clear e1 e2 h hG hS hind e4 hinn hr hi hT hTB hm ho hwt hn
  have i1 : (i : Int) + 1 ≤ m := by omega
  go_enter Tryz.func83, Tryz.ntmps83
  go_wp2_with (first
    | (go_at_call 117; refine (CI.out _).mono ?_; rintro e w1 ⟨rfl, rfl⟩)
    | (go_at_call 119; refine (CT.out _).mono ?_; rintro e w1 ⟨rfl, rfl⟩)
    | (go_at_call 118; refine CD.out.mono ?_; rintro e w2 ⟨rfl, hK2⟩))
  go_ret2
  exact HP.out _ hK2

set_option maxRecDepth 20000 in
set_option maxHeartbeats 4000000 in
/-- no line yet, or one that is too long -/
theorem takeLine_none {X : Cx} {w : World} {n : Nat} {y : M.Sys} {c : M.Conn} {rv : Value} (h : KAt X w n y c rv) (ho : c.out.length ≤ 35184372088832) (hwt : c.want = .line) (T : M.Bytes) (hT : c.inn = T) (hTl : T.length ≤ 4000000000) (hi : ∀ i, M.nl T = some i → 120 < i) :
    Calls Tryz.prog 83 #[.pointer (some ⟨X.cb, 0, none⟩), .string ⟨T.toArray⟩] w (StepPost X w n T.length (M.step y c) rv) := by
  have hS : M.step y c = if 120 < T.length then (true, y, M.say { c with want := .skip } [69, 82, 82, 79, 82, 32, 108, 111, 110, 103]) else (false, y, c) := by
    unfold M.step
    rw [hwt, hT]
    cases hn : M.nl T with
    | none => rfl
    | some i =>
      have h1 := hi i hn
      have h2 := M.nl_lt hn
      simp only
      rw [if_pos h1, if_pos (by omega)]
  rw [hS]
  have hind : Lib.indexByte (ByteArray.mk (T.take (min T.length 121)).toArray).data.toList ((10 : Int).toNat.toUInt8) = -1 := by
    show Lib.indexByte (T.take (min T.length 121)) 10 = _
    rw [idx_nl, nl_take]
    cases hn : M.nl T with
    | none => rfl
    | some i =>
      have h1 := hi i hn
      simp only
      rw [if_neg (by omega)]
  have hsz : (ByteArray.mk T.toArray).size = T.length := str_size T
  have e1 : (ByteArray.mk T.toArray).extract 0 (min T.length 121) = ⟨(T.take (min T.length 121)).toArray⟩ := piece_take T _
  have CI := Hid.of (fun W => Tryz.strings_IndexByte (ByteArray.mk (T.take (min T.length 121)).toArray) 10 W)
  rw [hind, ← e1, show min T.length 121 = (min (T.length : Int) 121).toNat by omega] at CI
  have hcb := h.lt
  have HK := Hid.of h
  have HT := Hid.of hT
  obtain ⟨TB, hTB⟩ : ∃ TB : ByteArray, TB = ⟨T.toArray⟩ := ⟨_, rfl⟩
  by_cases hlong : 120 < T.length
  · rw [if_pos hlong]
    have HP : Hid (∀ w', KPost X w n (y, M.say { c with want := .skip } [69, 82, 82, 79, 82, 32, 108, 111, 110, 103]) rv w' → StepPost X w n T.length (true, y, M.say { c with want := .skip } [69, 82, 82, 79, 82, 32, 108, 111, 110, 103]) rv (.returned (.tuple #[.string TB, .bool true])) w') := by
      intro w' hk
      refine ⟨?_, hk.1.more ?_, hk.2⟩
      · show _ = Ending.returned (.tuple #[.string ⟨c.inn.toArray⟩, .bool true])
        rw [HT.out, hTB]
      · exact Nat.le_add_right _ _
    rw [← hTB] at hsz CI ⊢
    obtain ⟨m, hm⟩ : ∃ m, m = T.length := ⟨_, rfl⟩
    rw [← hm] at hsz CI hTl HP hlong ⊢
    clear h e1 hS hind hT hTB hm hwt hi
    go_enter Tryz.func83, Tryz.ntmps83
    go_wp2_with (first
      | (go_at_call 117; refine (CI.out _).mono ?_; rintro e w1 ⟨rfl, rfl⟩)
      | (go_at_call 120; refine (say_1 HK.out _ (by show _ + 10 + 1 ≤ _; omega) _ rfl).mono ?_; rintro e w2 ⟨rfl, hK2, hT2⟩; have HK2 := Hid.of hK2; have HT2 := Hid.of hT2; obtain ⟨wt2, c22⟩ := hK2.c2; have f22 := hK2.fz 2; clear hK2 hT2))
    go_ret2
    have hW := wants_set HK2.out .skip 2 (Or.inr (Or.inl ⟨rfl, rfl⟩))
    exact HP.out _ ⟨hW.1, HT2.out.trans hW.2⟩
  · rw [if_neg hlong]
    have HP : Hid (∀ w', KPost X w n (y, c) rv w' → StepPost X w n T.length (false, y, c) rv (.returned (.tuple #[.string TB, .bool false])) w') := by
      intro w' hk
      refine ⟨?_, hk.1.more ?_, hk.2⟩
      · show _ = Ending.returned (.tuple #[.string ⟨c.inn.toArray⟩, .bool false])
        rw [HT.out, hTB]
      · exact Nat.le_add_right _ _
    rw [← hTB] at hsz CI ⊢
    obtain ⟨m, hm⟩ : ∃ m, m = T.length := ⟨_, rfl⟩
    rw [← hm] at hsz CI hTl HP hlong ⊢
    clear h e1 hS hind hT hTB hm hwt hi
    go_enter Tryz.func83, Tryz.ntmps83
    go_wp2_with (first
      | (go_at_call 117; refine (CI.out _).mono ?_; rintro e w1 ⟨rfl, rfl⟩))
    go_ret2
    exact HP.out _ ⟨HK.out, TurnK.refl _ _⟩
end Go.Proofs.YtdpnpcjbjjjceaaGreatDoor.S
namespace Go.Proofs.YtdpnpcjbjjjceaaGreatDoor.S
open Go.RowKit Go.Maps Go.MuLone Go.Proofs.YtdpnpcjbjjjceaaGreatDoor

set_option maxRecDepth 20000 in
theorem lcut_some (T : M.Bytes) (i : Nat) (hi : M.nl T = some i) (hTl : T.length ≤ 4000000000) (w : World) :
    Calls Tryz.prog 174 #[.string ⟨T.toArray⟩, .string ⟨#[10]⟩] w fun e w' => e = .returned (.tuple #[.string ⟨(T.take i).toArray⟩, .string ⟨(T.drop (i + 1)).toArray⟩, .bool true]) ∧ Below w.heap.size w w' := by
  have hlt := M.nl_lt hi
  have hind : Lib.indexByte (ByteArray.mk T.toArray).data.toList 10 = (i : Int) := by
    show Lib.indexByte T 10 = _
    rw [idx_nl, hi]
  have hsz : (ByteArray.mk T.toArray).size = T.length := str_size T
  have e2 : (ByteArray.mk T.toArray).extract 0 i = ⟨(T.take i).toArray⟩ := piece_take T i
  have e3 : (ByteArray.mk T.toArray).extract (i + 1) T.length = ⟨(T.drop (i + 1)).toArray⟩ := piece_drop T (i + 1)
  have CI := Hid.of (fun W => Tryz.stringslite_Index_one (ByteArray.mk T.toArray) 10 W)
  rw [hind] at CI
  obtain ⟨TB, hTB⟩ : ∃ TB : ByteArray, TB = ⟨T.toArray⟩ := ⟨_, rfl⟩
  rw [← hTB] at hsz e2 e3 CI ⊢
  obtain ⟨m, hm⟩ : ∃ m, m = T.length := ⟨_, rfl⟩
  rw [← hm] at hsz e3 hlt hTl
  obtain ⟨A1, hA1⟩ : ∃ A1 : ByteArray, A1 = ⟨(T.take i).toArray⟩ := ⟨_, rfl⟩
  obtain ⟨A2, hA2⟩ : ∃ A2 : ByteArray, A2 = ⟨(T.drop (i + 1)).toArray⟩ := ⟨_, rfl⟩
  rw [← hA1] at e2 ⊢
  rw [← hA2] at e3 ⊢
  clear hind hi hTB hm hA1 hA2
  have i1 : (i : Int) + 1 ≤ m := by omega
  go_enter Tryz.func174, Tryz.ntmps174
  go_wp2_with (go_at_call 151; refine (CI.out _).mono ?_; rintro e w1 ⟨rfl, rfl⟩)
  go_region
  all_goals
    go_wp2
    go_ret3
    exact ⟨rfl, below_drew _⟩
set_option maxRecDepth 20000 in
theorem lcut_none (T : M.Bytes) (hi : M.nl T = none) (w : World) :
    Calls Tryz.prog 174 #[.string ⟨T.toArray⟩, .string ⟨#[10]⟩] w fun e w' => e = .returned (.tuple #[.string ⟨T.toArray⟩, .string ⟨#[]⟩, .bool false]) ∧ Below w.heap.size w w' := by
  have hind : Lib.indexByte (ByteArray.mk T.toArray).data.toList 10 = -1 := by
    show Lib.indexByte T 10 = _
    rw [idx_nl, hi]
  have CI := Hid.of (fun W => Tryz.stringslite_Index_one (ByteArray.mk T.toArray) 10 W)
  rw [hind] at CI
  obtain ⟨TB, hTB⟩ : ∃ TB : ByteArray, TB = ⟨T.toArray⟩ := ⟨_, rfl⟩
  rw [← hTB] at CI ⊢
  clear hind hi hTB
  go_enter Tryz.func174, Tryz.ntmps174
  go_wp2_with (go_at_call 151; refine (CI.out _).mono ?_; rintro e w1 ⟨rfl, rfl⟩)
  go_ret3
  exact ⟨rfl, Below.refl _ _⟩
set_option maxRecDepth 20000 in
theorem cut_c (s a b : ByteArray) (f : Bool) (w : World) (hc : Calls Tryz.prog 174 #[.string s, .string ⟨#[10]⟩] w fun e w' => e = .returned (.tuple #[.string a, .string b, .bool f]) ∧ Below w.heap.size w w') :
    Calls Tryz.prog 123 #[.string s, .string ⟨#[10]⟩] w fun e w' => e = .returned (.tuple #[.string a, .string b, .bool f]) ∧ Below w.heap.size w w' := by
  go_enter Tryz.func123, Tryz.ntmps123
  go_wp2_with (go_at_call 174; refine hc.mono ?_; rintro e w1 ⟨rfl, hb1⟩)
  go_ret3
  exact ⟨rfl, hb1⟩

set_option maxRecDepth 20000 in
set_option maxHeartbeats 4000000 in
theorem passOver_c {X : Cx} {w : World} {n : Nat} {y : M.Sys} {c : M.Conn} {rv : Value} (h : KAt X w n y c rv) (hwt : c.want = .skip) (T : M.Bytes) (hT : c.inn = T) (hTl : T.length ≤ 4000000000) :
    Calls Tryz.prog 85 #[.pointer (some ⟨X.cb, 0, none⟩), .string ⟨T.toArray⟩] w (StepPost X w n T.length (M.step y c) rv) := by
  have HK := Hid.of h
  cases hi : M.nl T with
  | none =>
    have hS : M.step y c = (false, y, { c with inn := [] }) := by
      unfold M.step
      rw [hwt, hT]
      simp only [hi]
    rw [hS]
    have CC := Hid.of (cut_c _ _ _ _ w (lcut_none T hi w))
    have HP : Hid (∀ w', Below w.heap.size w w' → StepPost X w n T.length (false, y, { c with inn := [] }) rv (.returned (.tuple #[.string ⟨#[]⟩, .bool false])) w') := by
      intro w' hb
      exact ⟨rfl, ((HK.out.below hb).inn []).more (Nat.le_add_right _ _), TurnK.below hb⟩
    obtain ⟨TB, hTB⟩ : ∃ TB : ByteArray, TB = ⟨T.toArray⟩ := ⟨_, rfl⟩
    rw [← hTB] at CC ⊢
    clear h hS hT hTB hwt hi
    go_enter Tryz.func85, Tryz.ntmps85
    go_wp2_with (go_at_call 123; refine CC.out.mono ?_; rintro e w1 ⟨rfl, hb1⟩; have HB1 := Hid.of hb1; clear hb1)
    go_ret2
    exact HP.out _ HB1.out
  | some i =>
    have hS : M.step y c = (true, y, { c with inn := T.drop (i + 1), want := .line }) := by
      unfold M.step
      rw [hwt, hT]
      simp only [hi]
    rw [hS]
    have CC := Hid.of (cut_c _ _ _ _ w (lcut_some T i hi hTl w))
    have HP : Hid (∀ w', KPost X w n (y, { c with want := .line }) rv w' → StepPost X w n T.length (true, y, { c with inn := T.drop (i + 1), want := .line }) rv (.returned (.tuple #[.string ⟨(T.drop (i + 1)).toArray⟩, .bool true])) w') := by
      intro w' hk
      exact ⟨rfl, (hk.1.inn (T.drop (i + 1))).more (Nat.le_add_right _ _), hk.2⟩
    obtain ⟨TB, hTB⟩ : ∃ TB : ByteArray, TB = ⟨T.toArray⟩ := ⟨_, rfl⟩
    obtain ⟨A1, hA1⟩ : ∃ A1 : ByteArray, A1 = ⟨(T.take i).toArray⟩ := ⟨_, rfl⟩
    obtain ⟨A2, hA2⟩ : ∃ A2 : ByteArray, A2 = ⟨(T.drop (i + 1)).toArray⟩ := ⟨_, rfl⟩
    rw [← hTB, ← hA1, ← hA2] at CC
    rw [← hTB]
    rw [← hA2] at HP
    clear h hS hT hTB hwt hi hA1 hA2
    go_enter Tryz.func85, Tryz.ntmps85
    go_wp2_with (go_at_call 123; refine CC.out.mono ?_; rintro e w1 ⟨rfl, hb1⟩; have HB1 := Hid.of hb1; have HK1 := Hid.of (HK.out.below hb1); obtain ⟨wt1, c21⟩ := HK1.out.c2; have f21 := HK1.out.fz 2; have hcb1 := HK1.out.lt; clear hb1)
    go_ret2
    have hW := wants_set HK1.out .line 0 (Or.inl ⟨rfl, rfl⟩)
    exact HP.out _ ⟨hW.1, (TurnK.below HB1.out).trans hW.2⟩
end Go.Proofs.YtdpnpcjbjjjceaaGreatDoor.S
namespace Go.Proofs.YtdpnpcjbjjjceaaGreatDoor.S
open Go.RowKit Go.Maps Go.MuLone Go.Proofs.YtdpnpcjbjjjceaaGreatDoor

/-- who waits for a value belongs to somebody, and the command is one that stores -/
def Wf (c : M.Conn) : Prop := ∀ ws, c.want = .value ws → M.wantsValue ws = true ∧ ∃ t, c.owner = some t

theorem stored_len (cl : Nat) (s : M.Store) (ws : List M.Bytes) (v : M.Bytes) : (M.stored cl s ws v).1.length ≤ 1000 := by
  have hst : ∀ e, (M.store s e).1.length ≤ 1000 := by
    intro e
    unfold M.store
    split <;> simp
  unfold M.stored
  repeat' split
  all_goals first
    | exact hst _
    | simp
theorem byte_at (T : M.Bytes) (z : Nat) (h : z < (ByteArray.mk T.toArray).size) : (ByteArray.mk T.toArray)[z] = T.getD z 0 := by
  have hl : z < T.length := by rw [str_size] at h; exact h
  rw [List.getD_eq_getElem?_getD, List.getElem?_eq_getElem hl]
  rfl
theorem byte_ne (T : M.Bytes) (z : Nat) (hn : T.getD z 0 ≠ 10) (h : z < (ByteArray.mk T.toArray).size) : ((((ByteArray.mk T.toArray)[z]).toNat : Int) != 10) = true := by
  rw [byte_at, bne_iff_ne]
  intro he
  exact hn (UInt8.toNat_inj.1 (by have := Int.ofNat.inj he; exact this))
theorem byte_eq (T : M.Bytes) (z : Nat) (hn : T.getD z 0 = 10) (h : z < (ByteArray.mk T.toArray).size) : ((((ByteArray.mk T.toArray)[z]).toNat : Int) != 10) = false := by
  rw [byte_at, hn]; rfl

set_option maxRecDepth 20000 in
set_option maxHeartbeats 4000000 in
theorem takeValue_c {X : Cx} {w : World} {n : Nat} {y : M.Sys} {c : M.Conn} {rv : Value} (h : KAt X w n y c rv) (hn : n ≤ 10000000000) (ho : c.out.length ≤ 35184372088832) (hwf : Wf c) (ws : List M.Bytes) (hwt : c.want = .value ws) (T : M.Bytes) (hT : c.inn = T) (hTl : T.length ≤ 4000000000) :
    Calls Tryz.prog 84 #[.pointer (some ⟨X.cb, 0, none⟩), .string ⟨T.toArray⟩] w (StepPost X w n T.length (M.step y c) rv) := by
  obtain ⟨hwv, t, hown⟩ := hwf ws hwt
  have ht := h.own_lt hown
  obtain ⟨sv, wt, nv, tv, iv, av, hc, hcb⟩ := conn_cells h
  have hwa := hc.want
  rw [hwt] at hwa
  obtain ⟨_, base, hcmd, _⟩ := hwa
  obtain ⟨rfl, hSC, hname⟩ := cmd_store hcmd hwv
  obtain ⟨g1, k1, rfl, _, hg1, ct⟩ := hSC.tx
  obtain ⟨g2, k2, n2, rfl, _, hg2, hn2, d0, d1, d2, d3⟩ := hSC.nm
  have c3 := hc.cb.c3
  have c4 := hc.cb.c4
  have c5 := hc.cb.c5
  have hz := hSC.size
  obtain ⟨z, hzz⟩ : ∃ z, z = M.num (M.word ws 4) := ⟨_, rfl⟩
  have CS := Hid.of (size_c (str (M.word ws 0)) (.slice (some ⟨g1, 0, none⟩) 1 k1) w g2 n2 k2 _ d2 hg2 (by omega) ⟨_, rfl⟩ ⟨_, _, _, rfl⟩)
  have hS : M.step y c = if T.length < z + 1 then (false, y, c)
      else if T.getD z 0 = 10 then (true, M.setAt y t (M.stored y.clock (M.storeAt y t) ws (T.take z)).2, M.say { c with want := .line, inn := T.drop (z + 1) } (M.stored y.clock (M.storeAt y t) ws (T.take z)).1)
      else (true, y, M.say { c with want := .skip, inn := T.drop z } [69, 82, 82, 79, 82, 32, 100, 97, 116, 97]) := by
    unfold M.step
    rw [hwt, hT]
    simp only [M.ownerOf, hown, Option.getD_some, hzz]
  rw [hS]
  rw [← hzz] at CS hz
  have hsz : (ByteArray.mk T.toArray).size = T.length := str_size T
  have HK := Hid.of h
  have HT := Hid.of hT
  obtain ⟨N, hN⟩ : ∃ N : ByteArray, N = ⟨(M.word ws 0).toArray⟩ := ⟨_, rfl⟩
  unfold str at CS c3
  rw [← hN] at CS c3
  by_cases hlen : T.length < z + 1
  · rw [if_pos hlen]
    have HP : Hid (∀ w', Below w.heap.size w w' → StepPost X w n T.length (false, y, c) rv (.returned (.tuple #[.string ⟨T.toArray⟩, .bool false])) w') := by
      intro w' hb
      refine ⟨?_, (HK.out.below hb).more (Nat.le_add_right _ _), TurnK.below hb⟩
      show _ = Ending.returned (.tuple #[.string ⟨c.inn.toArray⟩, .bool false])
      rw [HT.out]
    obtain ⟨TB, hTB⟩ : ∃ TB : ByteArray, TB = ⟨T.toArray⟩ := ⟨_, rfl⟩
    rw [← hTB] at hsz HP ⊢
    obtain ⟨m, hm⟩ : ∃ m, m = T.length := ⟨_, rfl⟩
    rw [← hm] at hsz hTl hlen HP ⊢
    clear h hS hT hTB hwt hm hcmd hSC hwv hown hc hwf hN ct d0 d1 d2 d3 hzz hname
    go_enter Tryz.func84, Tryz.ntmps84
    go_wp2_with (go_at_call 121; refine CS.out.mono ?_; rintro e w1 ⟨rfl, hb1⟩; have HB1 := Hid.of hb1; clear hb1)
    go_ret2
    exact HP.out _ HB1.out
  rw [if_neg hlen]
  have hlt : z < T.length := by omega
  have hget : T.getD z 0 = T[z] := by rw [List.getD_eq_getElem?_getD, List.getElem?_eq_getElem hlt]; rfl
  by_cases hnl : T.getD z 0 = 10
  · rw [if_pos hnl]
    have CV := Hid.of (fun W (hW : Below w.heap.size w W) => storeValue_c (h.below hW) hn ht hown ws hwt hwv (T.take z) (by rw [List.length_take]; omega))
    have e2 : (ByteArray.mk T.toArray).extract 0 z = ⟨(T.take z).toArray⟩ := piece_take T z
    have e3 : (ByteArray.mk T.toArray).extract (z + 1) T.length = ⟨(T.drop (z + 1)).toArray⟩ := piece_drop T (z + 1)
    rw [← e2] at CV
    obtain ⟨r, hr⟩ : ∃ r, r = M.stored y.clock (M.storeAt y t) ws (T.take z) := ⟨_, rfl⟩
    have hrl : r.1.length ≤ 1000 := by rw [hr]; exact stored_len _ _ _ _
    rw [← hr] at CV ⊢
    have hRs := ans_len r hrl _ rfl
    have HP : Hid (∀ w', KPost X w (n + 1) (M.setAt y t r.2, { M.say c r.1 with want := .line }) rv w' → StepPost X w n T.length (true, M.setAt y t r.2, M.say { c with want := .line, inn := T.drop (z + 1) } r.1) rv (.returned (.tuple #[.string ⟨(T.drop (z + 1)).toArray⟩, .bool true])) w') := by
      intro w' hk
      refine ⟨rfl, (hk.1.inn (T.drop (z + 1))).more ?_, hk.2⟩
      show n + 1 ≤ n + (T.length - (T.drop (z + 1)).length)
      rw [List.length_drop]; omega
    have hb := byte_eq T z hnl
    have HRR : Hid ((ByteArray.mk r.1.toArray).data.toList = r.1) := by show _ = _; rfl
    obtain ⟨R, hR⟩ : ∃ R : ByteArray, R = ⟨r.1.toArray⟩ := ⟨_, rfl⟩
    rw [← hR] at CV HRR hRs
    obtain ⟨TB, hTB⟩ : ∃ TB : ByteArray, TB = ⟨T.toArray⟩ := ⟨_, rfl⟩
    rw [← hTB] at hsz e3 hb CV ⊢
    obtain ⟨m, hm⟩ : ∃ m, m = T.length := ⟨_, rfl⟩
    rw [← hm] at hsz hTl e3 HP hlt ⊢
    have hlt2 : (z : Int) < m := by omega
    have hlt3 : (z : Int) + 1 ≤ m := by omega
    have hlt4 : ¬ (m : Int) ≤ z := by omega
    obtain ⟨A2, hA2⟩ : ∃ A2 : ByteArray, A2 = ⟨(T.drop (z + 1)).toArray⟩ := ⟨_, rfl⟩
    rw [← hA2] at e3 HP
    clear h hS hT hTB hwt hcmd hSC hwv hown hc hwf hN ct d0 d1 d2 d3 hzz hname hR e2 hr hA2 hget hnl hrl hm
    go_enter Tryz.func84, Tryz.ntmps84
    go_wp2_with (first
      | (go_at_call 121; refine CS.out.mono ?_; rintro e w1 ⟨rfl, hb1⟩; have HB1 := Hid.of hb1; clear hb1)
      | (go_at_call 122; refine (CV.out _ HB1.out).mono ?_; rintro e w2 ⟨rfl, hK2, hT2⟩; have HK2 := Hid.of hK2; have HT2 := Hid.of ((TurnK.below HB1.out).trans hT2); clear hK2 hT2)
      | (go_at_call 120; refine (say_1 HK2.out R (by omega) _ rfl).mono ?_; rintro e w3 ⟨rfl, hK3, hT3⟩; rw [HRR.out] at hK3; have HK3 := Hid.of hK3; have HT3 := Hid.of (HT2.out.trans hT3); obtain ⟨wt3, c23⟩ := hK3.c2; have f23 := hK3.fz 2; have hcb3 := hK3.lt; clear hK3 hT3))
    go_ret2
    have hW := wants_set HK3.out .line 0 (Or.inl ⟨rfl, rfl⟩)
    exact HP.out _ ⟨hW.1, HT3.out.trans hW.2⟩
  · rw [if_neg hnl]
    have e3 : (ByteArray.mk T.toArray).extract z T.length = ⟨(T.drop z).toArray⟩ := piece_drop T z
    have HP : Hid (∀ w', KPost X w n (y, { M.say c [69, 82, 82, 79, 82, 32, 100, 97, 116, 97] with want := .skip }) rv w' → StepPost X w n T.length (true, y, M.say { c with want := .skip, inn := T.drop z } [69, 82, 82, 79, 82, 32, 100, 97, 116, 97]) rv (.returned (.tuple #[.string ⟨(T.drop z).toArray⟩, .bool true])) w') := by
      intro w' hk
      exact ⟨rfl, (hk.1.inn (T.drop z)).more (Nat.le_add_right _ _), hk.2⟩
    have hb := byte_ne T z hnl
    obtain ⟨TB, hTB⟩ : ∃ TB : ByteArray, TB = ⟨T.toArray⟩ := ⟨_, rfl⟩
    rw [← hTB] at hsz e3 hb ⊢
    obtain ⟨m, hm⟩ : ∃ m, m = T.length := ⟨_, rfl⟩
    rw [← hm] at hsz hTl e3 HP hlt ⊢
    have hlt2 : (z : Int) < m := by omega
    have hlt4 : ¬ (m : Int) ≤ z := by omega
    obtain ⟨A2, hA2⟩ : ∃ A2 : ByteArray, A2 = ⟨(T.drop z).toArray⟩ := ⟨_, rfl⟩
    rw [← hA2] at e3 HP
    clear h hS hT hTB hwt hcmd hSC hwv hown hc hwf hN ct d0 d1 d2 d3 hzz hname hget hnl hA2 hm
    go_enter Tryz.func84, Tryz.ntmps84
    go_wp2_with (first
      | (go_at_call 121; refine CS.out.mono ?_; rintro e w1 ⟨rfl, hb1⟩; have HB1 := Hid.of hb1; have HK1 := Hid.of (HK.out.below hb1); clear hb1)
      | (go_at_call 120; refine (say_1 HK1.out _ (by show _ + 10 + 1 ≤ _; omega) _ rfl).mono ?_; rintro e w2 ⟨rfl, hK2, hT2⟩; have HK2 := Hid.of hK2; have HT2 := Hid.of hT2; obtain ⟨wt2, c22⟩ := hK2.c2; have f22 := hK2.fz 2; clear hK2 hT2))
    go_ret2
    have hW := wants_set HK2.out .skip 2 (Or.inr (Or.inl ⟨rfl, rfl⟩))
    exact HP.out _ ⟨hW.1, ((TurnK.below HB1.out).trans HT2.out).trans hW.2⟩
end Go.Proofs.YtdpnpcjbjjjceaaGreatDoor.S
namespace Go.Proofs.YtdpnpcjbjjjceaaGreatDoor.S
open Go.RowKit Go.Maps Go.MuLone Go.Proofs.YtdpnpcjbjjjceaaGreatDoor

theorem Wf.of {c : M.Conn} (h : M.WFit c) : Wf c := by
  intro ws hw
  obtain ⟨_, h2, h3⟩ := h ws hw
  refine ⟨h2, ?_⟩
  cases ho : c.owner with
  | none => exact absurd ho h3
  | some t => exact ⟨t, rfl⟩
def wantN : M.Want → Int
  | none => 0
  | some (some (some _)) => 1
  | some none => 2
  | some (some none) => 3
theorem KAt.want {X : Cx} {w : World} {n : Nat} {y : M.Sys} {c : M.Conn} {rv : Value} (h : KAt X w n y c rv) : w.cell? ⟨X.cb, 2, none⟩ = some (.int .i64 (wantN c.want)) := by
  obtain ⟨sv, wt, nv, tv, iv, av, hc⟩ := h.conn
  have h2 := hc.cb.c2
  have h3 := hc.want
  rw [h2]
  cases hw : c.want using M.Want.cases with
  | line => rw [hw] at h3; rw [show wt = 0 from h3]; rfl
  | value ws => rw [hw] at h3; rw [show wt = 1 from h3.1]; rfl
  | skip => rw [hw] at h3; rw [show wt = 2 from h3]; rfl
  | quit => rw [hw] at h3; rw [show wt = 3 from h3]; rfl
theorem takeLine_c {X : Cx} {w : World} {n : Nat} {y : M.Sys} {c : M.Conn} {rv : Value} (h : KAt X w n y c rv) (hG : Glob w) (hn : n + 10 ≤ 10000000000) (ho : c.out.length ≤ 35184372088832) (hwt : c.want = .line) (T : M.Bytes) (hT : c.inn = T) (hTl : T.length ≤ 4000000000) :
    Calls Tryz.prog 83 #[.pointer (some ⟨X.cb, 0, none⟩), .string ⟨T.toArray⟩] w (StepPost X w n T.length (M.step y c) rv) := by
  cases hi : M.nl T with
  | none => exact takeLine_none h ho hwt T hT hTl (fun i h1 => by rw [hi] at h1; cases h1)
  | some i =>
    by_cases h1 : i ≤ 120
    · exact takeLine_some h hG hn ho hwt T hT hTl i hi h1
    · exact takeLine_none h ho hwt T hT hTl (fun j h2 => by rw [hi] at h2; cases h2; omega)

set_option maxRecDepth 20000 in
set_option maxHeartbeats 4000000 in
theorem step_c {X : Cx} {w : World} {n : Nat} {y : M.Sys} {c : M.Conn} {rv : Value} (h : KAt X w n y c rv) (hG : Glob w) (hn : n + 10 ≤ 10000000000) (ho : c.out.length ≤ 35184372088832) (hwf : Wf c) (T : M.Bytes) (hT : c.inn = T) (hTl : T.length ≤ 4000000000) :
    Calls Tryz.prog 66 #[.pointer (some ⟨X.cb, 0, none⟩), .string ⟨T.toArray⟩] w (StepPost X w n T.length (M.step y c) rv) := by
  have c2 := h.want
  have hcb := h.lt
  obtain ⟨k, hk⟩ : ∃ k, k = T.length := ⟨_, rfl⟩
  cases hwt : c.want using M.Want.cases with
  | line =>
    rw [hwt] at c2
    have CT := Hid.of (takeLine_c h hG hn ho hwt T hT hTl)
    unfold wantN at c2
    obtain ⟨r, hr⟩ : ∃ r, r = M.step y c := ⟨_, rfl⟩
    obtain ⟨TB, hTB⟩ : ∃ TB : ByteArray, TB = ⟨T.toArray⟩ := ⟨_, rfl⟩
    rw [← hr, ← hTB, ← hk] at CT ⊢
    clear h hG hwf hT hTl hwt hr hTB hk
    go_enter Tryz.func66, Tryz.ntmps66
    go_wp2_with (go_at_call 83; refine CT.out.mono ?_; rintro e w1 ⟨rfl, hP1⟩; have HP1 := Hid.of hP1; clear hP1)
    go_ret2
    exact ⟨rfl, HP1.out⟩
  | value ws =>
    rw [hwt] at c2
    have CT := Hid.of (takeValue_c h (by omega) ho hwf ws hwt T hT hTl)
    unfold wantN at c2
    obtain ⟨r, hr⟩ : ∃ r, r = M.step y c := ⟨_, rfl⟩
    obtain ⟨TB, hTB⟩ : ∃ TB : ByteArray, TB = ⟨T.toArray⟩ := ⟨_, rfl⟩
    rw [← hr, ← hTB, ← hk] at CT ⊢
    clear h hG hwf hT hTl hwt hr hTB hk
    go_enter Tryz.func66, Tryz.ntmps66
    go_wp2_with (go_at_call 84; refine CT.out.mono ?_; rintro e w1 ⟨rfl, hP1⟩; have HP1 := Hid.of hP1; clear hP1)
    go_ret2
    exact ⟨rfl, HP1.out⟩
  | skip =>
    rw [hwt] at c2
    have CT := Hid.of (passOver_c h hwt T hT hTl)
    unfold wantN at c2
    obtain ⟨r, hr⟩ : ∃ r, r = M.step y c := ⟨_, rfl⟩
    obtain ⟨TB, hTB⟩ : ∃ TB : ByteArray, TB = ⟨T.toArray⟩ := ⟨_, rfl⟩
    rw [← hr, ← hTB, ← hk] at CT ⊢
    clear h hG hwf hT hTl hwt hr hTB hk
    go_enter Tryz.func66, Tryz.ntmps66
    go_wp2_with (go_at_call 85; refine CT.out.mono ?_; rintro e w1 ⟨rfl, hP1⟩; have HP1 := Hid.of hP1; clear hP1)
    go_ret2
    exact ⟨rfl, HP1.out⟩
  | quit =>
    rw [hwt] at c2
    have hS : M.step y c = (false, y, { c with inn := [] }) := by
      unfold M.step
      rw [hwt]
    rw [hS]
    have HP : Hid (StepPost X w n T.length (false, y, { c with inn := [] }) rv (.returned (.tuple #[.string ⟨#[]⟩, .bool false])) w) := ⟨rfl, (h.inn []).more (Nat.le_add_right _ _), TurnK.refl _ _⟩
    unfold wantN at c2
    obtain ⟨TB, hTB⟩ : ∃ TB : ByteArray, TB = ⟨T.toArray⟩ := ⟨_, rfl⟩
    rw [← hTB]
    clear h hG hwf hT hTl hwt hTB hk hS
    go_enter Tryz.func66, Tryz.ntmps66
    go_wp2_with fail
    go_ret2
    exact HP.out
end Go.Proofs.YtdpnpcjbjjjceaaGreatDoor.S
namespace Go.Proofs.YtdpnpcjbjjjceaaGreatDoor.M
theorem step_inn (y : Sys) (c : Conn) : (step y c).2.2.inn.length ≤ c.inn.length := by
  unfold step
  cases hw : c.want using M.Want.cases with
  | quit => simp
  | skip =>
    cases hn : nl c.inn with
    | none => simp
    | some i => simp
  | value ws =>
    simp only
    split
    · exact Nat.le_refl _
    · split
      · simp [say]
      · simp [say]
  | line =>
    cases hn : nl c.inn with
    | none =>
      simp only
      split
      · exact Nat.le_refl _
      · exact Nat.le_refl _
    | some i =>
      simp only
      split
      · exact Nat.le_refl _
      · rw [doLine_inn]; simp
end Go.Proofs.YtdpnpcjbjjjceaaGreatDoor.M
namespace Go.Proofs.YtdpnpcjbjjjceaaGreatDoor.S
open Go.RowKit Go.Maps Go.MuLone Go.Proofs.YtdpnpcjbjjjceaaGreatDoor

theorem rest_set {X : Cx} {w : World} {n : Nat} {y : M.Sys} {c : M.Conn} {rv : Value} (h : KAt X w n y c rv) (rv' : Value) :
    KAt X (w.setCell ⟨X.cb, 6, none⟩ rv') n y c rv' ∧ TurnK X w (w.setCell ⟨X.cb, 6, none⟩ rv') := by
  obtain ⟨sv, wt, nv, tv, iv, av, hc⟩ := h.conn
  have hne : ∀ k, k ≠ X.cb → (w.setCell ⟨X.cb, 6, none⟩ rv').heap[k]? = w.heap[k]? := fun k hk => heap_set_other _ _ _ _ hk
  refine ⟨⟨h.ok, h.sys.same (Nat.le_refl _) (hne _ ?_) (hne _ ?_) (fun u hu => ⟨hne _ ?_, hne _ ?_⟩), sv, wt, nv, tv, iv, av, hc.cb.set 6 _ rfl, hc.owner, hc.want.same (fun k cur e ho _ _ => hne k (fun e1 => h.ok.apartC (e1 ▸ ho))), hc.nv, hc.tv, hc.iv⟩, (Turn.refl _ _).setCell (p := ⟨X.cb, 6, none⟩) (Or.inl (Or.inl rfl)) _⟩
  · intro e; have := h.ok.g; rw [e, h.ok.cb] at this; cases this
  · intro e; have := h.ok.T; rw [e, h.ok.cb] at this; cases this
  · intro e; have := h.ok.sb u hu; rw [e, h.ok.cb] at this; omega
  · intro e; have := h.ok.eb u hu; rw [e, h.ok.cb] at this; omega
theorem KAt.c6 {X : Cx} {w : World} {n : Nat} {y : M.Sys} {c : M.Conn} {rv : Value} (h : KAt X w n y c rv) : w.cell? ⟨X.cb, 6, none⟩ = some rv := by
  obtain ⟨sv, wt, nv, tv, iv, av, hc⟩ := h.conn
  exact hc.cb.c6

/-- in the midst of Feed -/
structure FeedL (X : Cx) (w0 : World) (n0 : Nat) (y0 : M.Sys) (c0 : M.Conn) (rv : Value) (b : Bool) (y : M.Sys) (c : M.Conn) (n : Nat) (w : World) : Prop where
  kat : KAt X w n y c rv
  glob : Glob w
  turn : TurnK X w0 w
  num : n + c.inn.length ≤ n0 + c0.inn.length
  run : if b then M.run y0 c0 = M.run y c else M.run y0 c0 = (y, c)
  yfit : M.YFit y
  wfit : M.WFit c
  phi : M.phi c ≤ M.phi c0
theorem FeedL.step {X : Cx} {w0 w w' : World} {n0 n : Nat} {y0 y : M.Sys} {c0 c : M.Conn} {rv : Value} (h : FeedL X w0 n0 y0 c0 rv true y c n w) (hk : KAt X w' (n + (c.inn.length - (M.step y c).2.2.inn.length)) (M.step y c).2.1 (M.step y c).2.2 rv) (hT : TurnK X w w') :
    FeedL X w0 n0 y0 c0 rv (M.step y c).1 (M.step y c).2.1 (M.step y c).2.2 (n + (c.inn.length - (M.step y c).2.2.inn.length)) w' := by
  obtain ⟨f1, f2, f3⟩ := M.step_fit y c h.yfit h.wfit
  have hl := M.step_inn y c
  have hr := h.run
  simp only [if_true] at hr
  refine ⟨hk, h.glob.turnK h.kat.ok hT, h.turn.trans hT, by have := h.num; omega, ?_, f1, f2, Nat.le_trans f3 h.phi⟩
  cases hs : (M.step y c).1 with
  | true =>
    rw [if_pos rfl, hr]
    exact M.run_go (by rw [← hs])
  | false =>
    rw [hr]
    exact M.run_stop (by rw [← hs])
theorem FeedL.bounds {X : Cx} {w0 w : World} {n0 n : Nat} {y0 y : M.Sys} {c0 c : M.Conn} {rv : Value} {b : Bool} (h : FeedL X w0 n0 y0 c0 rv b y c n w) (hn : n0 + c0.inn.length + 10 ≤ 10000000000) (hp : M.phi c0 ≤ 35184372088832) (hl : M.phi c0 ≤ 640000000000) :
    n + 10 ≤ 10000000000 ∧ c.out.length ≤ 35184372088832 ∧ c.inn.length ≤ 4000000000 := by
  have h1 := h.num
  have h2 := h.phi
  unfold M.phi at h2 hl hp
  refine ⟨by omega, by omega, by omega⟩
/-- what goes down from round to round -/
def feedM (cb : Nat) (t o : Value) (w : World) : Nat :=
  match o with
  | .bool true => (match t with | .string s => 2 * s.size | _ => 0) + (match w.cell? ⟨cb, 2, none⟩ with | some (.int .i64 q) => if q < 2 then 1 else 0 | _ => 0) + 1
  | _ => 0
theorem feedM_eq {X : Cx} {w : World} {n : Nat} {y : M.Sys} {c : M.Conn} {rv : Value} (h : KAt X w n y c rv) : feedM X.cb (.string ⟨c.inn.toArray⟩) (.bool true) w = M.size c + 1 := by
  unfold feedM M.size
  simp only [h.want, str_size]
  cases c.want using M.Want.cases <;> simp [wantN]
theorem feedM_false (cb : Nat) (t : Value) (w : World) : feedM cb t (.bool false) w = 0 := rfl
theorem FeedL.down {X : Cx} {w w' : World} {n n' : Nat} {y : M.Sys} {c : M.Conn} {rv : Value} (h : KAt X w n y c rv) (hk : KAt X w' n' (M.step y c).2.1 (M.step y c).2.2 rv) :
    feedM X.cb (.string ⟨(M.step y c).2.2.inn.toArray⟩) (.bool (M.step y c).1) w' < feedM X.cb (.string ⟨c.inn.toArray⟩) (.bool true) w := by
  rw [feedM_eq h]
  cases hs : (M.step y c).1 with
  | true =>
    rw [feedM_eq hk]
    have := M.step_size y c hs
    omega
  | false => rw [feedM_false]; omega

set_option maxRecDepth 20000 in
set_option maxHeartbeats 4000000 in
theorem feed_c {X : Cx} {w : World} {n : Nat} {y : M.Sys} {c : M.Conn} (h : KAt X w n y c (.string ⟨c.inn.toArray⟩)) (hG : Glob w) (b : M.Bytes) (hy : M.YFit y) (hw : M.WFit c) (hn : n + c.inn.length + b.length + 10 ≤ 10000000000) (hp : M.phi c + 160 * b.length ≤ 640000000000) :
    Calls Tryz.prog 53 #[.pointer (some ⟨X.cb, 0, none⟩), .string ⟨b.toArray⟩] w fun e w' => e = .returned (.tuple #[]) ∧ ∃ n', n' + (M.feed y c b).2.inn.length ≤ n + c.inn.length + b.length ∧ KAt X w' n' (M.feed y c b).1 (M.feed y c b).2 (.string ⟨(M.feed y c b).2.inn.toArray⟩) ∧ TurnK X w w' := by
  have hlen : (M.more c b).inn.length = c.inn.length + b.length := by unfold M.more; rw [List.length_append]
  have hphi : M.phi (M.more c b) ≤ 640000000000 := by rw [M.phi_more]; exact hp
  have HST : Hid (FeedL X w n y (M.more c b) (.string ⟨c.inn.toArray⟩) true y (M.more c b) n w) := ⟨h.inn _, hG, TurnK.refl _ _, Nat.le_refl _, rfl, hy, hw, Nat.le_refl _⟩
  have HN : Hid (n + (M.more c b).inn.length + 10 ≤ 10000000000) := by show _ ≤ _; omega
  have HPH := Hid.of hphi
  have c6 := h.c6
  have hcb := h.lt
  have hs1 : (ByteArray.mk c.inn.toArray).size = c.inn.length := str_size _
  have hs2 : (ByteArray.mk b.toArray).size = b.length := str_size _
  have hcat : (ByteArray.mk c.inn.toArray) ++ (ByteArray.mk b.toArray) = ⟨(M.more c b).inn.toArray⟩ := by
    apply ByteArray.ext
    unfold M.more
    simp
  have HF : Hid (M.feed y c b = M.run y (M.more c b)) := rfl
  rw [HF.out]
  have HLEN := Hid.of hlen
  obtain ⟨c0, hc0⟩ : ∃ c0, c0 = M.more c b := ⟨_, rfl⟩
  rw [← hc0] at HST HN HPH hcat HLEN ⊢
  obtain ⟨R, hR⟩ : ∃ R : ByteArray, R = ⟨c.inn.toArray⟩ := ⟨_, rfl⟩
  obtain ⟨BB, hBB⟩ : ∃ BB : ByteArray, BB = ⟨b.toArray⟩ := ⟨_, rfl⟩
  rw [← hR] at HST c6 hs1 hcat
  rw [← hBB] at hs2 hcat ⊢
  have hl1 : c.inn.length ≤ 4000000000 := by unfold M.phi at hp; omega
  have hl2 : b.length ≤ 4000000000 := by omega
  clear h hG hy hw hlen hphi hR hBB hc0 HF
  go_enter Tryz.func53, Tryz.ntmps53
  go_wp2_with fail
  go_loopw [4, 5] (fun t o wr => ∃ (bb : Bool) (yi : M.Sys) (ci : M.Conn) (ni : Nat), t = .string ⟨ci.inn.toArray⟩ ∧ o = .bool bb ∧ Hid (FeedL X w n y c0 (.string R) bb yi ci ni wr)) (fun t o wr => feedM X.cb t o wr)
  case atStart => exact ⟨true, y, c0, n, rfl, rfl, HST.out⟩
  case round =>
    obtain ⟨bb, yi, ci, ni, rfl, rfl, hrel⟩ := hrel
    obtain ⟨q1, q2, q3⟩ := hrel.out.bounds HN.out (Nat.le_trans HPH.out (by decide)) HPH.out
    have hcbr := hrel.out.kat.lt
    cases bb with
    | true =>
      have CS := Hid.of (step_c hrel.out.kat hrel.out.glob q1 q2 (Wf.of hrel.out.wfit) ci.inn rfl q3)
      have HSTEP : Hid (∀ w1, KAt X w1 (ni + (ci.inn.length - (M.step yi ci).2.2.inn.length)) (M.step yi ci).2.1 (M.step yi ci).2.2 (.string R) → TurnK X wr w1 → FeedL X w n y c0 (.string R) (M.step yi ci).1 (M.step yi ci).2.1 (M.step yi ci).2.2 (ni + (ci.inn.length - (M.step yi ci).2.2.inn.length)) w1) := fun w1 h1 h2 => hrel.out.step h1 h2
      have HDOWN : Hid (∀ w1, KAt X w1 (ni + (ci.inn.length - (M.step yi ci).2.2.inn.length)) (M.step yi ci).2.1 (M.step yi ci).2.2 (.string R) → feedM X.cb (.string ⟨(M.step yi ci).2.2.inn.toArray⟩) (.bool (M.step yi ci).1) w1 < feedM X.cb (.string ⟨ci.inn.toArray⟩) (.bool true) wr) := fun w1 h1 => FeedL.down hrel.out.kat h1
      obtain ⟨r, hr⟩ : ∃ r, r = M.step yi ci := ⟨_, rfl⟩
      rw [← hr] at CS HSTEP HDOWN
      clear hr
      go_wp2_with (go_at_call 66; refine CS.out.mono ?_; rintro e w1 ⟨rfl, hK1, hT1⟩; have HK1 := Hid.of hK1; have HT1 := Hid.of hT1; clear hK1 hT1)
      go_roundw
      case rel => exact ⟨_, _, _, _, rfl, rfl, HSTEP.out _ HK1.out HT1.out⟩
      case measure => exact HDOWN.out _ HK1.out
    | false =>
      have hrun := hrel.out.run
      simp only [Bool.false_eq_true, if_false] at hrun
      have HRUN := Hid.of hrun
      have HNUM := Hid.of hrel.out.num
      have hcs : (ByteArray.mk ci.inn.toArray).size ≤ 281474976710656 := by rw [str_size]; omega
      have HK := Hid.of hrel.out.kat
      have HT := Hid.of hrel.out.turn
      clear hrel hrun
      go_wp2_with (go_at_call 47; refine (clone_s _ _ hcs).mono ?_; rintro e w1 ⟨rfl, hb1⟩; have HB1 := Hid.of hb1; have HK1 := Hid.of (HK.out.below hb1); have c61 := HK1.out.c6; have f61 := HK1.out.fz 6; have hcb1 := HK1.out.lt; clear hb1)
      go_end0
      rw [HRUN.out]
      obtain ⟨h1, h2⟩ := rest_set HK1.out (.string ⟨ci.inn.toArray⟩)
      exact ⟨rfl, ni, by have := HNUM.out; have := HLEN.out; show ni + ci.inn.length ≤ _; omega, h1, (HT.out.trans (TurnK.below HB1.out)).trans h2⟩
end Go.Proofs.YtdpnpcjbjjjceaaGreatDoor.S
