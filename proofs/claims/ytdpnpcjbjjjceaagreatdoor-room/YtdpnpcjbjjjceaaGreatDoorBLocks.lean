import Derived.Conc.RwLib
import Derived.Conc.MuData
import Derived.KernelRfl
import Derived.Test.YtdpnpcjbjjjceaaGreatDoorProg
set_option linter.unusedSimpArgs false
set_option linter.unusedVariables false
namespace Go.Proofs
/-- the mutex's functions and types, by their numbers in this dump -/
abbrev Tryz.muLink : Go.Conc.Locks.MuLink := { lock := 90, unlock := 91, ilock := 132, iunlock := 133, lockSlow := 179, unlockSlow := 181, disable := 94, enable := 96, acquire := 97, relMerge := 124, cas32 := 178, add32 := 180, tMutex := 157, tIMutex := 155, tPMutex := 195, tPIMutex := 227, tPI32 := 229, tUP := 168, tNoCopy := 129, tU32 := 135 }
theorem Tryz.muLib : Go.Conc.Locks.MuLib Tryz.prog Tryz.muLink :=
  ⟨Tryz.func90, Tryz.func91, Tryz.func132, Tryz.func133, Tryz.func94, Tryz.func96, Tryz.func97, Tryz.func124, Tryz.func178, Tryz.func180, Tryz.underlying155, Tryz.runUnderlying155, Tryz.sizeOf155, Tryz.isAgg155, Tryz.zeroValue155, Tryz.underlying157, Tryz.runUnderlying157, Tryz.sizeOf157, Tryz.isAgg157, Tryz.zeroValue157, Tryz.underlying195, Tryz.runUnderlying195, Tryz.sizeOf195, Tryz.isAgg195, Tryz.zeroValue195, Tryz.underlying227, Tryz.runUnderlying227, Tryz.sizeOf227, Tryz.isAgg227, Tryz.zeroValue227, Tryz.underlying229, Tryz.runUnderlying229, Tryz.sizeOf229, Tryz.isAgg229, Tryz.zeroValue229, Tryz.underlying168, Tryz.runUnderlying168, Tryz.sizeOf168, Tryz.isAgg168, Tryz.zeroValue168, Tryz.underlying129, Tryz.runUnderlying129, Tryz.sizeOf129, Tryz.isAgg129, Tryz.zeroValue129, Tryz.underlying21, Tryz.runUnderlying21, Tryz.sizeOf21, Tryz.isAgg21, Tryz.zeroValue21, (by kernel_rfl)⟩
end Go.Proofs
