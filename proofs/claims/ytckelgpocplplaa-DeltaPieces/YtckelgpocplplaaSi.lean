/- The library's contracts at this seat: their tables of numbers, and that this program bears the bodies of which they were proved. It proves no statement by itself. No conditions. -/
import Derived.Shelf.Bytes.SlIndexWhole
import Derived.KernelRfl
import Derived.Test.YtckelgpocplplaaProg
namespace Go.Proofs.Ytckelgpocplplaa
open Go Go.Shelf Go.Proofs
set_option linter.all false
set_option maxRecDepth 100000
def sh_i_ren : Go.Shelf.Ren :=
  {
    f := fun x =>
      match x with
      | 185 => 13
      | 187 => 23
      | 115 => 24
      | 253 => 25
      | 224 => 26
      | 254 => 27
      | 255 => 37
      | 291 => 38
      | n => n,
    t := fun x =>
      match x with
      | 37 => 23
      | 3 => 3
      | 4 => 4
      | 0 => 0
      | 5 => 5
      | 46 => 52
      | 9 => 9
      | 146 => 71
      | 51 => 70
      | n => n,
    g := fun x =>
      match x with
      | 1 => 0
      | n => n }
theorem sh_i : Go.Proofs.Lays.n185 Go.Proofs.Try.prog sh_i_ren :=
  { mixed := by kernel_rfl,
    f115 := Eq.trans Go.Proofs.Try.func24 (congrArg Option.some (Eq.refl (Go.Proofs.Body.n115 sh_i_ren))),
    f185 := Eq.trans Go.Proofs.Try.func13 (congrArg Option.some (Eq.refl (Go.Proofs.Body.n185 sh_i_ren))),
    f187 := Eq.trans Go.Proofs.Try.func23 (congrArg Option.some (Eq.refl (Go.Proofs.Body.n187 sh_i_ren))),
    f224 := Eq.trans Go.Proofs.Try.func26 (congrArg Option.some (Eq.refl (Go.Proofs.Body.n224 sh_i_ren))),
    f253 := Eq.trans Go.Proofs.Try.func25 (congrArg Option.some (Eq.refl (Go.Proofs.Body.n253 sh_i_ren))),
    f254 := Eq.trans Go.Proofs.Try.func27 (congrArg Option.some (Eq.refl (Go.Proofs.Body.n254 sh_i_ren))),
    f255 := Eq.trans Go.Proofs.Try.func37 (congrArg Option.some (Eq.refl (Go.Proofs.Body.n255 sh_i_ren))),
    f291 := Eq.trans Go.Proofs.Try.func38 (congrArg Option.some (Eq.refl (Go.Proofs.Body.n291 sh_i_ren))),
    t0 := Go.Proofs.Try.underlying0, a0 := Go.Proofs.Try.isAgg0, z0 := Go.Proofs.Try.sizeOf0,
    v0 := Go.Proofs.Try.zeroValue0, t3 := Go.Proofs.Try.underlying3, a3 := Go.Proofs.Try.isAgg3,
    z3 := Go.Proofs.Try.sizeOf3, v3 := Go.Proofs.Try.zeroValue3, t4 := Go.Proofs.Try.underlying4,
    a4 := Go.Proofs.Try.isAgg4, z4 := Go.Proofs.Try.sizeOf4, v4 := Go.Proofs.Try.zeroValue4,
    t5 := Go.Proofs.Try.underlying5, a5 := Go.Proofs.Try.isAgg5, z5 := Go.Proofs.Try.sizeOf5,
    v5 := Go.Proofs.Try.zeroValue5, t9 := Go.Proofs.Try.underlying9, a9 := Go.Proofs.Try.isAgg9,
    z9 := Go.Proofs.Try.sizeOf9, v9 := Go.Proofs.Try.zeroValue9, t37 := Go.Proofs.Try.underlying23,
    a37 := Go.Proofs.Try.isAgg23, z37 := Go.Proofs.Try.sizeOf23, v37 := Go.Proofs.Try.zeroValue23,
    t46 := Go.Proofs.Try.underlying52, a46 := Go.Proofs.Try.isAgg52, z46 := Go.Proofs.Try.sizeOf52,
    v46 := Go.Proofs.Try.zeroValue52, t51 := Go.Proofs.Try.underlying70, a51 := Go.Proofs.Try.isAgg70,
    z51 := Go.Proofs.Try.sizeOf70, v51 := Go.Proofs.Try.zeroValue70, t146 := Go.Proofs.Try.underlying71,
    a146 := Go.Proofs.Try.isAgg71, z146 := Go.Proofs.Try.sizeOf71, v146 := Go.Proofs.Try.zeroValue71,
    g1 := by kernel_rfl }
end Go.Proofs.Ytckelgpocplplaa
