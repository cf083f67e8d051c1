/- StoreCrashes: what it needs, part 2. -/
import Derived.Test.YtgmghkakiocmjaaGreatDoorSStoreCrashesA
namespace Go.Proofs.YtgmghkakiocmjaaGreatDoor
open Go
instance : UT Tryz.prog 0 (TypeDesc.tuple #[]) := ⟨Tryz.underlying0⟩
instance : SzT Tryz.prog 0 1 := ⟨by kernel_rfl⟩
instance : ByT Tryz.prog 0 0 := ⟨by kernel_rfl⟩
instance : FlT Tryz.prog 0 := ⟨by kernel_rfl⟩
instance : UT Tryz.prog 1 (TypeDesc.func #[] #[] false) := ⟨Tryz.underlying1⟩
instance : SzT Tryz.prog 1 1 := ⟨by kernel_rfl⟩
instance : ByT Tryz.prog 1 8 := ⟨by kernel_rfl⟩
instance : ZrT Tryz.prog 1 (#[Value.nilFunc]) := ⟨by kernel_rfl⟩
instance : FlT Tryz.prog 1 := ⟨by kernel_rfl⟩
instance : UT Tryz.prog 2 (TypeDesc.int IntKind.i64) := ⟨Tryz.underlying2⟩
instance : SzT Tryz.prog 2 1 := ⟨by kernel_rfl⟩
instance : ByT Tryz.prog 2 8 := ⟨by kernel_rfl⟩
instance : ZrT Tryz.prog 2 (#[Value.int .i64 0]) := ⟨by kernel_rfl⟩
instance : FlT Tryz.prog 2 := ⟨by kernel_rfl⟩
instance : UT Tryz.prog 3 (TypeDesc.int IntKind.i64) := ⟨Tryz.underlying3⟩
instance : SzT Tryz.prog 3 1 := ⟨by kernel_rfl⟩
instance : ByT Tryz.prog 3 8 := ⟨by kernel_rfl⟩
instance : ZrT Tryz.prog 3 (#[Value.int .i64 0]) := ⟨by kernel_rfl⟩
instance : FlT Tryz.prog 3 := ⟨by kernel_rfl⟩
instance : UT Tryz.prog 4 TypeDesc.bool := ⟨Tryz.underlying4⟩
instance : SzT Tryz.prog 4 1 := ⟨by kernel_rfl⟩
instance : ByT Tryz.prog 4 1 := ⟨by kernel_rfl⟩
instance : ZrT Tryz.prog 4 (#[Value.bool false]) := ⟨by kernel_rfl⟩
instance : FlT Tryz.prog 4 := ⟨by kernel_rfl⟩
instance : UT Tryz.prog 5 (TypeDesc.int IntKind.u8) := ⟨Tryz.underlying5⟩
instance : SzT Tryz.prog 5 1 := ⟨by kernel_rfl⟩
instance : ByT Tryz.prog 5 1 := ⟨by kernel_rfl⟩
instance : ZrT Tryz.prog 5 (#[Value.int .u8 0]) := ⟨by kernel_rfl⟩
instance : FlT Tryz.prog 5 := ⟨by kernel_rfl⟩
instance : UT Tryz.prog 6 (TypeDesc.int IntKind.u8) := ⟨Tryz.underlying6⟩
instance : SzT Tryz.prog 6 1 := ⟨by kernel_rfl⟩
instance : ByT Tryz.prog 6 1 := ⟨by kernel_rfl⟩
instance : ZrT Tryz.prog 6 (#[Value.int .u8 0]) := ⟨by kernel_rfl⟩
instance : FlT Tryz.prog 6 := ⟨by kernel_rfl⟩
instance : UT Tryz.prog 7 (TypeDesc.struct #[{ name := "x", type := 2, offset := 0, embedded := false, tag := "", pkgPath := "runtime", byteOffset := 0 }, { name := "y", type := 3, offset := 1, embedded := false, tag := "", pkgPath := "runtime", byteOffset := 8 }, { name := "signed", type := 4, offset := 2, embedded := false, tag := "", pkgPath := "runtime", byteOffset := 16 }, { name := "code", type := 6, offset := 3, embedded := false, tag := "", pkgPath := "runtime", byteOffset := 17 }]) := ⟨Tryz.underlying7⟩
instance : SzT Tryz.prog 7 4 := ⟨by kernel_rfl⟩
instance : ByT Tryz.prog 7 24 := ⟨by kernel_rfl⟩
instance : ZrT Tryz.prog 7 (#[Value.int .i64 0, Value.int .i64 0, Value.bool false, Value.int .u8 0]) := ⟨by kernel_rfl⟩
instance : RwT Tryz.prog 7 4 := ⟨by kernel_rfl⟩
instance : PlT Tryz.prog 7 [(0, 1), (1, 1), (2, 1), (3, 1)] := ⟨by kernel_rfl⟩
instance : UT Tryz.prog 8 (TypeDesc.struct #[{ name := "x", type := 2, offset := 0, embedded := false, tag := "", pkgPath := "runtime", byteOffset := 0 }, { name := "y", type := 3, offset := 1, embedded := false, tag := "", pkgPath := "runtime", byteOffset := 8 }, { name := "signed", type := 4, offset := 2, embedded := false, tag := "", pkgPath := "runtime", byteOffset := 16 }, { name := "code", type := 6, offset := 3, embedded := false, tag := "", pkgPath := "runtime", byteOffset := 17 }]) := ⟨Tryz.underlying8⟩
instance : SzT Tryz.prog 8 4 := ⟨by kernel_rfl⟩
instance : ByT Tryz.prog 8 24 := ⟨by kernel_rfl⟩
instance : ZrT Tryz.prog 8 (#[Value.int .i64 0, Value.int .i64 0, Value.bool false, Value.int .u8 0]) := ⟨by kernel_rfl⟩
instance : RwT Tryz.prog 8 4 := ⟨by kernel_rfl⟩
instance : PlT Tryz.prog 8 [(0, 1), (1, 1), (2, 1), (3, 1)] := ⟨by kernel_rfl⟩
instance : UT Tryz.prog 9 TypeDesc.string := ⟨Tryz.underlying9⟩
instance : SzT Tryz.prog 9 1 := ⟨by kernel_rfl⟩
instance : ByT Tryz.prog 9 16 := ⟨by kernel_rfl⟩
instance : ZrT Tryz.prog 9 (#[Value.string ByteArray.empty]) := ⟨by kernel_rfl⟩
instance : FlT Tryz.prog 9 := ⟨by kernel_rfl⟩
instance : UT Tryz.prog 10 TypeDesc.string := ⟨Tryz.underlying10⟩
instance : SzT Tryz.prog 10 1 := ⟨by kernel_rfl⟩
instance : ByT Tryz.prog 10 16 := ⟨by kernel_rfl⟩
instance : ZrT Tryz.prog 10 (#[Value.string ByteArray.empty]) := ⟨by kernel_rfl⟩
instance : FlT Tryz.prog 10 := ⟨by kernel_rfl⟩
instance : UT Tryz.prog 11 TypeDesc.string := ⟨Tryz.underlying11⟩
instance : SzT Tryz.prog 11 1 := ⟨by kernel_rfl⟩
instance : ByT Tryz.prog 11 16 := ⟨by kernel_rfl⟩
instance : ZrT Tryz.prog 11 (#[Value.string ByteArray.empty]) := ⟨by kernel_rfl⟩
instance : FlT Tryz.prog 11 := ⟨by kernel_rfl⟩
instance : UT Tryz.prog 12 (TypeDesc.int IntKind.u64) := ⟨Tryz.underlying12⟩
instance : SzT Tryz.prog 12 1 := ⟨by kernel_rfl⟩
instance : ByT Tryz.prog 12 8 := ⟨by kernel_rfl⟩
instance : ZrT Tryz.prog 12 (#[Value.int .u64 0]) := ⟨by kernel_rfl⟩
instance : FlT Tryz.prog 12 := ⟨by kernel_rfl⟩
instance : UT Tryz.prog 13 (TypeDesc.struct #[{ name := "msg", type := 9, offset := 0, embedded := false, tag := "", pkgPath := "runtime", byteOffset := 0 }, { name := "addr", type := 12, offset := 1, embedded := false, tag := "", pkgPath := "runtime", byteOffset := 16 }]) := ⟨Tryz.underlying13⟩
instance : SzT Tryz.prog 13 2 := ⟨by kernel_rfl⟩
instance : ByT Tryz.prog 13 24 := ⟨by kernel_rfl⟩
instance : ZrT Tryz.prog 13 (#[Value.string ByteArray.empty, Value.int .u64 0]) := ⟨by kernel_rfl⟩
instance : RwT Tryz.prog 13 2 := ⟨by kernel_rfl⟩
instance : PlT Tryz.prog 13 [(0, 1), (1, 1)] := ⟨by kernel_rfl⟩
instance : UT Tryz.prog 14 (TypeDesc.struct #[{ name := "msg", type := 9, offset := 0, embedded := false, tag := "", pkgPath := "runtime", byteOffset := 0 }, { name := "addr", type := 12, offset := 1, embedded := false, tag := "", pkgPath := "runtime", byteOffset := 16 }]) := ⟨Tryz.underlying14⟩
instance : SzT Tryz.prog 14 2 := ⟨by kernel_rfl⟩
instance : ByT Tryz.prog 14 24 := ⟨by kernel_rfl⟩
instance : ZrT Tryz.prog 14 (#[Value.string ByteArray.empty, Value.int .u64 0]) := ⟨by kernel_rfl⟩
instance : RwT Tryz.prog 14 2 := ⟨by kernel_rfl⟩
instance : PlT Tryz.prog 14 [(0, 1), (1, 1)] := ⟨by kernel_rfl⟩
instance : UT Tryz.prog 15 (TypeDesc.pointer 167) := ⟨Tryz.underlying15⟩
instance : SzT Tryz.prog 15 1 := ⟨by kernel_rfl⟩
instance : ByT Tryz.prog 15 8 := ⟨by kernel_rfl⟩
instance : ZrT Tryz.prog 15 (#[Value.pointer none]) := ⟨by kernel_rfl⟩
instance : FlT Tryz.prog 15 := ⟨by kernel_rfl⟩
instance : UT Tryz.prog 16 (TypeDesc.pointer 170) := ⟨Tryz.underlying16⟩
instance : SzT Tryz.prog 16 1 := ⟨by kernel_rfl⟩
instance : ByT Tryz.prog 16 8 := ⟨by kernel_rfl⟩
instance : ZrT Tryz.prog 16 (#[Value.pointer none]) := ⟨by kernel_rfl⟩
instance : FlT Tryz.prog 16 := ⟨by kernel_rfl⟩
instance : UT Tryz.prog 17 (TypeDesc.pointer 178) := ⟨Tryz.underlying17⟩
instance : SzT Tryz.prog 17 1 := ⟨by kernel_rfl⟩
instance : ByT Tryz.prog 17 8 := ⟨by kernel_rfl⟩
instance : ZrT Tryz.prog 17 (#[Value.pointer none]) := ⟨by kernel_rfl⟩
instance : FlT Tryz.prog 17 := ⟨by kernel_rfl⟩
instance : UT Tryz.prog 18 (TypeDesc.struct #[{ name := "typ", type := 17, offset := 0, embedded := false, tag := "", pkgPath := "internal/runtime/maps", byteOffset := 0 }]) := ⟨Tryz.underlying18⟩
instance : SzT Tryz.prog 18 1 := ⟨by kernel_rfl⟩
instance : ByT Tryz.prog 18 8 := ⟨by kernel_rfl⟩
instance : ZrT Tryz.prog 18 (#[Value.pointer none]) := ⟨by kernel_rfl⟩
instance : RwT Tryz.prog 18 1 := ⟨by kernel_rfl⟩
instance : PlT Tryz.prog 18 [(0, 1)] := ⟨by kernel_rfl⟩
instance : UT Tryz.prog 19 (TypeDesc.struct #[{ name := "typ", type := 17, offset := 0, embedded := false, tag := "", pkgPath := "internal/runtime/maps", byteOffset := 0 }]) := ⟨Tryz.underlying19⟩
instance : SzT Tryz.prog 19 1 := ⟨by kernel_rfl⟩
instance : ByT Tryz.prog 19 8 := ⟨by kernel_rfl⟩
instance : ZrT Tryz.prog 19 (#[Value.pointer none]) := ⟨by kernel_rfl⟩
instance : RwT Tryz.prog 19 1 := ⟨by kernel_rfl⟩
instance : PlT Tryz.prog 19 [(0, 1)] := ⟨by kernel_rfl⟩
instance : UT Tryz.prog 20 (TypeDesc.interface #[]) := ⟨Tryz.underlying20⟩
instance : SzT Tryz.prog 20 1 := ⟨by kernel_rfl⟩
instance : ByT Tryz.prog 20 16 := ⟨by kernel_rfl⟩
instance : ZrT Tryz.prog 20 (#[Value.nilIface]) := ⟨by kernel_rfl⟩
instance : FlT Tryz.prog 20 := ⟨by kernel_rfl⟩
instance : UT Tryz.prog 21 (TypeDesc.int IntKind.i32) := ⟨Tryz.underlying21⟩
instance : SzT Tryz.prog 21 1 := ⟨by kernel_rfl⟩
instance : ByT Tryz.prog 21 4 := ⟨by kernel_rfl⟩
instance : ZrT Tryz.prog 21 (#[Value.int .i32 0]) := ⟨by kernel_rfl⟩
instance : FlT Tryz.prog 21 := ⟨by kernel_rfl⟩
instance : UT Tryz.prog 22 (TypeDesc.slice 34) := ⟨Tryz.underlying22⟩
instance : SzT Tryz.prog 22 1 := ⟨by kernel_rfl⟩
instance : ByT Tryz.prog 22 24 := ⟨by kernel_rfl⟩
instance : ZrT Tryz.prog 22 (#[Value.slice none 0 0]) := ⟨by kernel_rfl⟩
instance : FlT Tryz.prog 22 := ⟨by kernel_rfl⟩
instance : UT Tryz.prog 23 (TypeDesc.func #[] #[4] false) := ⟨Tryz.underlying23⟩
instance : SzT Tryz.prog 23 1 := ⟨by kernel_rfl⟩
instance : ByT Tryz.prog 23 8 := ⟨by kernel_rfl⟩
instance : ZrT Tryz.prog 23 (#[Value.nilFunc]) := ⟨by kernel_rfl⟩
instance : FlT Tryz.prog 23 := ⟨by kernel_rfl⟩
instance : UT Tryz.prog 24 (TypeDesc.func #[22, 3] #[4] false) := ⟨Tryz.underlying24⟩
instance : SzT Tryz.prog 24 1 := ⟨by kernel_rfl⟩
instance : ByT Tryz.prog 24 8 := ⟨by kernel_rfl⟩
instance : ZrT Tryz.prog 24 (#[Value.nilFunc]) := ⟨by kernel_rfl⟩
instance : FlT Tryz.prog 24 := ⟨by kernel_rfl⟩
instance : UT Tryz.prog 25 (TypeDesc.pointer 52) := ⟨Tryz.underlying25⟩
instance : SzT Tryz.prog 25 1 := ⟨by kernel_rfl⟩
instance : ByT Tryz.prog 25 8 := ⟨by kernel_rfl⟩
instance : ZrT Tryz.prog 25 (#[Value.pointer none]) := ⟨by kernel_rfl⟩
instance : FlT Tryz.prog 25 := ⟨by kernel_rfl⟩
instance : UT Tryz.prog 26 (TypeDesc.func #[3] #[25] false) := ⟨Tryz.underlying26⟩
instance : SzT Tryz.prog 26 1 := ⟨by kernel_rfl⟩
instance : ByT Tryz.prog 26 8 := ⟨by kernel_rfl⟩
instance : ZrT Tryz.prog 26 (#[Value.nilFunc]) := ⟨by kernel_rfl⟩
instance : FlT Tryz.prog 26 := ⟨by kernel_rfl⟩
instance : UT Tryz.prog 27 (TypeDesc.pointer 56) := ⟨Tryz.underlying27⟩
instance : SzT Tryz.prog 27 1 := ⟨by kernel_rfl⟩
instance : ByT Tryz.prog 27 8 := ⟨by kernel_rfl⟩
instance : ZrT Tryz.prog 27 (#[Value.pointer none]) := ⟨by kernel_rfl⟩
instance : FlT Tryz.prog 27 := ⟨by kernel_rfl⟩
instance : UT Tryz.prog 28 (TypeDesc.int IntKind.i64) := ⟨Tryz.underlying28⟩
instance : SzT Tryz.prog 28 1 := ⟨by kernel_rfl⟩
instance : ByT Tryz.prog 28 8 := ⟨by kernel_rfl⟩
instance : ZrT Tryz.prog 28 (#[Value.int .i64 0]) := ⟨by kernel_rfl⟩
instance : FlT Tryz.prog 28 := ⟨by kernel_rfl⟩
instance : UT Tryz.prog 29 (TypeDesc.tuple #[27, 28]) := ⟨Tryz.underlying29⟩
instance : SzT Tryz.prog 29 1 := ⟨by kernel_rfl⟩
instance : ByT Tryz.prog 29 0 := ⟨by kernel_rfl⟩
instance : FlT Tryz.prog 29 := ⟨by kernel_rfl⟩
instance : UT Tryz.prog 30 (TypeDesc.func #[25] #[27, 28] false) := ⟨Tryz.underlying30⟩
instance : SzT Tryz.prog 30 1 := ⟨by kernel_rfl⟩
instance : ByT Tryz.prog 30 8 := ⟨by kernel_rfl⟩
instance : ZrT Tryz.prog 30 (#[Value.nilFunc]) := ⟨by kernel_rfl⟩
instance : FlT Tryz.prog 30 := ⟨by kernel_rfl⟩
instance : UT Tryz.prog 31 (TypeDesc.slice 46) := ⟨Tryz.underlying31⟩
instance : SzT Tryz.prog 31 1 := ⟨by kernel_rfl⟩
instance : ByT Tryz.prog 31 24 := ⟨by kernel_rfl⟩
instance : ZrT Tryz.prog 31 (#[Value.slice none 0 0]) := ⟨by kernel_rfl⟩
instance : FlT Tryz.prog 31 := ⟨by kernel_rfl⟩
instance : UT Tryz.prog 32 (TypeDesc.int IntKind.u64) := ⟨Tryz.underlying32⟩
instance : SzT Tryz.prog 32 1 := ⟨by kernel_rfl⟩
instance : ByT Tryz.prog 32 8 := ⟨by kernel_rfl⟩
instance : ZrT Tryz.prog 32 (#[Value.int .u64 0]) := ⟨by kernel_rfl⟩
instance : FlT Tryz.prog 32 := ⟨by kernel_rfl⟩
instance : UT Tryz.prog 33 (TypeDesc.struct #[{ name := "Kind", type := 5, offset := 0, embedded := false, tag := "", pkgPath := "", byteOffset := 0 }, { name := "L", type := 31, offset := 1, embedded := false, tag := "", pkgPath := "", byteOffset := 8 }, { name := "Fuse", type := 3, offset := 2, embedded := false, tag := "", pkgPath := "", byteOffset := 32 }]) := ⟨Tryz.underlying33⟩
instance : SzT Tryz.prog 33 3 := ⟨by kernel_rfl⟩
instance : ByT Tryz.prog 33 40 := ⟨by kernel_rfl⟩
instance : ZrT Tryz.prog 33 (#[Value.int .u8 0, Value.slice none 0 0, Value.int .i64 0]) := ⟨by kernel_rfl⟩
instance : RwT Tryz.prog 33 3 := ⟨by kernel_rfl⟩
instance : PlT Tryz.prog 33 [(0, 1), (1, 1), (2, 1)] := ⟨by kernel_rfl⟩
instance : UT Tryz.prog 34 (TypeDesc.struct #[{ name := "Kind", type := 5, offset := 0, embedded := false, tag := "", pkgPath := "", byteOffset := 0 }, { name := "L", type := 31, offset := 1, embedded := false, tag := "", pkgPath := "", byteOffset := 8 }, { name := "Fuse", type := 3, offset := 2, embedded := false, tag := "", pkgPath := "", byteOffset := 32 }]) := ⟨Tryz.underlying34⟩
instance : SzT Tryz.prog 34 3 := ⟨by kernel_rfl⟩
instance : ByT Tryz.prog 34 40 := ⟨by kernel_rfl⟩
instance : ZrT Tryz.prog 34 (#[Value.int .u8 0, Value.slice none 0 0, Value.int .i64 0]) := ⟨by kernel_rfl⟩
instance : RwT Tryz.prog 34 3 := ⟨by kernel_rfl⟩
instance : PlT Tryz.prog 34 [(0, 1), (1, 1), (2, 1)] := ⟨by kernel_rfl⟩
instance : UT Tryz.prog 35 (TypeDesc.tuple #[3, 4]) := ⟨Tryz.underlying35⟩
instance : SzT Tryz.prog 35 1 := ⟨by kernel_rfl⟩
instance : ByT Tryz.prog 35 0 := ⟨by kernel_rfl⟩
instance : FlT Tryz.prog 35 := ⟨by kernel_rfl⟩
instance : UT Tryz.prog 36 (TypeDesc.func #[31] #[3, 4] false) := ⟨Tryz.underlying36⟩
instance : SzT Tryz.prog 36 1 := ⟨by kernel_rfl⟩
instance : ByT Tryz.prog 36 8 := ⟨by kernel_rfl⟩
instance : ZrT Tryz.prog 36 (#[Value.nilFunc]) := ⟨by kernel_rfl⟩
instance : FlT Tryz.prog 36 := ⟨by kernel_rfl⟩
instance : UT Tryz.prog 37 (TypeDesc.func #[31] #[28] true) := ⟨Tryz.underlying37⟩
instance : SzT Tryz.prog 37 1 := ⟨by kernel_rfl⟩
instance : ByT Tryz.prog 37 8 := ⟨by kernel_rfl⟩
instance : ZrT Tryz.prog 37 (#[Value.nilFunc]) := ⟨by kernel_rfl⟩
instance : FlT Tryz.prog 37 := ⟨by kernel_rfl⟩
instance : UT Tryz.prog 38 (TypeDesc.func #[31, 31] #[31] false) := ⟨Tryz.underlying38⟩
instance : SzT Tryz.prog 38 1 := ⟨by kernel_rfl⟩
instance : ByT Tryz.prog 38 8 := ⟨by kernel_rfl⟩
instance : ZrT Tryz.prog 38 (#[Value.nilFunc]) := ⟨by kernel_rfl⟩
instance : FlT Tryz.prog 38 := ⟨by kernel_rfl⟩
instance : UT Tryz.prog 39 (TypeDesc.func #[31] #[28] false) := ⟨Tryz.underlying39⟩
instance : SzT Tryz.prog 39 1 := ⟨by kernel_rfl⟩
instance : ByT Tryz.prog 39 8 := ⟨by kernel_rfl⟩
instance : ZrT Tryz.prog 39 (#[Value.nilFunc]) := ⟨by kernel_rfl⟩
instance : FlT Tryz.prog 39 := ⟨by kernel_rfl⟩
instance : UT Tryz.prog 40 (TypeDesc.func #[46] #[] false) := ⟨Tryz.underlying40⟩
instance : SzT Tryz.prog 40 1 := ⟨by kernel_rfl⟩
instance : ByT Tryz.prog 40 8 := ⟨by kernel_rfl⟩
instance : ZrT Tryz.prog 40 (#[Value.nilFunc]) := ⟨by kernel_rfl⟩
instance : FlT Tryz.prog 40 := ⟨by kernel_rfl⟩
instance : UT Tryz.prog 41 (TypeDesc.func #[31, 31] #[4] false) := ⟨Tryz.underlying41⟩
instance : SzT Tryz.prog 41 1 := ⟨by kernel_rfl⟩
instance : ByT Tryz.prog 41 8 := ⟨by kernel_rfl⟩
instance : ZrT Tryz.prog 41 (#[Value.nilFunc]) := ⟨by kernel_rfl⟩
instance : FlT Tryz.prog 41 := ⟨by kernel_rfl⟩
instance : UT Tryz.prog 42 (TypeDesc.func #[] #[31] false) := ⟨Tryz.underlying42⟩
instance : SzT Tryz.prog 42 1 := ⟨by kernel_rfl⟩
instance : ByT Tryz.prog 42 8 := ⟨by kernel_rfl⟩
instance : ZrT Tryz.prog 42 (#[Value.nilFunc]) := ⟨by kernel_rfl⟩
instance : FlT Tryz.prog 42 := ⟨by kernel_rfl⟩
instance : UT Tryz.prog 43 (TypeDesc.func #[] #[3] false) := ⟨Tryz.underlying43⟩
instance : SzT Tryz.prog 43 1 := ⟨by kernel_rfl⟩
instance : ByT Tryz.prog 43 8 := ⟨by kernel_rfl⟩
instance : ZrT Tryz.prog 43 (#[Value.nilFunc]) := ⟨by kernel_rfl⟩
instance : FlT Tryz.prog 43 := ⟨by kernel_rfl⟩
instance : UT Tryz.prog 44 (TypeDesc.func #[] #[32] false) := ⟨Tryz.underlying44⟩
instance : SzT Tryz.prog 44 1 := ⟨by kernel_rfl⟩
instance : ByT Tryz.prog 44 8 := ⟨by kernel_rfl⟩
instance : ZrT Tryz.prog 44 (#[Value.nilFunc]) := ⟨by kernel_rfl⟩
instance : FlT Tryz.prog 44 := ⟨by kernel_rfl⟩
instance : UT Tryz.prog 45 (TypeDesc.func #[5, 22] #[4] false) := ⟨Tryz.underlying45⟩
instance : SzT Tryz.prog 45 1 := ⟨by kernel_rfl⟩
instance : ByT Tryz.prog 45 8 := ⟨by kernel_rfl⟩
instance : ZrT Tryz.prog 45 (#[Value.nilFunc]) := ⟨by kernel_rfl⟩
instance : FlT Tryz.prog 45 := ⟨by kernel_rfl⟩
instance : UT Tryz.prog 46 (TypeDesc.slice 5) := ⟨Tryz.underlying46⟩
instance : SzT Tryz.prog 46 1 := ⟨by kernel_rfl⟩
instance : ByT Tryz.prog 46 24 := ⟨by kernel_rfl⟩
instance : ZrT Tryz.prog 46 (#[Value.slice none 0 0]) := ⟨by kernel_rfl⟩
instance : FlT Tryz.prog 46 := ⟨by kernel_rfl⟩
instance : UT Tryz.prog 47 (TypeDesc.func #[3] #[] false) := ⟨Tryz.underlying47⟩
instance : SzT Tryz.prog 47 1 := ⟨by kernel_rfl⟩
instance : ByT Tryz.prog 47 8 := ⟨by kernel_rfl⟩
instance : ZrT Tryz.prog 47 (#[Value.nilFunc]) := ⟨by kernel_rfl⟩
instance : FlT Tryz.prog 47 := ⟨by kernel_rfl⟩
instance : UT Tryz.prog 48 (TypeDesc.func #[22, 46] #[4] false) := ⟨Tryz.underlying48⟩
instance : SzT Tryz.prog 48 1 := ⟨by kernel_rfl⟩
instance : ByT Tryz.prog 48 8 := ⟨by kernel_rfl⟩
instance : ZrT Tryz.prog 48 (#[Value.nilFunc]) := ⟨by kernel_rfl⟩
instance : FlT Tryz.prog 48 := ⟨by kernel_rfl⟩
instance : UT Tryz.prog 49 (TypeDesc.slice 80) := ⟨Tryz.underlying49⟩
instance : SzT Tryz.prog 49 1 := ⟨by kernel_rfl⟩
instance : ByT Tryz.prog 49 24 := ⟨by kernel_rfl⟩
instance : ZrT Tryz.prog 49 (#[Value.slice none 0 0]) := ⟨by kernel_rfl⟩
instance : FlT Tryz.prog 49 := ⟨by kernel_rfl⟩
instance : UT Tryz.prog 50 (TypeDesc.map 3 80) := ⟨Tryz.underlying50⟩
instance : SzT Tryz.prog 50 1 := ⟨by kernel_rfl⟩
instance : ByT Tryz.prog 50 8 := ⟨by kernel_rfl⟩
instance : ZrT Tryz.prog 50 (#[Value.map none]) := ⟨by kernel_rfl⟩
instance : FlT Tryz.prog 50 := ⟨by kernel_rfl⟩
instance : UT Tryz.prog 51 (TypeDesc.struct #[{ name := "written", type := 49, offset := 0, embedded := false, tag := "", pkgPath := "jalousie/disk", byteOffset := 0 }, { name := "loose", type := 50, offset := 1, embedded := false, tag := "", pkgPath := "jalousie/disk", byteOffset := 24 }, { name := "fused", type := 4, offset := 2, embedded := false, tag := "", pkgPath := "jalousie/disk", byteOffset := 32 }, { name := "fuse", type := 3, offset := 3, embedded := false, tag := "", pkgPath := "jalousie/disk", byteOffset := 40 }, { name := "gone", type := 4, offset := 4, embedded := false, tag := "", pkgPath := "jalousie/disk", byteOffset := 48 }]) := ⟨Tryz.underlying51⟩
instance : SzT Tryz.prog 51 5 := ⟨by kernel_rfl⟩
instance : ByT Tryz.prog 51 56 := ⟨by kernel_rfl⟩
instance : ZrT Tryz.prog 51 (#[Value.slice none 0 0, Value.map none, Value.bool false, Value.int .i64 0, Value.bool false]) := ⟨by kernel_rfl⟩
instance : RwT Tryz.prog 51 5 := ⟨by kernel_rfl⟩
instance : PlT Tryz.prog 51 [(0, 1), (1, 1), (2, 1), (3, 1), (4, 1)] := ⟨by kernel_rfl⟩
instance : UT Tryz.prog 52 (TypeDesc.struct #[{ name := "written", type := 49, offset := 0, embedded := false, tag := "", pkgPath := "jalousie/disk", byteOffset := 0 }, { name := "loose", type := 50, offset := 1, embedded := false, tag := "", pkgPath := "jalousie/disk", byteOffset := 24 }, { name := "fused", type := 4, offset := 2, embedded := false, tag := "", pkgPath := "jalousie/disk", byteOffset := 32 }, { name := "fuse", type := 3, offset := 3, embedded := false, tag := "", pkgPath := "jalousie/disk", byteOffset := 40 }, { name := "gone", type := 4, offset := 4, embedded := false, tag := "", pkgPath := "jalousie/disk", byteOffset := 48 }]) := ⟨Tryz.underlying52⟩
instance : SzT Tryz.prog 52 5 := ⟨by kernel_rfl⟩
instance : ByT Tryz.prog 52 56 := ⟨by kernel_rfl⟩
instance : ZrT Tryz.prog 52 (#[Value.slice none 0 0, Value.map none, Value.bool false, Value.int .i64 0, Value.bool false]) := ⟨by kernel_rfl⟩
instance : RwT Tryz.prog 52 5 := ⟨by kernel_rfl⟩
instance : PlT Tryz.prog 52 [(0, 1), (1, 1), (2, 1), (3, 1), (4, 1)] := ⟨by kernel_rfl⟩
instance : UT Tryz.prog 53 (TypeDesc.pointer 88) := ⟨Tryz.underlying53⟩
instance : SzT Tryz.prog 53 1 := ⟨by kernel_rfl⟩
instance : ByT Tryz.prog 53 8 := ⟨by kernel_rfl⟩
instance : ZrT Tryz.prog 53 (#[Value.pointer none]) := ⟨by kernel_rfl⟩
instance : FlT Tryz.prog 53 := ⟨by kernel_rfl⟩
instance : UT Tryz.prog 54 (TypeDesc.array 2 53) := ⟨Tryz.underlying54⟩
instance : SzT Tryz.prog 54 2 := ⟨by kernel_rfl⟩
instance : ByT Tryz.prog 54 16 := ⟨by kernel_rfl⟩
instance : ZrT Tryz.prog 54 (#[Value.pointer none, Value.pointer none]) := ⟨by kernel_rfl⟩
instance : RwT Tryz.prog 54 2 := ⟨by kernel_rfl⟩
instance : UT Tryz.prog 55 (TypeDesc.struct #[{ name := "logs", type := 54, offset := 0, embedded := false, tag := "", pkgPath := "jalousie/store", byteOffset := 0 }, { name := "at", type := 3, offset := 2, embedded := false, tag := "", pkgPath := "jalousie/store", byteOffset := 16 }]) := ⟨Tryz.underlying55⟩
instance : SzT Tryz.prog 55 3 := ⟨by kernel_rfl⟩
instance : ByT Tryz.prog 55 24 := ⟨by kernel_rfl⟩
instance : ZrT Tryz.prog 55 (#[Value.pointer none, Value.pointer none, Value.int .i64 0]) := ⟨by kernel_rfl⟩
instance : RwT Tryz.prog 55 3 := ⟨by kernel_rfl⟩
instance : PlT Tryz.prog 55 [(0, 2), (2, 1)] := ⟨by kernel_rfl⟩
instance : UT Tryz.prog 56 (TypeDesc.struct #[{ name := "logs", type := 54, offset := 0, embedded := false, tag := "", pkgPath := "jalousie/store", byteOffset := 0 }, { name := "at", type := 3, offset := 2, embedded := false, tag := "", pkgPath := "jalousie/store", byteOffset := 16 }]) := ⟨Tryz.underlying56⟩
instance : SzT Tryz.prog 56 3 := ⟨by kernel_rfl⟩
instance : ByT Tryz.prog 56 24 := ⟨by kernel_rfl⟩
instance : ZrT Tryz.prog 56 (#[Value.pointer none, Value.pointer none, Value.int .i64 0]) := ⟨by kernel_rfl⟩
instance : RwT Tryz.prog 56 3 := ⟨by kernel_rfl⟩
instance : PlT Tryz.prog 56 [(0, 2), (2, 1)] := ⟨by kernel_rfl⟩
instance : UT Tryz.prog 57 (TypeDesc.tuple #[53, 28]) := ⟨Tryz.underlying57⟩
instance : SzT Tryz.prog 57 1 := ⟨by kernel_rfl⟩
instance : ByT Tryz.prog 57 0 := ⟨by kernel_rfl⟩
instance : FlT Tryz.prog 57 := ⟨by kernel_rfl⟩
instance : UT Tryz.prog 58 (TypeDesc.func #[25, 3, 3] #[53, 28] false) := ⟨Tryz.underlying58⟩
instance : SzT Tryz.prog 58 1 := ⟨by kernel_rfl⟩
instance : ByT Tryz.prog 58 8 := ⟨by kernel_rfl⟩
instance : ZrT Tryz.prog 58 (#[Value.nilFunc]) := ⟨by kernel_rfl⟩
instance : FlT Tryz.prog 58 := ⟨by kernel_rfl⟩
instance : UT Tryz.prog 59 (TypeDesc.interface #[("Error", 165)]) := ⟨Tryz.underlying59⟩
instance : SzT Tryz.prog 59 1 := ⟨by kernel_rfl⟩
instance : ByT Tryz.prog 59 16 := ⟨by kernel_rfl⟩
instance : ZrT Tryz.prog 59 (#[Value.nilIface]) := ⟨by kernel_rfl⟩
instance : FlT Tryz.prog 59 := ⟨by kernel_rfl⟩
instance : UT Tryz.prog 60 (TypeDesc.interface #[("Error", 165)]) := ⟨Tryz.underlying60⟩
instance : SzT Tryz.prog 60 1 := ⟨by kernel_rfl⟩
instance : ByT Tryz.prog 60 16 := ⟨by kernel_rfl⟩
instance : ZrT Tryz.prog 60 (#[Value.nilIface]) := ⟨by kernel_rfl⟩
instance : FlT Tryz.prog 60 := ⟨by kernel_rfl⟩
instance : UT Tryz.prog 61 (TypeDesc.func #[9, 28] #[60] false) := ⟨Tryz.underlying61⟩
instance : SzT Tryz.prog 61 1 := ⟨by kernel_rfl⟩
instance : ByT Tryz.prog 61 8 := ⟨by kernel_rfl⟩
instance : ZrT Tryz.prog 61 (#[Value.nilFunc]) := ⟨by kernel_rfl⟩
instance : FlT Tryz.prog 61 := ⟨by kernel_rfl⟩
instance : UT Tryz.prog 62 (TypeDesc.func #[60] #[28] false) := ⟨Tryz.underlying62⟩
instance : SzT Tryz.prog 62 1 := ⟨by kernel_rfl⟩
instance : ByT Tryz.prog 62 8 := ⟨by kernel_rfl⟩
instance : ZrT Tryz.prog 62 (#[Value.nilFunc]) := ⟨by kernel_rfl⟩
instance : FlT Tryz.prog 62 := ⟨by kernel_rfl⟩
instance : UT Tryz.prog 63 (TypeDesc.func #[53] #[32] false) := ⟨Tryz.underlying63⟩
instance : SzT Tryz.prog 63 1 := ⟨by kernel_rfl⟩
instance : ByT Tryz.prog 63 8 := ⟨by kernel_rfl⟩
instance : ZrT Tryz.prog 63 (#[Value.nilFunc]) := ⟨by kernel_rfl⟩
instance : FlT Tryz.prog 63 := ⟨by kernel_rfl⟩
instance : UT Tryz.prog 64 (TypeDesc.func #[46] #[3] false) := ⟨Tryz.underlying64⟩
instance : SzT Tryz.prog 64 1 := ⟨by kernel_rfl⟩
instance : ByT Tryz.prog 64 8 := ⟨by kernel_rfl⟩
instance : ZrT Tryz.prog 64 (#[Value.nilFunc]) := ⟨by kernel_rfl⟩
instance : FlT Tryz.prog 64 := ⟨by kernel_rfl⟩
instance : UT Tryz.prog 65 (TypeDesc.tuple #[46, 60]) := ⟨Tryz.underlying65⟩
instance : SzT Tryz.prog 65 1 := ⟨by kernel_rfl⟩
instance : ByT Tryz.prog 65 0 := ⟨by kernel_rfl⟩
instance : FlT Tryz.prog 65 := ⟨by kernel_rfl⟩
instance : UT Tryz.prog 66 (TypeDesc.func #[31, 3] #[46, 60] false) := ⟨Tryz.underlying66⟩
instance : SzT Tryz.prog 66 1 := ⟨by kernel_rfl⟩
instance : ByT Tryz.prog 66 8 := ⟨by kernel_rfl⟩
instance : ZrT Tryz.prog 66 (#[Value.nilFunc]) := ⟨by kernel_rfl⟩
instance : FlT Tryz.prog 66 := ⟨by kernel_rfl⟩
instance : UT Tryz.prog 67 (TypeDesc.func #[] #[53] false) := ⟨Tryz.underlying67⟩
instance : SzT Tryz.prog 67 1 := ⟨by kernel_rfl⟩
instance : ByT Tryz.prog 67 8 := ⟨by kernel_rfl⟩
instance : ZrT Tryz.prog 67 (#[Value.nilFunc]) := ⟨by kernel_rfl⟩
instance : FlT Tryz.prog 67 := ⟨by kernel_rfl⟩
instance : UT Tryz.prog 68 (TypeDesc.func #[46, 69] #[28] false) := ⟨Tryz.underlying68⟩
instance : SzT Tryz.prog 68 1 := ⟨by kernel_rfl⟩
instance : ByT Tryz.prog 68 8 := ⟨by kernel_rfl⟩
instance : ZrT Tryz.prog 68 (#[Value.nilFunc]) := ⟨by kernel_rfl⟩
instance : FlT Tryz.prog 68 := ⟨by kernel_rfl⟩
instance : UT Tryz.prog 69 (TypeDesc.array 16 5) := ⟨Tryz.underlying69⟩
instance : SzT Tryz.prog 69 16 := ⟨by kernel_rfl⟩
instance : ByT Tryz.prog 69 16 := ⟨by kernel_rfl⟩
instance : ZrT Tryz.prog 69 (#[Value.int .u8 0, Value.int .u8 0, Value.int .u8 0, Value.int .u8 0, Value.int .u8 0, Value.int .u8 0, Value.int .u8 0, Value.int .u8 0, Value.int .u8 0, Value.int .u8 0, Value.int .u8 0, Value.int .u8 0, Value.int .u8 0, Value.int .u8 0, Value.int .u8 0, Value.int .u8 0]) := ⟨by kernel_rfl⟩
instance : RwT Tryz.prog 69 16 := ⟨by kernel_rfl⟩
instance : UT Tryz.prog 70 (TypeDesc.func #[] #[69] false) := ⟨Tryz.underlying70⟩
instance : SzT Tryz.prog 70 1 := ⟨by kernel_rfl⟩
instance : ByT Tryz.prog 70 8 := ⟨by kernel_rfl⟩
instance : ZrT Tryz.prog 70 (#[Value.nilFunc]) := ⟨by kernel_rfl⟩
instance : FlT Tryz.prog 70 := ⟨by kernel_rfl⟩
instance : UT Tryz.prog 71 (TypeDesc.func #[] #[46] false) := ⟨Tryz.underlying71⟩
instance : SzT Tryz.prog 71 1 := ⟨by kernel_rfl⟩
instance : ByT Tryz.prog 71 8 := ⟨by kernel_rfl⟩
instance : ZrT Tryz.prog 71 (#[Value.nilFunc]) := ⟨by kernel_rfl⟩
instance : FlT Tryz.prog 71 := ⟨by kernel_rfl⟩
instance : UT Tryz.prog 72 (TypeDesc.func #[] #[28] false) := ⟨Tryz.underlying72⟩
instance : SzT Tryz.prog 72 1 := ⟨by kernel_rfl⟩
instance : ByT Tryz.prog 72 8 := ⟨by kernel_rfl⟩
instance : ZrT Tryz.prog 72 (#[Value.nilFunc]) := ⟨by kernel_rfl⟩
instance : FlT Tryz.prog 72 := ⟨by kernel_rfl⟩
instance : UT Tryz.prog 73 (TypeDesc.func #[32] #[69] false) := ⟨Tryz.underlying73⟩
instance : SzT Tryz.prog 73 1 := ⟨by kernel_rfl⟩
instance : ByT Tryz.prog 73 8 := ⟨by kernel_rfl⟩
instance : ZrT Tryz.prog 73 (#[Value.nilFunc]) := ⟨by kernel_rfl⟩
instance : FlT Tryz.prog 73 := ⟨by kernel_rfl⟩
instance : UT Tryz.prog 74 (TypeDesc.slice 3) := ⟨Tryz.underlying74⟩
instance : SzT Tryz.prog 74 1 := ⟨by kernel_rfl⟩
instance : ByT Tryz.prog 74 24 := ⟨by kernel_rfl⟩
instance : ZrT Tryz.prog 74 (#[Value.slice none 0 0]) := ⟨by kernel_rfl⟩
instance : FlT Tryz.prog 74 := ⟨by kernel_rfl⟩
instance : UT Tryz.prog 75 (TypeDesc.func #[77] #[74] false) := ⟨Tryz.underlying75⟩
instance : SzT Tryz.prog 75 1 := ⟨by kernel_rfl⟩
instance : ByT Tryz.prog 75 8 := ⟨by kernel_rfl⟩
instance : ZrT Tryz.prog 75 (#[Value.nilFunc]) := ⟨by kernel_rfl⟩
instance : FlT Tryz.prog 75 := ⟨by kernel_rfl⟩
instance : UT Tryz.prog 76 (TypeDesc.func #[105] #[] false) := ⟨Tryz.underlying76⟩
instance : SzT Tryz.prog 76 1 := ⟨by kernel_rfl⟩
instance : ByT Tryz.prog 76 8 := ⟨by kernel_rfl⟩
instance : ZrT Tryz.prog 76 (#[Value.nilFunc]) := ⟨by kernel_rfl⟩
instance : FlT Tryz.prog 76 := ⟨by kernel_rfl⟩
instance : UT Tryz.prog 77 (TypeDesc.func #[105] #[] false) := ⟨Tryz.underlying77⟩
instance : SzT Tryz.prog 77 1 := ⟨by kernel_rfl⟩
instance : ByT Tryz.prog 77 8 := ⟨by kernel_rfl⟩
instance : ZrT Tryz.prog 77 (#[Value.nilFunc]) := ⟨by kernel_rfl⟩
instance : FlT Tryz.prog 77 := ⟨by kernel_rfl⟩
instance : UT Tryz.prog 78 (TypeDesc.func #[50] #[77] false) := ⟨Tryz.underlying78⟩
instance : SzT Tryz.prog 78 1 := ⟨by kernel_rfl⟩
instance : ByT Tryz.prog 78 8 := ⟨by kernel_rfl⟩
instance : ZrT Tryz.prog 78 (#[Value.nilFunc]) := ⟨by kernel_rfl⟩
instance : FlT Tryz.prog 78 := ⟨by kernel_rfl⟩
instance : UT Tryz.prog 79 (TypeDesc.array 64 5) := ⟨Tryz.underlying79⟩
instance : SzT Tryz.prog 79 64 := ⟨by kernel_rfl⟩
instance : ByT Tryz.prog 79 64 := ⟨by kernel_rfl⟩
instance : ZrT Tryz.prog 79 ((List.replicate 64 (Value.int .u8 0)).toArray) := ⟨by kernel_rfl⟩
instance : RwT Tryz.prog 79 64 := ⟨by kernel_rfl⟩
instance : UT Tryz.prog 80 (TypeDesc.array 64 5) := ⟨Tryz.underlying80⟩
instance : SzT Tryz.prog 80 64 := ⟨by kernel_rfl⟩
instance : ByT Tryz.prog 80 64 := ⟨by kernel_rfl⟩
instance : ZrT Tryz.prog 80 ((List.replicate 64 (Value.int .u8 0)).toArray) := ⟨by kernel_rfl⟩
instance : RwT Tryz.prog 80 64 := ⟨by kernel_rfl⟩
instance : UT Tryz.prog 81 (TypeDesc.func #[80, 80, 5] #[80] false) := ⟨Tryz.underlying81⟩
instance : SzT Tryz.prog 81 1 := ⟨by kernel_rfl⟩
instance : ByT Tryz.prog 81 8 := ⟨by kernel_rfl⟩
instance : ZrT Tryz.prog 81 (#[Value.nilFunc]) := ⟨by kernel_rfl⟩
instance : FlT Tryz.prog 81 := ⟨by kernel_rfl⟩
instance : UT Tryz.prog 82 (TypeDesc.pointer 107) := ⟨Tryz.underlying82⟩
instance : SzT Tryz.prog 82 1 := ⟨by kernel_rfl⟩
instance : ByT Tryz.prog 82 8 := ⟨by kernel_rfl⟩
instance : ZrT Tryz.prog 82 (#[Value.pointer none]) := ⟨by kernel_rfl⟩
instance : FlT Tryz.prog 82 := ⟨by kernel_rfl⟩
instance : UT Tryz.prog 83 (TypeDesc.func #[46] #[82] false) := ⟨Tryz.underlying83⟩
instance : SzT Tryz.prog 83 1 := ⟨by kernel_rfl⟩
instance : ByT Tryz.prog 83 8 := ⟨by kernel_rfl⟩
instance : ZrT Tryz.prog 83 (#[Value.nilFunc]) := ⟨by kernel_rfl⟩
instance : FlT Tryz.prog 83 := ⟨by kernel_rfl⟩
instance : UT Tryz.prog 84 (TypeDesc.func #[3] #[46] false) := ⟨Tryz.underlying84⟩
instance : SzT Tryz.prog 84 1 := ⟨by kernel_rfl⟩
instance : ByT Tryz.prog 84 8 := ⟨by kernel_rfl⟩
instance : ZrT Tryz.prog 84 (#[Value.nilFunc]) := ⟨by kernel_rfl⟩
instance : FlT Tryz.prog 84 := ⟨by kernel_rfl⟩
instance : UT Tryz.prog 85 (TypeDesc.struct #[{ name := "serial", type := 32, offset := 0, embedded := false, tag := "", pkgPath := "jalousie/cells", byteOffset := 0 }, { name := "count", type := 32, offset := 1, embedded := false, tag := "", pkgPath := "jalousie/cells", byteOffset := 8 }, { name := "note", type := 69, offset := 2, embedded := false, tag := "", pkgPath := "jalousie/cells", byteOffset := 16 }]) := ⟨Tryz.underlying85⟩
instance : SzT Tryz.prog 85 18 := ⟨by kernel_rfl⟩
instance : ByT Tryz.prog 85 32 := ⟨by kernel_rfl⟩
instance : ZrT Tryz.prog 85 (#[Value.int .u64 0, Value.int .u64 0, Value.int .u8 0, Value.int .u8 0, Value.int .u8 0, Value.int .u8 0, Value.int .u8 0, Value.int .u8 0, Value.int .u8 0, Value.int .u8 0, Value.int .u8 0, Value.int .u8 0, Value.int .u8 0, Value.int .u8 0, Value.int .u8 0, Value.int .u8 0, Value.int .u8 0, Value.int .u8 0]) := ⟨by kernel_rfl⟩
instance : RwT Tryz.prog 85 18 := ⟨by kernel_rfl⟩
instance : PlT Tryz.prog 85 [(0, 1), (1, 1), (2, 16)] := ⟨by kernel_rfl⟩
instance : UT Tryz.prog 86 (TypeDesc.struct #[{ name := "serial", type := 32, offset := 0, embedded := false, tag := "", pkgPath := "jalousie/cells", byteOffset := 0 }, { name := "count", type := 32, offset := 1, embedded := false, tag := "", pkgPath := "jalousie/cells", byteOffset := 8 }, { name := "note", type := 69, offset := 2, embedded := false, tag := "", pkgPath := "jalousie/cells", byteOffset := 16 }]) := ⟨Tryz.underlying86⟩
instance : SzT Tryz.prog 86 18 := ⟨by kernel_rfl⟩
instance : ByT Tryz.prog 86 32 := ⟨by kernel_rfl⟩
instance : ZrT Tryz.prog 86 (#[Value.int .u64 0, Value.int .u64 0, Value.int .u8 0, Value.int .u8 0, Value.int .u8 0, Value.int .u8 0, Value.int .u8 0, Value.int .u8 0, Value.int .u8 0, Value.int .u8 0, Value.int .u8 0, Value.int .u8 0, Value.int .u8 0, Value.int .u8 0, Value.int .u8 0, Value.int .u8 0, Value.int .u8 0, Value.int .u8 0]) := ⟨by kernel_rfl⟩
instance : RwT Tryz.prog 86 18 := ⟨by kernel_rfl⟩
instance : PlT Tryz.prog 86 [(0, 1), (1, 1), (2, 16)] := ⟨by kernel_rfl⟩
instance : UT Tryz.prog 87 (TypeDesc.struct #[{ name := "disk", type := 25, offset := 0, embedded := false, tag := "", pkgPath := "jalousie/cells", byteOffset := 0 }, { name := "from", type := 3, offset := 1, embedded := false, tag := "", pkgPath := "jalousie/cells", byteOffset := 8 }, { name := "room", type := 3, offset := 2, embedded := false, tag := "", pkgPath := "jalousie/cells", byteOffset := 16 }, { name := "state", type := 86, offset := 3, embedded := false, tag := "", pkgPath := "jalousie/cells", byteOffset := 24 }, { name := "bytes", type := 46, offset := 21, embedded := false, tag := "", pkgPath := "jalousie/cells", byteOffset := 56 }, { name := "over", type := 4, offset := 22, embedded := false, tag := "", pkgPath := "jalousie/cells", byteOffset := 80 }]) := ⟨Tryz.underlying87⟩
instance : SzT Tryz.prog 87 23 := ⟨by kernel_rfl⟩
instance : ByT Tryz.prog 87 88 := ⟨by kernel_rfl⟩
instance : ZrT Tryz.prog 87 (#[Value.pointer none, Value.int .i64 0, Value.int .i64 0, Value.int .u64 0, Value.int .u64 0, Value.int .u8 0, Value.int .u8 0, Value.int .u8 0, Value.int .u8 0, Value.int .u8 0, Value.int .u8 0, Value.int .u8 0, Value.int .u8 0, Value.int .u8 0, Value.int .u8 0, Value.int .u8 0, Value.int .u8 0, Value.int .u8 0, Value.int .u8 0, Value.int .u8 0, Value.int .u8 0, Value.slice none 0 0, Value.bool false]) := ⟨by kernel_rfl⟩
instance : RwT Tryz.prog 87 23 := ⟨by kernel_rfl⟩
instance : PlT Tryz.prog 87 [(0, 1), (1, 1), (2, 1), (3, 18), (21, 1), (22, 1)] := ⟨by kernel_rfl⟩
instance : UT Tryz.prog 88 (TypeDesc.struct #[{ name := "disk", type := 25, offset := 0, embedded := false, tag := "", pkgPath := "jalousie/cells", byteOffset := 0 }, { name := "from", type := 3, offset := 1, embedded := false, tag := "", pkgPath := "jalousie/cells", byteOffset := 8 }, { name := "room", type := 3, offset := 2, embedded := false, tag := "", pkgPath := "jalousie/cells", byteOffset := 16 }, { name := "state", type := 86, offset := 3, embedded := false, tag := "", pkgPath := "jalousie/cells", byteOffset := 24 }, { name := "bytes", type := 46, offset := 21, embedded := false, tag := "", pkgPath := "jalousie/cells", byteOffset := 56 }, { name := "over", type := 4, offset := 22, embedded := false, tag := "", pkgPath := "jalousie/cells", byteOffset := 80 }]) := ⟨Tryz.underlying88⟩
instance : SzT Tryz.prog 88 23 := ⟨by kernel_rfl⟩
instance : ByT Tryz.prog 88 88 := ⟨by kernel_rfl⟩
instance : ZrT Tryz.prog 88 (#[Value.pointer none, Value.int .i64 0, Value.int .i64 0, Value.int .u64 0, Value.int .u64 0, Value.int .u8 0, Value.int .u8 0, Value.int .u8 0, Value.int .u8 0, Value.int .u8 0, Value.int .u8 0, Value.int .u8 0, Value.int .u8 0, Value.int .u8 0, Value.int .u8 0, Value.int .u8 0, Value.int .u8 0, Value.int .u8 0, Value.int .u8 0, Value.int .u8 0, Value.int .u8 0, Value.slice none 0 0, Value.bool false]) := ⟨by kernel_rfl⟩
instance : RwT Tryz.prog 88 23 := ⟨by kernel_rfl⟩
instance : PlT Tryz.prog 88 [(0, 1), (1, 1), (2, 1), (3, 18), (21, 1), (22, 1)] := ⟨by kernel_rfl⟩
instance : UT Tryz.prog 89 (TypeDesc.pointer 91) := ⟨Tryz.underlying89⟩
instance : SzT Tryz.prog 89 1 := ⟨by kernel_rfl⟩
instance : ByT Tryz.prog 89 8 := ⟨by kernel_rfl⟩
instance : ZrT Tryz.prog 89 (#[Value.pointer none]) := ⟨by kernel_rfl⟩
instance : FlT Tryz.prog 89 := ⟨by kernel_rfl⟩
instance : UT Tryz.prog 90 (TypeDesc.struct #[{ name := "doing", type := 9, offset := 0, embedded := false, tag := "", pkgPath := "jalousie/store", byteOffset := 0 }, { name := "fault", type := 60, offset := 1, embedded := false, tag := "", pkgPath := "jalousie/store", byteOffset := 16 }]) := ⟨Tryz.underlying90⟩
instance : SzT Tryz.prog 90 2 := ⟨by kernel_rfl⟩
instance : ByT Tryz.prog 90 32 := ⟨by kernel_rfl⟩
instance : ZrT Tryz.prog 90 (#[Value.string ByteArray.empty, Value.nilIface]) := ⟨by kernel_rfl⟩
instance : RwT Tryz.prog 90 2 := ⟨by kernel_rfl⟩
instance : PlT Tryz.prog 90 [(0, 1), (1, 1)] := ⟨by kernel_rfl⟩
instance : UT Tryz.prog 91 (TypeDesc.struct #[{ name := "doing", type := 9, offset := 0, embedded := false, tag := "", pkgPath := "jalousie/store", byteOffset := 0 }, { name := "fault", type := 60, offset := 1, embedded := false, tag := "", pkgPath := "jalousie/store", byteOffset := 16 }]) := ⟨Tryz.underlying91⟩
instance : SzT Tryz.prog 91 2 := ⟨by kernel_rfl⟩
instance : ByT Tryz.prog 91 32 := ⟨by kernel_rfl⟩
instance : ZrT Tryz.prog 91 (#[Value.string ByteArray.empty, Value.nilIface]) := ⟨by kernel_rfl⟩
instance : RwT Tryz.prog 91 2 := ⟨by kernel_rfl⟩
instance : PlT Tryz.prog 91 [(0, 1), (1, 1)] := ⟨by kernel_rfl⟩
instance : UT Tryz.prog 92 (TypeDesc.func #[60, 60] #[4] false) := ⟨Tryz.underlying92⟩
instance : SzT Tryz.prog 92 1 := ⟨by kernel_rfl⟩
instance : ByT Tryz.prog 92 8 := ⟨by kernel_rfl⟩
instance : ZrT Tryz.prog 92 (#[Value.nilFunc]) := ⟨by kernel_rfl⟩
instance : FlT Tryz.prog 92 := ⟨by kernel_rfl⟩
instance : UT Tryz.prog 93 (TypeDesc.int IntKind.u64) := ⟨Tryz.underlying93⟩
instance : SzT Tryz.prog 93 1 := ⟨by kernel_rfl⟩
instance : ByT Tryz.prog 93 8 := ⟨by kernel_rfl⟩
instance : ZrT Tryz.prog 93 (#[Value.int .u64 0]) := ⟨by kernel_rfl⟩
instance : FlT Tryz.prog 93 := ⟨by kernel_rfl⟩
instance : UT Tryz.prog 94 (TypeDesc.func #[32] #[46] false) := ⟨Tryz.underlying94⟩
instance : SzT Tryz.prog 94 1 := ⟨by kernel_rfl⟩
instance : ByT Tryz.prog 94 8 := ⟨by kernel_rfl⟩
instance : ZrT Tryz.prog 94 (#[Value.nilFunc]) := ⟨by kernel_rfl⟩
instance : FlT Tryz.prog 94 := ⟨by kernel_rfl⟩
instance : UT Tryz.prog 95 (TypeDesc.struct #[{ name := "b", type := 46, offset := 0, embedded := false, tag := "", pkgPath := "jalousie/pack", byteOffset := 0 }]) := ⟨Tryz.underlying95⟩
instance : SzT Tryz.prog 95 1 := ⟨by kernel_rfl⟩
instance : ByT Tryz.prog 95 24 := ⟨by kernel_rfl⟩
instance : ZrT Tryz.prog 95 (#[Value.slice none 0 0]) := ⟨by kernel_rfl⟩
instance : RwT Tryz.prog 95 1 := ⟨by kernel_rfl⟩
instance : PlT Tryz.prog 95 [(0, 1)] := ⟨by kernel_rfl⟩
instance : UT Tryz.prog 96 (TypeDesc.struct #[{ name := "b", type := 46, offset := 0, embedded := false, tag := "", pkgPath := "jalousie/pack", byteOffset := 0 }]) := ⟨Tryz.underlying96⟩
instance : SzT Tryz.prog 96 1 := ⟨by kernel_rfl⟩
instance : ByT Tryz.prog 96 24 := ⟨by kernel_rfl⟩
instance : ZrT Tryz.prog 96 (#[Value.slice none 0 0]) := ⟨by kernel_rfl⟩
instance : RwT Tryz.prog 96 1 := ⟨by kernel_rfl⟩
instance : PlT Tryz.prog 96 [(0, 1)] := ⟨by kernel_rfl⟩
instance : UT Tryz.prog 97 (TypeDesc.struct #[{ name := "grown", type := 96, offset := 0, embedded := true, tag := "", pkgPath := "jalousie/pack", byteOffset := 0 }, { name := "long", type := 4, offset := 1, embedded := false, tag := "", pkgPath := "jalousie/pack", byteOffset := 24 }]) := ⟨Tryz.underlying97⟩
instance : SzT Tryz.prog 97 2 := ⟨by kernel_rfl⟩
instance : ByT Tryz.prog 97 32 := ⟨by kernel_rfl⟩
instance : ZrT Tryz.prog 97 (#[Value.slice none 0 0, Value.bool false]) := ⟨by kernel_rfl⟩
instance : RwT Tryz.prog 97 2 := ⟨by kernel_rfl⟩
instance : PlT Tryz.prog 97 [(0, 1), (1, 1)] := ⟨by kernel_rfl⟩
instance : UT Tryz.prog 98 (TypeDesc.struct #[{ name := "grown", type := 96, offset := 0, embedded := true, tag := "", pkgPath := "jalousie/pack", byteOffset := 0 }, { name := "long", type := 4, offset := 1, embedded := false, tag := "", pkgPath := "jalousie/pack", byteOffset := 24 }]) := ⟨Tryz.underlying98⟩
instance : SzT Tryz.prog 98 2 := ⟨by kernel_rfl⟩
instance : ByT Tryz.prog 98 32 := ⟨by kernel_rfl⟩
instance : ZrT Tryz.prog 98 (#[Value.slice none 0 0, Value.bool false]) := ⟨by kernel_rfl⟩
instance : RwT Tryz.prog 98 2 := ⟨by kernel_rfl⟩
instance : PlT Tryz.prog 98 [(0, 1), (1, 1)] := ⟨by kernel_rfl⟩
instance : UT Tryz.prog 99 (TypeDesc.tuple #[46, 28]) := ⟨Tryz.underlying99⟩
instance : SzT Tryz.prog 99 1 := ⟨by kernel_rfl⟩
instance : ByT Tryz.prog 99 0 := ⟨by kernel_rfl⟩
instance : FlT Tryz.prog 99 := ⟨by kernel_rfl⟩
instance : UT Tryz.prog 100 (TypeDesc.func #[] #[46, 28] false) := ⟨Tryz.underlying100⟩
instance : SzT Tryz.prog 100 1 := ⟨by kernel_rfl⟩
instance : ByT Tryz.prog 100 8 := ⟨by kernel_rfl⟩
instance : ZrT Tryz.prog 100 (#[Value.nilFunc]) := ⟨by kernel_rfl⟩
instance : FlT Tryz.prog 100 := ⟨by kernel_rfl⟩
instance : UT Tryz.prog 101 (TypeDesc.func #[3] #[53] false) := ⟨Tryz.underlying101⟩
instance : SzT Tryz.prog 101 1 := ⟨by kernel_rfl⟩
instance : ByT Tryz.prog 101 8 := ⟨by kernel_rfl⟩
instance : ZrT Tryz.prog 101 (#[Value.nilFunc]) := ⟨by kernel_rfl⟩
instance : FlT Tryz.prog 101 := ⟨by kernel_rfl⟩
instance : UT Tryz.prog 102 (TypeDesc.func #[46] #[28] false) := ⟨Tryz.underlying102⟩
instance : SzT Tryz.prog 102 1 := ⟨by kernel_rfl⟩
instance : ByT Tryz.prog 102 8 := ⟨by kernel_rfl⟩
instance : ZrT Tryz.prog 102 (#[Value.nilFunc]) := ⟨by kernel_rfl⟩
instance : FlT Tryz.prog 102 := ⟨by kernel_rfl⟩
instance : UT Tryz.prog 103 (TypeDesc.func #[46] #[46] false) := ⟨Tryz.underlying103⟩
instance : SzT Tryz.prog 103 1 := ⟨by kernel_rfl⟩
instance : ByT Tryz.prog 103 8 := ⟨by kernel_rfl⟩
instance : ZrT Tryz.prog 103 (#[Value.nilFunc]) := ⟨by kernel_rfl⟩
instance : FlT Tryz.prog 103 := ⟨by kernel_rfl⟩
instance : UT Tryz.prog 104 (TypeDesc.func #[74] #[] false) := ⟨Tryz.underlying104⟩
instance : SzT Tryz.prog 104 1 := ⟨by kernel_rfl⟩
instance : ByT Tryz.prog 104 8 := ⟨by kernel_rfl⟩
instance : ZrT Tryz.prog 104 (#[Value.nilFunc]) := ⟨by kernel_rfl⟩
instance : FlT Tryz.prog 104 := ⟨by kernel_rfl⟩
instance : UT Tryz.prog 105 (TypeDesc.func #[3] #[4] false) := ⟨Tryz.underlying105⟩
instance : SzT Tryz.prog 105 1 := ⟨by kernel_rfl⟩
instance : ByT Tryz.prog 105 8 := ⟨by kernel_rfl⟩
instance : ZrT Tryz.prog 105 (#[Value.nilFunc]) := ⟨by kernel_rfl⟩
instance : FlT Tryz.prog 105 := ⟨by kernel_rfl⟩
instance : UT Tryz.prog 106 (TypeDesc.struct #[{ name := "left", type := 46, offset := 0, embedded := false, tag := "", pkgPath := "jalousie/pack", byteOffset := 0 }, { name := "bad", type := 4, offset := 1, embedded := false, tag := "", pkgPath := "jalousie/pack", byteOffset := 24 }]) := ⟨Tryz.underlying106⟩
instance : SzT Tryz.prog 106 2 := ⟨by kernel_rfl⟩
instance : ByT Tryz.prog 106 32 := ⟨by kernel_rfl⟩
instance : ZrT Tryz.prog 106 (#[Value.slice none 0 0, Value.bool false]) := ⟨by kernel_rfl⟩
instance : RwT Tryz.prog 106 2 := ⟨by kernel_rfl⟩
instance : PlT Tryz.prog 106 [(0, 1), (1, 1)] := ⟨by kernel_rfl⟩
instance : UT Tryz.prog 107 (TypeDesc.struct #[{ name := "left", type := 46, offset := 0, embedded := false, tag := "", pkgPath := "jalousie/pack", byteOffset := 0 }, { name := "bad", type := 4, offset := 1, embedded := false, tag := "", pkgPath := "jalousie/pack", byteOffset := 24 }]) := ⟨Tryz.underlying107⟩
instance : SzT Tryz.prog 107 2 := ⟨by kernel_rfl⟩
instance : ByT Tryz.prog 107 32 := ⟨by kernel_rfl⟩
instance : ZrT Tryz.prog 107 (#[Value.slice none 0 0, Value.bool false]) := ⟨by kernel_rfl⟩
instance : RwT Tryz.prog 107 2 := ⟨by kernel_rfl⟩
instance : PlT Tryz.prog 107 [(0, 1), (1, 1)] := ⟨by kernel_rfl⟩
instance : UT Tryz.prog 108 (TypeDesc.tuple #[32, 3]) := ⟨Tryz.underlying108⟩
instance : SzT Tryz.prog 108 1 := ⟨by kernel_rfl⟩
instance : ByT Tryz.prog 108 0 := ⟨by kernel_rfl⟩
instance : FlT Tryz.prog 108 := ⟨by kernel_rfl⟩
instance : UT Tryz.prog 109 (TypeDesc.func #[] #[32, 3] false) := ⟨Tryz.underlying109⟩
instance : SzT Tryz.prog 109 1 := ⟨by kernel_rfl⟩
instance : ByT Tryz.prog 109 8 := ⟨by kernel_rfl⟩
instance : ZrT Tryz.prog 109 (#[Value.nilFunc]) := ⟨by kernel_rfl⟩
instance : FlT Tryz.prog 109 := ⟨by kernel_rfl⟩
instance : UT Tryz.prog 110 (TypeDesc.func #[3] #[46, 28] false) := ⟨Tryz.underlying110⟩
instance : SzT Tryz.prog 110 1 := ⟨by kernel_rfl⟩
instance : ByT Tryz.prog 110 8 := ⟨by kernel_rfl⟩
instance : ZrT Tryz.prog 110 (#[Value.nilFunc]) := ⟨by kernel_rfl⟩
instance : FlT Tryz.prog 110 := ⟨by kernel_rfl⟩
instance : UT Tryz.prog 111 (TypeDesc.tuple #[86, 4]) := ⟨Tryz.underlying111⟩
instance : SzT Tryz.prog 111 1 := ⟨by kernel_rfl⟩
instance : ByT Tryz.prog 111 0 := ⟨by kernel_rfl⟩
instance : FlT Tryz.prog 111 := ⟨by kernel_rfl⟩
instance : UT Tryz.prog 112 (TypeDesc.func #[46] #[86, 4] false) := ⟨Tryz.underlying112⟩
instance : SzT Tryz.prog 112 1 := ⟨by kernel_rfl⟩
instance : ByT Tryz.prog 112 8 := ⟨by kernel_rfl⟩
instance : ZrT Tryz.prog 112 (#[Value.nilFunc]) := ⟨by kernel_rfl⟩
instance : FlT Tryz.prog 112 := ⟨by kernel_rfl⟩
instance : UT Tryz.prog 113 (TypeDesc.interface #[("AssignableTo", 179), ("Comparable", 23), ("Elem", 180), ("Implements", 179), ("Kind", 181), ("Name", 165), ("PkgPath", 165), ("Size", 182), ("String", 165), ("internal/reflectlite.common", 183), ("internal/reflectlite.uncommon", 184)]) := ⟨Tryz.underlying113⟩
instance : SzT Tryz.prog 113 1 := ⟨by kernel_rfl⟩
instance : ByT Tryz.prog 113 16 := ⟨by kernel_rfl⟩
instance : ZrT Tryz.prog 113 (#[Value.nilIface]) := ⟨by kernel_rfl⟩
instance : FlT Tryz.prog 113 := ⟨by kernel_rfl⟩
instance : UT Tryz.prog 114 (TypeDesc.interface #[("AssignableTo", 179), ("Comparable", 23), ("Elem", 180), ("Implements", 179), ("Kind", 181), ("Name", 165), ("PkgPath", 165), ("Size", 182), ("String", 165), ("internal/reflectlite.common", 183), ("internal/reflectlite.uncommon", 184)]) := ⟨Tryz.underlying114⟩
instance : SzT Tryz.prog 114 1 := ⟨by kernel_rfl⟩
instance : ByT Tryz.prog 114 16 := ⟨by kernel_rfl⟩
instance : ZrT Tryz.prog 114 (#[Value.nilIface]) := ⟨by kernel_rfl⟩
instance : FlT Tryz.prog 114 := ⟨by kernel_rfl⟩
instance : UT Tryz.prog 115 (TypeDesc.func #[20] #[114] false) := ⟨Tryz.underlying115⟩
instance : SzT Tryz.prog 115 1 := ⟨by kernel_rfl⟩
instance : ByT Tryz.prog 115 8 := ⟨by kernel_rfl⟩
instance : ZrT Tryz.prog 115 (#[Value.nilFunc]) := ⟨by kernel_rfl⟩
instance : FlT Tryz.prog 115 := ⟨by kernel_rfl⟩
instance : UT Tryz.prog 116 (TypeDesc.func #[60, 60, 4] #[4] false) := ⟨Tryz.underlying116⟩
instance : SzT Tryz.prog 116 1 := ⟨by kernel_rfl⟩
instance : ByT Tryz.prog 116 8 := ⟨by kernel_rfl⟩
instance : ZrT Tryz.prog 116 (#[Value.nilFunc]) := ⟨by kernel_rfl⟩
instance : FlT Tryz.prog 116 := ⟨by kernel_rfl⟩
instance : UT Tryz.prog 117 (TypeDesc.pointer 98) := ⟨Tryz.underlying117⟩
instance : SzT Tryz.prog 117 1 := ⟨by kernel_rfl⟩
instance : ByT Tryz.prog 117 8 := ⟨by kernel_rfl⟩
instance : ZrT Tryz.prog 117 (#[Value.pointer none]) := ⟨by kernel_rfl⟩
instance : FlT Tryz.prog 117 := ⟨by kernel_rfl⟩
instance : UT Tryz.prog 118 (TypeDesc.func #[32] #[] false) := ⟨Tryz.underlying118⟩
instance : SzT Tryz.prog 118 1 := ⟨by kernel_rfl⟩
instance : ByT Tryz.prog 118 8 := ⟨by kernel_rfl⟩
instance : ZrT Tryz.prog 118 (#[Value.nilFunc]) := ⟨by kernel_rfl⟩
instance : FlT Tryz.prog 118 := ⟨by kernel_rfl⟩
instance : UT Tryz.prog 119 (TypeDesc.func #[3, 46] #[28] false) := ⟨Tryz.underlying119⟩
instance : SzT Tryz.prog 119 1 := ⟨by kernel_rfl⟩
instance : ByT Tryz.prog 119 8 := ⟨by kernel_rfl⟩
instance : ZrT Tryz.prog 119 (#[Value.nilFunc]) := ⟨by kernel_rfl⟩
instance : FlT Tryz.prog 119 := ⟨by kernel_rfl⟩
instance : UT Tryz.prog 120 (TypeDesc.func #[74, 77] #[74] false) := ⟨Tryz.underlying120⟩
instance : SzT Tryz.prog 120 1 := ⟨by kernel_rfl⟩
instance : ByT Tryz.prog 120 8 := ⟨by kernel_rfl⟩
instance : ZrT Tryz.prog 120 (#[Value.nilFunc]) := ⟨by kernel_rfl⟩
instance : FlT Tryz.prog 120 := ⟨by kernel_rfl⟩
instance : UT Tryz.prog 121 (TypeDesc.func #[74, 3, 3, 3] #[] false) := ⟨Tryz.underlying121⟩
instance : SzT Tryz.prog 121 1 := ⟨by kernel_rfl⟩
instance : ByT Tryz.prog 121 8 := ⟨by kernel_rfl⟩
instance : ZrT Tryz.prog 121 (#[Value.nilFunc]) := ⟨by kernel_rfl⟩
instance : FlT Tryz.prog 121 := ⟨by kernel_rfl⟩
instance : UT Tryz.prog 122 (TypeDesc.func #[93] #[3] false) := ⟨Tryz.underlying122⟩
instance : SzT Tryz.prog 122 1 := ⟨by kernel_rfl⟩
instance : ByT Tryz.prog 122 8 := ⟨by kernel_rfl⟩
instance : ZrT Tryz.prog 122 (#[Value.nilFunc]) := ⟨by kernel_rfl⟩
instance : FlT Tryz.prog 122 := ⟨by kernel_rfl⟩
instance : UT Tryz.prog 123 (TypeDesc.array 32 5) := ⟨Tryz.underlying123⟩
instance : SzT Tryz.prog 123 32 := ⟨by kernel_rfl⟩
instance : ByT Tryz.prog 123 32 := ⟨by kernel_rfl⟩
instance : ZrT Tryz.prog 123 ((List.replicate 32 (Value.int .u8 0)).toArray) := ⟨by kernel_rfl⟩
instance : RwT Tryz.prog 123 32 := ⟨by kernel_rfl⟩
instance : UT Tryz.prog 124 (TypeDesc.array 32 5) := ⟨Tryz.underlying124⟩
instance : SzT Tryz.prog 124 32 := ⟨by kernel_rfl⟩
instance : ByT Tryz.prog 124 32 := ⟨by kernel_rfl⟩
instance : ZrT Tryz.prog 124 ((List.replicate 32 (Value.int .u8 0)).toArray) := ⟨by kernel_rfl⟩
instance : RwT Tryz.prog 124 32 := ⟨by kernel_rfl⟩
instance : UT Tryz.prog 125 (TypeDesc.func #[46] #[32] false) := ⟨Tryz.underlying125⟩
instance : SzT Tryz.prog 125 1 := ⟨by kernel_rfl⟩
instance : ByT Tryz.prog 125 8 := ⟨by kernel_rfl⟩
instance : ZrT Tryz.prog 125 (#[Value.nilFunc]) := ⟨by kernel_rfl⟩
instance : FlT Tryz.prog 125 := ⟨by kernel_rfl⟩
instance : UT Tryz.prog 126 (TypeDesc.struct #[{ name := "Type", type := 17, offset := 0, embedded := true, tag := "", pkgPath := "", byteOffset := 0 }]) := ⟨Tryz.underlying126⟩
instance : SzT Tryz.prog 126 1 := ⟨by kernel_rfl⟩
instance : ByT Tryz.prog 126 8 := ⟨by kernel_rfl⟩
instance : ZrT Tryz.prog 126 (#[Value.pointer none]) := ⟨by kernel_rfl⟩
instance : RwT Tryz.prog 126 1 := ⟨by kernel_rfl⟩
instance : PlT Tryz.prog 126 [(0, 1)] := ⟨by kernel_rfl⟩
instance : UT Tryz.prog 127 (TypeDesc.struct #[{ name := "Type", type := 17, offset := 0, embedded := true, tag := "", pkgPath := "", byteOffset := 0 }]) := ⟨Tryz.underlying127⟩
instance : SzT Tryz.prog 127 1 := ⟨by kernel_rfl⟩
instance : ByT Tryz.prog 127 8 := ⟨by kernel_rfl⟩
instance : ZrT Tryz.prog 127 (#[Value.pointer none]) := ⟨by kernel_rfl⟩
instance : RwT Tryz.prog 127 1 := ⟨by kernel_rfl⟩
instance : PlT Tryz.prog 127 [(0, 1)] := ⟨by kernel_rfl⟩
instance : UT Tryz.prog 128 (TypeDesc.pointer 187) := ⟨Tryz.underlying128⟩
instance : SzT Tryz.prog 128 1 := ⟨by kernel_rfl⟩
instance : ByT Tryz.prog 128 8 := ⟨by kernel_rfl⟩
instance : ZrT Tryz.prog 128 (#[Value.pointer none]) := ⟨by kernel_rfl⟩
instance : FlT Tryz.prog 128 := ⟨by kernel_rfl⟩
instance : UT Tryz.prog 129 (TypeDesc.interface #[("Is", 131)]) := ⟨Tryz.underlying129⟩
instance : SzT Tryz.prog 129 1 := ⟨by kernel_rfl⟩
instance : ByT Tryz.prog 129 16 := ⟨by kernel_rfl⟩
instance : ZrT Tryz.prog 129 (#[Value.nilIface]) := ⟨by kernel_rfl⟩
instance : FlT Tryz.prog 129 := ⟨by kernel_rfl⟩
instance : UT Tryz.prog 130 (TypeDesc.tuple #[129, 4]) := ⟨Tryz.underlying130⟩
instance : SzT Tryz.prog 130 1 := ⟨by kernel_rfl⟩
instance : ByT Tryz.prog 130 0 := ⟨by kernel_rfl⟩
instance : FlT Tryz.prog 130 := ⟨by kernel_rfl⟩
instance : UT Tryz.prog 131 (TypeDesc.func #[60] #[4] false) := ⟨Tryz.underlying131⟩
instance : SzT Tryz.prog 131 1 := ⟨by kernel_rfl⟩
instance : ByT Tryz.prog 131 8 := ⟨by kernel_rfl⟩
instance : ZrT Tryz.prog 131 (#[Value.nilFunc]) := ⟨by kernel_rfl⟩
instance : FlT Tryz.prog 131 := ⟨by kernel_rfl⟩
instance : UT Tryz.prog 132 (TypeDesc.interface #[("Unwrap", 133)]) := ⟨Tryz.underlying132⟩
instance : SzT Tryz.prog 132 1 := ⟨by kernel_rfl⟩
instance : ByT Tryz.prog 132 16 := ⟨by kernel_rfl⟩
instance : ZrT Tryz.prog 132 (#[Value.nilIface]) := ⟨by kernel_rfl⟩
instance : FlT Tryz.prog 132 := ⟨by kernel_rfl⟩
instance : UT Tryz.prog 133 (TypeDesc.func #[] #[60] false) := ⟨Tryz.underlying133⟩
instance : SzT Tryz.prog 133 1 := ⟨by kernel_rfl⟩
instance : ByT Tryz.prog 133 8 := ⟨by kernel_rfl⟩
instance : ZrT Tryz.prog 133 (#[Value.nilFunc]) := ⟨by kernel_rfl⟩
instance : FlT Tryz.prog 133 := ⟨by kernel_rfl⟩
instance : UT Tryz.prog 134 (TypeDesc.interface #[("Unwrap", 136)]) := ⟨Tryz.underlying134⟩
instance : SzT Tryz.prog 134 1 := ⟨by kernel_rfl⟩
instance : ByT Tryz.prog 134 16 := ⟨by kernel_rfl⟩
instance : ZrT Tryz.prog 134 (#[Value.nilIface]) := ⟨by kernel_rfl⟩
instance : FlT Tryz.prog 134 := ⟨by kernel_rfl⟩
instance : UT Tryz.prog 135 (TypeDesc.slice 60) := ⟨Tryz.underlying135⟩
instance : SzT Tryz.prog 135 1 := ⟨by kernel_rfl⟩
instance : ByT Tryz.prog 135 24 := ⟨by kernel_rfl⟩
instance : ZrT Tryz.prog 135 (#[Value.slice none 0 0]) := ⟨by kernel_rfl⟩
instance : FlT Tryz.prog 135 := ⟨by kernel_rfl⟩
instance : UT Tryz.prog 136 (TypeDesc.func #[] #[135] false) := ⟨Tryz.underlying136⟩
instance : SzT Tryz.prog 136 1 := ⟨by kernel_rfl⟩
instance : ByT Tryz.prog 136 8 := ⟨by kernel_rfl⟩
instance : ZrT Tryz.prog 136 (#[Value.nilFunc]) := ⟨by kernel_rfl⟩
instance : FlT Tryz.prog 136 := ⟨by kernel_rfl⟩
instance : UT Tryz.prog 137 (TypeDesc.array 10 5) := ⟨Tryz.underlying137⟩
instance : SzT Tryz.prog 137 10 := ⟨by kernel_rfl⟩
instance : ByT Tryz.prog 137 10 := ⟨by kernel_rfl⟩
instance : ZrT Tryz.prog 137 (#[Value.int .u8 0, Value.int .u8 0, Value.int .u8 0, Value.int .u8 0, Value.int .u8 0, Value.int .u8 0, Value.int .u8 0, Value.int .u8 0, Value.int .u8 0, Value.int .u8 0]) := ⟨by kernel_rfl⟩
instance : RwT Tryz.prog 137 10 := ⟨by kernel_rfl⟩
instance : UT Tryz.prog 138 (TypeDesc.func #[46] #[] true) := ⟨Tryz.underlying138⟩
instance : SzT Tryz.prog 138 1 := ⟨by kernel_rfl⟩
instance : ByT Tryz.prog 138 8 := ⟨by kernel_rfl⟩
instance : ZrT Tryz.prog 138 (#[Value.nilFunc]) := ⟨by kernel_rfl⟩
instance : FlT Tryz.prog 138 := ⟨by kernel_rfl⟩
instance : UT Tryz.prog 139 (TypeDesc.tuple #[80, 4]) := ⟨Tryz.underlying139⟩
instance : SzT Tryz.prog 139 1 := ⟨by kernel_rfl⟩
instance : ByT Tryz.prog 139 0 := ⟨by kernel_rfl⟩
instance : FlT Tryz.prog 139 := ⟨by kernel_rfl⟩
instance : UT Tryz.prog 140 (TypeDesc.func #[] #[124] false) := ⟨Tryz.underlying140⟩
instance : SzT Tryz.prog 140 1 := ⟨by kernel_rfl⟩
instance : ByT Tryz.prog 140 8 := ⟨by kernel_rfl⟩
instance : ZrT Tryz.prog 140 (#[Value.nilFunc]) := ⟨by kernel_rfl⟩
instance : FlT Tryz.prog 140 := ⟨by kernel_rfl⟩
instance : UT Tryz.prog 141 (TypeDesc.func #[74, 3, 3] #[] false) := ⟨Tryz.underlying141⟩
instance : SzT Tryz.prog 141 1 := ⟨by kernel_rfl⟩
instance : ByT Tryz.prog 141 8 := ⟨by kernel_rfl⟩
instance : ZrT Tryz.prog 141 (#[Value.nilFunc]) := ⟨by kernel_rfl⟩
instance : FlT Tryz.prog 141 := ⟨by kernel_rfl⟩
instance : UT Tryz.prog 142 (TypeDesc.int IntKind.i64) := ⟨Tryz.underlying142⟩
instance : SzT Tryz.prog 142 1 := ⟨by kernel_rfl⟩
instance : ByT Tryz.prog 142 8 := ⟨by kernel_rfl⟩
instance : ZrT Tryz.prog 142 (#[Value.int .i64 0]) := ⟨by kernel_rfl⟩
instance : FlT Tryz.prog 142 := ⟨by kernel_rfl⟩
instance : UT Tryz.prog 143 (TypeDesc.tuple #[3, 142]) := ⟨Tryz.underlying143⟩
instance : SzT Tryz.prog 143 1 := ⟨by kernel_rfl⟩
instance : ByT Tryz.prog 143 0 := ⟨by kernel_rfl⟩
instance : FlT Tryz.prog 143 := ⟨by kernel_rfl⟩
instance : UT Tryz.prog 144 (TypeDesc.func #[74, 3, 3] #[3, 142] false) := ⟨Tryz.underlying144⟩
instance : SzT Tryz.prog 144 1 := ⟨by kernel_rfl⟩
instance : ByT Tryz.prog 144 8 := ⟨by kernel_rfl⟩
instance : ZrT Tryz.prog 144 (#[Value.nilFunc]) := ⟨by kernel_rfl⟩
instance : FlT Tryz.prog 144 := ⟨by kernel_rfl⟩
instance : UT Tryz.prog 145 (TypeDesc.func #[74, 3, 3] #[4] false) := ⟨Tryz.underlying145⟩
instance : SzT Tryz.prog 145 1 := ⟨by kernel_rfl⟩
instance : ByT Tryz.prog 145 8 := ⟨by kernel_rfl⟩
instance : ZrT Tryz.prog 145 (#[Value.nilFunc]) := ⟨by kernel_rfl⟩
instance : FlT Tryz.prog 145 := ⟨by kernel_rfl⟩
instance : UT Tryz.prog 146 (TypeDesc.func #[3, 3] #[4] false) := ⟨Tryz.underlying146⟩
instance : SzT Tryz.prog 146 1 := ⟨by kernel_rfl⟩
instance : ByT Tryz.prog 146 8 := ⟨by kernel_rfl⟩
instance : ZrT Tryz.prog 146 (#[Value.nilFunc]) := ⟨by kernel_rfl⟩
instance : FlT Tryz.prog 146 := ⟨by kernel_rfl⟩
instance : UT Tryz.prog 147 (TypeDesc.func #[74, 3, 3, 3] #[3] false) := ⟨Tryz.underlying147⟩
instance : SzT Tryz.prog 147 1 := ⟨by kernel_rfl⟩
instance : ByT Tryz.prog 147 8 := ⟨by kernel_rfl⟩
instance : ZrT Tryz.prog 147 (#[Value.nilFunc]) := ⟨by kernel_rfl⟩
instance : FlT Tryz.prog 147 := ⟨by kernel_rfl⟩
instance : UT Tryz.prog 148 (TypeDesc.func #[74, 3, 3, 3] #[3, 4] false) := ⟨Tryz.underlying148⟩
instance : SzT Tryz.prog 148 1 := ⟨by kernel_rfl⟩
instance : ByT Tryz.prog 148 8 := ⟨by kernel_rfl⟩
instance : ZrT Tryz.prog 148 (#[Value.nilFunc]) := ⟨by kernel_rfl⟩
instance : FlT Tryz.prog 148 := ⟨by kernel_rfl⟩
instance : UT Tryz.prog 149 (TypeDesc.func #[150] #[3] false) := ⟨Tryz.underlying149⟩
instance : SzT Tryz.prog 149 1 := ⟨by kernel_rfl⟩
instance : ByT Tryz.prog 149 8 := ⟨by kernel_rfl⟩
instance : ZrT Tryz.prog 149 (#[Value.nilFunc]) := ⟨by kernel_rfl⟩
instance : FlT Tryz.prog 149 := ⟨by kernel_rfl⟩
instance : UT Tryz.prog 150 (TypeDesc.int IntKind.u32) := ⟨Tryz.underlying150⟩
instance : SzT Tryz.prog 150 1 := ⟨by kernel_rfl⟩
instance : ByT Tryz.prog 150 4 := ⟨by kernel_rfl⟩
instance : ZrT Tryz.prog 150 (#[Value.int .u32 0]) := ⟨by kernel_rfl⟩
instance : FlT Tryz.prog 150 := ⟨by kernel_rfl⟩
instance : UT Tryz.prog 151 (TypeDesc.func #[32] #[3] false) := ⟨Tryz.underlying151⟩
instance : SzT Tryz.prog 151 1 := ⟨by kernel_rfl⟩
instance : ByT Tryz.prog 151 8 := ⟨by kernel_rfl⟩
instance : ZrT Tryz.prog 151 (#[Value.nilFunc]) := ⟨by kernel_rfl⟩
instance : FlT Tryz.prog 151 := ⟨by kernel_rfl⟩
instance : UT Tryz.prog 152 (TypeDesc.func #[46, 32] #[] false) := ⟨Tryz.underlying152⟩
instance : SzT Tryz.prog 152 1 := ⟨by kernel_rfl⟩
instance : ByT Tryz.prog 152 8 := ⟨by kernel_rfl⟩
instance : ZrT Tryz.prog 152 (#[Value.nilFunc]) := ⟨by kernel_rfl⟩
instance : FlT Tryz.prog 152 := ⟨by kernel_rfl⟩
instance : UT Tryz.prog 153 (TypeDesc.int IntKind.u64) := ⟨Tryz.underlying153⟩
instance : SzT Tryz.prog 153 1 := ⟨by kernel_rfl⟩
instance : ByT Tryz.prog 153 8 := ⟨by kernel_rfl⟩
instance : ZrT Tryz.prog 153 (#[Value.int .u64 0]) := ⟨by kernel_rfl⟩
instance : FlT Tryz.prog 153 := ⟨by kernel_rfl⟩
instance : UT Tryz.prog 154 (TypeDesc.func #[3] #[93] false) := ⟨Tryz.underlying154⟩
instance : SzT Tryz.prog 154 1 := ⟨by kernel_rfl⟩
instance : ByT Tryz.prog 154 8 := ⟨by kernel_rfl⟩
instance : ZrT Tryz.prog 154 (#[Value.nilFunc]) := ⟨by kernel_rfl⟩
instance : FlT Tryz.prog 154 := ⟨by kernel_rfl⟩
instance : UT Tryz.prog 155 (TypeDesc.func #[74, 3, 156] #[3] false) := ⟨Tryz.underlying155⟩
instance : SzT Tryz.prog 155 1 := ⟨by kernel_rfl⟩
instance : ByT Tryz.prog 155 8 := ⟨by kernel_rfl⟩
instance : ZrT Tryz.prog 155 (#[Value.nilFunc]) := ⟨by kernel_rfl⟩
instance : FlT Tryz.prog 155 := ⟨by kernel_rfl⟩
instance : UT Tryz.prog 156 (TypeDesc.pointer 3) := ⟨Tryz.underlying156⟩
instance : SzT Tryz.prog 156 1 := ⟨by kernel_rfl⟩
instance : ByT Tryz.prog 156 8 := ⟨by kernel_rfl⟩
instance : ZrT Tryz.prog 156 (#[Value.pointer none]) := ⟨by kernel_rfl⟩
instance : FlT Tryz.prog 156 := ⟨by kernel_rfl⟩
instance : UT Tryz.prog 157 (TypeDesc.func #[74, 3, 3, 3, 156] #[3] false) := ⟨Tryz.underlying157⟩
instance : SzT Tryz.prog 157 1 := ⟨by kernel_rfl⟩
instance : ByT Tryz.prog 157 8 := ⟨by kernel_rfl⟩
instance : ZrT Tryz.prog 157 (#[Value.nilFunc]) := ⟨by kernel_rfl⟩
instance : FlT Tryz.prog 157 := ⟨by kernel_rfl⟩
instance : UT Tryz.prog 158 (TypeDesc.pointer 96) := ⟨Tryz.underlying158⟩
instance : SzT Tryz.prog 158 1 := ⟨by kernel_rfl⟩
instance : ByT Tryz.prog 158 8 := ⟨by kernel_rfl⟩
instance : ZrT Tryz.prog 158 (#[Value.pointer none]) := ⟨by kernel_rfl⟩
instance : FlT Tryz.prog 158 := ⟨by kernel_rfl⟩
instance : UT Tryz.prog 159 (TypeDesc.func #[31] #[46] true) := ⟨Tryz.underlying159⟩
instance : SzT Tryz.prog 159 1 := ⟨by kernel_rfl⟩
instance : ByT Tryz.prog 159 8 := ⟨by kernel_rfl⟩
instance : ZrT Tryz.prog 159 (#[Value.nilFunc]) := ⟨by kernel_rfl⟩
instance : FlT Tryz.prog 159 := ⟨by kernel_rfl⟩
instance : UT Tryz.prog 160 (TypeDesc.pointer 153) := ⟨Tryz.underlying160⟩
instance : SzT Tryz.prog 160 1 := ⟨by kernel_rfl⟩
instance : ByT Tryz.prog 160 8 := ⟨by kernel_rfl⟩
instance : ZrT Tryz.prog 160 (#[Value.pointer none]) := ⟨by kernel_rfl⟩
instance : FlT Tryz.prog 160 := ⟨by kernel_rfl⟩
instance : UT Tryz.prog 161 (TypeDesc.tuple #[3, 3]) := ⟨Tryz.underlying161⟩
instance : SzT Tryz.prog 161 1 := ⟨by kernel_rfl⟩
instance : ByT Tryz.prog 161 0 := ⟨by kernel_rfl⟩
instance : FlT Tryz.prog 161 := ⟨by kernel_rfl⟩
instance : UT Tryz.prog 162 (TypeDesc.func #[74, 3, 3, 156] #[3, 3] false) := ⟨Tryz.underlying162⟩
instance : SzT Tryz.prog 162 1 := ⟨by kernel_rfl⟩
instance : ByT Tryz.prog 162 8 := ⟨by kernel_rfl⟩
instance : ZrT Tryz.prog 162 (#[Value.nilFunc]) := ⟨by kernel_rfl⟩
instance : FlT Tryz.prog 162 := ⟨by kernel_rfl⟩
instance : UT Tryz.prog 163 (TypeDesc.func #[46, 3] #[46] false) := ⟨Tryz.underlying163⟩
instance : SzT Tryz.prog 163 1 := ⟨by kernel_rfl⟩
instance : ByT Tryz.prog 163 8 := ⟨by kernel_rfl⟩
instance : ZrT Tryz.prog 163 (#[Value.nilFunc]) := ⟨by kernel_rfl⟩
instance : FlT Tryz.prog 163 := ⟨by kernel_rfl⟩
instance : UT Tryz.prog 164 (TypeDesc.pointer 189) := ⟨Tryz.underlying164⟩
instance : SzT Tryz.prog 164 1 := ⟨by kernel_rfl⟩
instance : ByT Tryz.prog 164 8 := ⟨by kernel_rfl⟩
instance : ZrT Tryz.prog 164 (#[Value.pointer none]) := ⟨by kernel_rfl⟩
instance : FlT Tryz.prog 164 := ⟨by kernel_rfl⟩
instance : UT Tryz.prog 165 (TypeDesc.func #[] #[9] false) := ⟨Tryz.underlying165⟩
instance : SzT Tryz.prog 165 1 := ⟨by kernel_rfl⟩
instance : ByT Tryz.prog 165 8 := ⟨by kernel_rfl⟩
instance : ZrT Tryz.prog 165 (#[Value.nilFunc]) := ⟨by kernel_rfl⟩
instance : FlT Tryz.prog 165 := ⟨by kernel_rfl⟩
instance : UT Tryz.prog 166 (TypeDesc.struct #[{ name := "_interface", type := 17, offset := 0, embedded := false, tag := "", pkgPath := "runtime", byteOffset := 0 }, { name := "concrete", type := 17, offset := 1, embedded := false, tag := "", pkgPath := "runtime", byteOffset := 8 }, { name := "asserted", type := 17, offset := 2, embedded := false, tag := "", pkgPath := "runtime", byteOffset := 16 }, { name := "missingMethod", type := 9, offset := 3, embedded := false, tag := "", pkgPath := "runtime", byteOffset := 24 }]) := ⟨Tryz.underlying166⟩
instance : SzT Tryz.prog 166 4 := ⟨by kernel_rfl⟩
instance : ByT Tryz.prog 166 40 := ⟨by kernel_rfl⟩
instance : ZrT Tryz.prog 166 (#[Value.pointer none, Value.pointer none, Value.pointer none, Value.string ByteArray.empty]) := ⟨by kernel_rfl⟩
instance : RwT Tryz.prog 166 4 := ⟨by kernel_rfl⟩
instance : PlT Tryz.prog 166 [(0, 1), (1, 1), (2, 1), (3, 1)] := ⟨by kernel_rfl⟩
instance : UT Tryz.prog 167 (TypeDesc.struct #[{ name := "_interface", type := 17, offset := 0, embedded := false, tag := "", pkgPath := "runtime", byteOffset := 0 }, { name := "concrete", type := 17, offset := 1, embedded := false, tag := "", pkgPath := "runtime", byteOffset := 8 }, { name := "asserted", type := 17, offset := 2, embedded := false, tag := "", pkgPath := "runtime", byteOffset := 16 }, { name := "missingMethod", type := 9, offset := 3, embedded := false, tag := "", pkgPath := "runtime", byteOffset := 24 }]) := ⟨Tryz.underlying167⟩
instance : SzT Tryz.prog 167 4 := ⟨by kernel_rfl⟩
instance : ByT Tryz.prog 167 40 := ⟨by kernel_rfl⟩
instance : ZrT Tryz.prog 167 (#[Value.pointer none, Value.pointer none, Value.pointer none, Value.string ByteArray.empty]) := ⟨by kernel_rfl⟩
instance : RwT Tryz.prog 167 4 := ⟨by kernel_rfl⟩
instance : PlT Tryz.prog 167 [(0, 1), (1, 1), (2, 1), (3, 1)] := ⟨by kernel_rfl⟩
instance : UT Tryz.prog 168 (TypeDesc.array 0 16) := ⟨Tryz.underlying168⟩
instance : SzT Tryz.prog 168 0 := ⟨by kernel_rfl⟩
instance : ByT Tryz.prog 168 0 := ⟨by kernel_rfl⟩
instance : ZrT Tryz.prog 168 (#[]) := ⟨by kernel_rfl⟩
instance : RwT Tryz.prog 168 0 := ⟨by kernel_rfl⟩
instance : UT Tryz.prog 169 (TypeDesc.struct #[{ name := "_", type := 168, offset := 0, embedded := false, tag := "", pkgPath := "runtime", byteOffset := 0 }]) := ⟨Tryz.underlying169⟩
instance : SzT Tryz.prog 169 0 := ⟨by kernel_rfl⟩
instance : ByT Tryz.prog 169 0 := ⟨by kernel_rfl⟩
instance : ZrT Tryz.prog 169 (#[]) := ⟨by kernel_rfl⟩
instance : RwT Tryz.prog 169 0 := ⟨by kernel_rfl⟩
instance : PlT Tryz.prog 169 [(0, 0)] := ⟨by kernel_rfl⟩
instance : UT Tryz.prog 170 (TypeDesc.struct #[{ name := "_", type := 168, offset := 0, embedded := false, tag := "", pkgPath := "runtime", byteOffset := 0 }]) := ⟨Tryz.underlying170⟩
instance : SzT Tryz.prog 170 0 := ⟨by kernel_rfl⟩
instance : ByT Tryz.prog 170 0 := ⟨by kernel_rfl⟩
instance : ZrT Tryz.prog 170 (#[]) := ⟨by kernel_rfl⟩
instance : RwT Tryz.prog 170 0 := ⟨by kernel_rfl⟩
instance : PlT Tryz.prog 170 [(0, 0)] := ⟨by kernel_rfl⟩
instance : UT Tryz.prog 171 (TypeDesc.int IntKind.u8) := ⟨Tryz.underlying171⟩
instance : SzT Tryz.prog 171 1 := ⟨by kernel_rfl⟩
instance : ByT Tryz.prog 171 1 := ⟨by kernel_rfl⟩
instance : ZrT Tryz.prog 171 (#[Value.int .u8 0]) := ⟨by kernel_rfl⟩
instance : FlT Tryz.prog 171 := ⟨by kernel_rfl⟩
instance : UT Tryz.prog 172 (TypeDesc.int IntKind.u8) := ⟨Tryz.underlying172⟩
instance : SzT Tryz.prog 172 1 := ⟨by kernel_rfl⟩
instance : ByT Tryz.prog 172 1 := ⟨by kernel_rfl⟩
instance : ZrT Tryz.prog 172 (#[Value.int .u8 0]) := ⟨by kernel_rfl⟩
instance : FlT Tryz.prog 172 := ⟨by kernel_rfl⟩
instance : UT Tryz.prog 173 (TypeDesc.func #[190, 190] #[4] false) := ⟨Tryz.underlying173⟩
instance : SzT Tryz.prog 173 1 := ⟨by kernel_rfl⟩
instance : ByT Tryz.prog 173 8 := ⟨by kernel_rfl⟩
instance : ZrT Tryz.prog 173 (#[Value.nilFunc]) := ⟨by kernel_rfl⟩
instance : FlT Tryz.prog 173 := ⟨by kernel_rfl⟩
instance : UT Tryz.prog 174 (TypeDesc.pointer 5) := ⟨Tryz.underlying174⟩
instance : SzT Tryz.prog 174 1 := ⟨by kernel_rfl⟩
instance : ByT Tryz.prog 174 8 := ⟨by kernel_rfl⟩
instance : ZrT Tryz.prog 174 (#[Value.pointer none]) := ⟨by kernel_rfl⟩
instance : FlT Tryz.prog 174 := ⟨by kernel_rfl⟩
instance : UT Tryz.prog 175 (TypeDesc.int IntKind.i32) := ⟨Tryz.underlying175⟩
instance : SzT Tryz.prog 175 1 := ⟨by kernel_rfl⟩
instance : ByT Tryz.prog 175 4 := ⟨by kernel_rfl⟩
instance : ZrT Tryz.prog 175 (#[Value.int .i32 0]) := ⟨by kernel_rfl⟩
instance : FlT Tryz.prog 175 := ⟨by kernel_rfl⟩
instance : UT Tryz.prog 176 (TypeDesc.int IntKind.i32) := ⟨Tryz.underlying176⟩
instance : SzT Tryz.prog 176 1 := ⟨by kernel_rfl⟩
instance : ByT Tryz.prog 176 4 := ⟨by kernel_rfl⟩
instance : ZrT Tryz.prog 176 (#[Value.int .i32 0]) := ⟨by kernel_rfl⟩
instance : FlT Tryz.prog 176 := ⟨by kernel_rfl⟩
instance : UT Tryz.prog 177 (TypeDesc.struct #[{ name := "Size_", type := 12, offset := 0, embedded := false, tag := "", pkgPath := "", byteOffset := 0 }, { name := "PtrBytes", type := 12, offset := 1, embedded := false, tag := "", pkgPath := "", byteOffset := 8 }, { name := "Hash", type := 150, offset := 2, embedded := false, tag := "", pkgPath := "", byteOffset := 16 }, { name := "TFlag", type := 171, offset := 3, embedded := false, tag := "", pkgPath := "", byteOffset := 20 }, { name := "Align_", type := 5, offset := 4, embedded := false, tag := "", pkgPath := "", byteOffset := 21 }, { name := "FieldAlign_", type := 5, offset := 5, embedded := false, tag := "", pkgPath := "", byteOffset := 22 }, { name := "Kind_", type := 172, offset := 6, embedded := false, tag := "", pkgPath := "", byteOffset := 23 }, { name := "Equal", type := 173, offset := 7, embedded := false, tag := "", pkgPath := "", byteOffset := 24 }, { name := "GCData", type := 174, offset := 8, embedded := false, tag := "", pkgPath := "", byteOffset := 32 }, { name := "Str", type := 175, offset := 9, embedded := false, tag := "", pkgPath := "", byteOffset := 40 }, { name := "PtrToThis", type := 176, offset := 10, embedded := false, tag := "", pkgPath := "", byteOffset := 44 }]) := ⟨Tryz.underlying177⟩
instance : SzT Tryz.prog 177 11 := ⟨by kernel_rfl⟩
instance : ByT Tryz.prog 177 48 := ⟨by kernel_rfl⟩
instance : ZrT Tryz.prog 177 (#[Value.int .u64 0, Value.int .u64 0, Value.int .u32 0, Value.int .u8 0, Value.int .u8 0, Value.int .u8 0, Value.int .u8 0, Value.nilFunc, Value.pointer none, Value.int .i32 0, Value.int .i32 0]) := ⟨by kernel_rfl⟩
instance : RwT Tryz.prog 177 11 := ⟨by kernel_rfl⟩
instance : PlT Tryz.prog 177 [(0, 1), (1, 1), (2, 1), (3, 1), (4, 1), (5, 1), (6, 1), (7, 1), (8, 1), (9, 1), (10, 1)] := ⟨by kernel_rfl⟩
instance : UT Tryz.prog 178 (TypeDesc.struct #[{ name := "Size_", type := 12, offset := 0, embedded := false, tag := "", pkgPath := "", byteOffset := 0 }, { name := "PtrBytes", type := 12, offset := 1, embedded := false, tag := "", pkgPath := "", byteOffset := 8 }, { name := "Hash", type := 150, offset := 2, embedded := false, tag := "", pkgPath := "", byteOffset := 16 }, { name := "TFlag", type := 171, offset := 3, embedded := false, tag := "", pkgPath := "", byteOffset := 20 }, { name := "Align_", type := 5, offset := 4, embedded := false, tag := "", pkgPath := "", byteOffset := 21 }, { name := "FieldAlign_", type := 5, offset := 5, embedded := false, tag := "", pkgPath := "", byteOffset := 22 }, { name := "Kind_", type := 172, offset := 6, embedded := false, tag := "", pkgPath := "", byteOffset := 23 }, { name := "Equal", type := 173, offset := 7, embedded := false, tag := "", pkgPath := "", byteOffset := 24 }, { name := "GCData", type := 174, offset := 8, embedded := false, tag := "", pkgPath := "", byteOffset := 32 }, { name := "Str", type := 175, offset := 9, embedded := false, tag := "", pkgPath := "", byteOffset := 40 }, { name := "PtrToThis", type := 176, offset := 10, embedded := false, tag := "", pkgPath := "", byteOffset := 44 }]) := ⟨Tryz.underlying178⟩
instance : SzT Tryz.prog 178 11 := ⟨by kernel_rfl⟩
instance : ByT Tryz.prog 178 48 := ⟨by kernel_rfl⟩
instance : ZrT Tryz.prog 178 (#[Value.int .u64 0, Value.int .u64 0, Value.int .u32 0, Value.int .u8 0, Value.int .u8 0, Value.int .u8 0, Value.int .u8 0, Value.nilFunc, Value.pointer none, Value.int .i32 0, Value.int .i32 0]) := ⟨by kernel_rfl⟩
instance : RwT Tryz.prog 178 11 := ⟨by kernel_rfl⟩
instance : PlT Tryz.prog 178 [(0, 1), (1, 1), (2, 1), (3, 1), (4, 1), (5, 1), (6, 1), (7, 1), (8, 1), (9, 1), (10, 1)] := ⟨by kernel_rfl⟩
instance : UT Tryz.prog 179 (TypeDesc.func #[114] #[4] false) := ⟨Tryz.underlying179⟩
instance : SzT Tryz.prog 179 1 := ⟨by kernel_rfl⟩
instance : ByT Tryz.prog 179 8 := ⟨by kernel_rfl⟩
instance : ZrT Tryz.prog 179 (#[Value.nilFunc]) := ⟨by kernel_rfl⟩
instance : FlT Tryz.prog 179 := ⟨by kernel_rfl⟩
instance : UT Tryz.prog 180 (TypeDesc.func #[] #[114] false) := ⟨Tryz.underlying180⟩
instance : SzT Tryz.prog 180 1 := ⟨by kernel_rfl⟩
instance : ByT Tryz.prog 180 8 := ⟨by kernel_rfl⟩
instance : ZrT Tryz.prog 180 (#[Value.nilFunc]) := ⟨by kernel_rfl⟩
instance : FlT Tryz.prog 180 := ⟨by kernel_rfl⟩
instance : UT Tryz.prog 181 (TypeDesc.func #[] #[172] false) := ⟨Tryz.underlying181⟩
instance : SzT Tryz.prog 181 1 := ⟨by kernel_rfl⟩
instance : ByT Tryz.prog 181 8 := ⟨by kernel_rfl⟩
instance : ZrT Tryz.prog 181 (#[Value.nilFunc]) := ⟨by kernel_rfl⟩
instance : FlT Tryz.prog 181 := ⟨by kernel_rfl⟩
instance : UT Tryz.prog 182 (TypeDesc.func #[] #[12] false) := ⟨Tryz.underlying182⟩
instance : SzT Tryz.prog 182 1 := ⟨by kernel_rfl⟩
instance : ByT Tryz.prog 182 8 := ⟨by kernel_rfl⟩
instance : ZrT Tryz.prog 182 (#[Value.nilFunc]) := ⟨by kernel_rfl⟩
instance : FlT Tryz.prog 182 := ⟨by kernel_rfl⟩
instance : UT Tryz.prog 183 (TypeDesc.func #[] #[17] false) := ⟨Tryz.underlying183⟩
instance : SzT Tryz.prog 183 1 := ⟨by kernel_rfl⟩
instance : ByT Tryz.prog 183 8 := ⟨by kernel_rfl⟩
instance : ZrT Tryz.prog 183 (#[Value.nilFunc]) := ⟨by kernel_rfl⟩
instance : FlT Tryz.prog 183 := ⟨by kernel_rfl⟩
instance : UT Tryz.prog 184 (TypeDesc.func #[] #[191] false) := ⟨Tryz.underlying184⟩
instance : SzT Tryz.prog 184 1 := ⟨by kernel_rfl⟩
instance : ByT Tryz.prog 184 8 := ⟨by kernel_rfl⟩
instance : ZrT Tryz.prog 184 (#[Value.nilFunc]) := ⟨by kernel_rfl⟩
instance : FlT Tryz.prog 184 := ⟨by kernel_rfl⟩
instance : UT Tryz.prog 185 (TypeDesc.func #[4] #[] false) := ⟨Tryz.underlying185⟩
instance : SzT Tryz.prog 185 1 := ⟨by kernel_rfl⟩
instance : ByT Tryz.prog 185 8 := ⟨by kernel_rfl⟩
instance : ZrT Tryz.prog 185 (#[Value.nilFunc]) := ⟨by kernel_rfl⟩
instance : FlT Tryz.prog 185 := ⟨by kernel_rfl⟩
instance : UT Tryz.prog 186 (TypeDesc.struct #[{ name := "Method", type := 9, offset := 0, embedded := false, tag := "", pkgPath := "", byteOffset := 0 }, { name := "Kind", type := 172, offset := 1, embedded := false, tag := "", pkgPath := "", byteOffset := 16 }]) := ⟨Tryz.underlying186⟩
instance : SzT Tryz.prog 186 2 := ⟨by kernel_rfl⟩
instance : ByT Tryz.prog 186 24 := ⟨by kernel_rfl⟩
instance : ZrT Tryz.prog 186 (#[Value.string ByteArray.empty, Value.int .u8 0]) := ⟨by kernel_rfl⟩
instance : RwT Tryz.prog 186 2 := ⟨by kernel_rfl⟩
instance : PlT Tryz.prog 186 [(0, 1), (1, 1)] := ⟨by kernel_rfl⟩
instance : UT Tryz.prog 187 (TypeDesc.struct #[{ name := "Method", type := 9, offset := 0, embedded := false, tag := "", pkgPath := "", byteOffset := 0 }, { name := "Kind", type := 172, offset := 1, embedded := false, tag := "", pkgPath := "", byteOffset := 16 }]) := ⟨Tryz.underlying187⟩
instance : SzT Tryz.prog 187 2 := ⟨by kernel_rfl⟩
instance : ByT Tryz.prog 187 24 := ⟨by kernel_rfl⟩
instance : ZrT Tryz.prog 187 (#[Value.string ByteArray.empty, Value.int .u8 0]) := ⟨by kernel_rfl⟩
instance : RwT Tryz.prog 187 2 := ⟨by kernel_rfl⟩
instance : PlT Tryz.prog 187 [(0, 1), (1, 1)] := ⟨by kernel_rfl⟩
instance : UT Tryz.prog 188 (TypeDesc.struct #[{ name := "s", type := 9, offset := 0, embedded := false, tag := "", pkgPath := "errors", byteOffset := 0 }]) := ⟨Tryz.underlying188⟩
instance : SzT Tryz.prog 188 1 := ⟨by kernel_rfl⟩
instance : ByT Tryz.prog 188 16 := ⟨by kernel_rfl⟩
instance : ZrT Tryz.prog 188 (#[Value.string ByteArray.empty]) := ⟨by kernel_rfl⟩
instance : RwT Tryz.prog 188 1 := ⟨by kernel_rfl⟩
instance : PlT Tryz.prog 188 [(0, 1)] := ⟨by kernel_rfl⟩
instance : UT Tryz.prog 189 (TypeDesc.struct #[{ name := "s", type := 9, offset := 0, embedded := false, tag := "", pkgPath := "errors", byteOffset := 0 }]) := ⟨Tryz.underlying189⟩
instance : SzT Tryz.prog 189 1 := ⟨by kernel_rfl⟩
instance : ByT Tryz.prog 189 16 := ⟨by kernel_rfl⟩
instance : ZrT Tryz.prog 189 (#[Value.string ByteArray.empty]) := ⟨by kernel_rfl⟩
instance : RwT Tryz.prog 189 1 := ⟨by kernel_rfl⟩
instance : PlT Tryz.prog 189 [(0, 1)] := ⟨by kernel_rfl⟩
instance : UT Tryz.prog 190 TypeDesc.unsafePointer := ⟨Tryz.underlying190⟩
instance : SzT Tryz.prog 190 1 := ⟨by kernel_rfl⟩
instance : ByT Tryz.prog 190 8 := ⟨by kernel_rfl⟩
instance : ZrT Tryz.prog 190 (#[Value.pointer none]) := ⟨by kernel_rfl⟩
instance : FlT Tryz.prog 190 := ⟨by kernel_rfl⟩
instance : UT Tryz.prog 191 (TypeDesc.pointer 195) := ⟨Tryz.underlying191⟩
instance : SzT Tryz.prog 191 1 := ⟨by kernel_rfl⟩
instance : ByT Tryz.prog 191 8 := ⟨by kernel_rfl⟩
instance : ZrT Tryz.prog 191 (#[Value.pointer none]) := ⟨by kernel_rfl⟩
instance : FlT Tryz.prog 191 := ⟨by kernel_rfl⟩
instance : UT Tryz.prog 192 (TypeDesc.func #[] #[196] false) := ⟨Tryz.underlying192⟩
instance : SzT Tryz.prog 192 1 := ⟨by kernel_rfl⟩
instance : ByT Tryz.prog 192 8 := ⟨by kernel_rfl⟩
instance : ZrT Tryz.prog 192 (#[Value.nilFunc]) := ⟨by kernel_rfl⟩
instance : FlT Tryz.prog 192 := ⟨by kernel_rfl⟩
instance : UT Tryz.prog 193 (TypeDesc.int IntKind.u16) := ⟨Tryz.underlying193⟩
instance : SzT Tryz.prog 193 1 := ⟨by kernel_rfl⟩
instance : ByT Tryz.prog 193 2 := ⟨by kernel_rfl⟩
instance : ZrT Tryz.prog 193 (#[Value.int .u16 0]) := ⟨by kernel_rfl⟩
instance : FlT Tryz.prog 193 := ⟨by kernel_rfl⟩
instance : UT Tryz.prog 194 (TypeDesc.struct #[{ name := "PkgPath", type := 175, offset := 0, embedded := false, tag := "", pkgPath := "", byteOffset := 0 }, { name := "Mcount", type := 193, offset := 1, embedded := false, tag := "", pkgPath := "", byteOffset := 4 }, { name := "Xcount", type := 193, offset := 2, embedded := false, tag := "", pkgPath := "", byteOffset := 6 }, { name := "Moff", type := 150, offset := 3, embedded := false, tag := "", pkgPath := "", byteOffset := 8 }, { name := "_", type := 150, offset := 4, embedded := false, tag := "", pkgPath := "internal/abi", byteOffset := 12 }]) := ⟨Tryz.underlying194⟩
instance : SzT Tryz.prog 194 5 := ⟨by kernel_rfl⟩
instance : ByT Tryz.prog 194 16 := ⟨by kernel_rfl⟩
instance : ZrT Tryz.prog 194 (#[Value.int .i32 0, Value.int .u16 0, Value.int .u16 0, Value.int .u32 0, Value.int .u32 0]) := ⟨by kernel_rfl⟩
instance : RwT Tryz.prog 194 5 := ⟨by kernel_rfl⟩
instance : PlT Tryz.prog 194 [(0, 1), (1, 1), (2, 1), (3, 1), (4, 1)] := ⟨by kernel_rfl⟩
instance : UT Tryz.prog 195 (TypeDesc.struct #[{ name := "PkgPath", type := 175, offset := 0, embedded := false, tag := "", pkgPath := "", byteOffset := 0 }, { name := "Mcount", type := 193, offset := 1, embedded := false, tag := "", pkgPath := "", byteOffset := 4 }, { name := "Xcount", type := 193, offset := 2, embedded := false, tag := "", pkgPath := "", byteOffset := 6 }, { name := "Moff", type := 150, offset := 3, embedded := false, tag := "", pkgPath := "", byteOffset := 8 }, { name := "_", type := 150, offset := 4, embedded := false, tag := "", pkgPath := "internal/abi", byteOffset := 12 }]) := ⟨Tryz.underlying195⟩
instance : SzT Tryz.prog 195 5 := ⟨by kernel_rfl⟩
instance : ByT Tryz.prog 195 16 := ⟨by kernel_rfl⟩
instance : ZrT Tryz.prog 195 (#[Value.int .i32 0, Value.int .u16 0, Value.int .u16 0, Value.int .u32 0, Value.int .u32 0]) := ⟨by kernel_rfl⟩
instance : RwT Tryz.prog 195 5 := ⟨by kernel_rfl⟩
instance : PlT Tryz.prog 195 [(0, 1), (1, 1), (2, 1), (3, 1), (4, 1)] := ⟨by kernel_rfl⟩
instance : UT Tryz.prog 196 (TypeDesc.slice 199) := ⟨Tryz.underlying196⟩
instance : SzT Tryz.prog 196 1 := ⟨by kernel_rfl⟩
instance : ByT Tryz.prog 196 24 := ⟨by kernel_rfl⟩
instance : ZrT Tryz.prog 196 (#[Value.slice none 0 0]) := ⟨by kernel_rfl⟩
instance : FlT Tryz.prog 196 := ⟨by kernel_rfl⟩
instance : UT Tryz.prog 197 (TypeDesc.int IntKind.i32) := ⟨Tryz.underlying197⟩
instance : SzT Tryz.prog 197 1 := ⟨by kernel_rfl⟩
instance : ByT Tryz.prog 197 4 := ⟨by kernel_rfl⟩
instance : ZrT Tryz.prog 197 (#[Value.int .i32 0]) := ⟨by kernel_rfl⟩
instance : FlT Tryz.prog 197 := ⟨by kernel_rfl⟩
instance : UT Tryz.prog 198 (TypeDesc.struct #[{ name := "Name", type := 175, offset := 0, embedded := false, tag := "", pkgPath := "", byteOffset := 0 }, { name := "Mtyp", type := 176, offset := 1, embedded := false, tag := "", pkgPath := "", byteOffset := 4 }, { name := "Ifn", type := 197, offset := 2, embedded := false, tag := "", pkgPath := "", byteOffset := 8 }, { name := "Tfn", type := 197, offset := 3, embedded := false, tag := "", pkgPath := "", byteOffset := 12 }]) := ⟨Tryz.underlying198⟩
instance : SzT Tryz.prog 198 4 := ⟨by kernel_rfl⟩
instance : ByT Tryz.prog 198 16 := ⟨by kernel_rfl⟩
instance : ZrT Tryz.prog 198 (#[Value.int .i32 0, Value.int .i32 0, Value.int .i32 0, Value.int .i32 0]) := ⟨by kernel_rfl⟩
instance : RwT Tryz.prog 198 4 := ⟨by kernel_rfl⟩
instance : PlT Tryz.prog 198 [(0, 1), (1, 1), (2, 1), (3, 1)] := ⟨by kernel_rfl⟩
instance : UT Tryz.prog 199 (TypeDesc.struct #[{ name := "Name", type := 175, offset := 0, embedded := false, tag := "", pkgPath := "", byteOffset := 0 }, { name := "Mtyp", type := 176, offset := 1, embedded := false, tag := "", pkgPath := "", byteOffset := 4 }, { name := "Ifn", type := 197, offset := 2, embedded := false, tag := "", pkgPath := "", byteOffset := 8 }, { name := "Tfn", type := 197, offset := 3, embedded := false, tag := "", pkgPath := "", byteOffset := 12 }]) := ⟨Tryz.underlying199⟩
instance : SzT Tryz.prog 199 4 := ⟨by kernel_rfl⟩
instance : ByT Tryz.prog 199 16 := ⟨by kernel_rfl⟩
instance : ZrT Tryz.prog 199 (#[Value.int .i32 0, Value.int .i32 0, Value.int .i32 0, Value.int .i32 0]) := ⟨by kernel_rfl⟩
instance : RwT Tryz.prog 199 4 := ⟨by kernel_rfl⟩
instance : PlT Tryz.prog 199 [(0, 1), (1, 1), (2, 1), (3, 1)] := ⟨by kernel_rfl⟩
instance : UT Tryz.prog 200 (TypeDesc.func #[9] #[60] false) := ⟨Tryz.underlying200⟩
instance : SzT Tryz.prog 200 1 := ⟨by kernel_rfl⟩
instance : ByT Tryz.prog 200 8 := ⟨by kernel_rfl⟩
instance : ZrT Tryz.prog 200 (#[Value.nilFunc]) := ⟨by kernel_rfl⟩
instance : FlT Tryz.prog 200 := ⟨by kernel_rfl⟩
theorem mixed : Tryz.prog.follows .mixedOrders = true := by kernel_rfl
end Go.Proofs.YtgmghkakiocmjaaGreatDoor
namespace Go.Proofs.YtgmghkakiocmjaaGreatDoor
open Go Go.RowKit
set_option linter.unusedVariables false
set_option linter.unusedSimpArgs false
def secE (f : Nat → Int) : List Value := (List.range 64).map fun j => .int .u8 (f j)
def secV (f : Nat → Int) : Value := .agg (secE f).toArray
theorem secE_len (f : Nat → Int) : (secE f).length = 64 := by simp [secE]
theorem secE_one (f : Nat → Int) : allOne (secE f) = true := by
  unfold secE
  generalize List.range 64 = l
  induction l with
  | nil => rfl
  | cons x l ih => simpa [allOne, Value.oneCell'] using ih
structure Dk where
  secs : List (Nat → Int)
  M : List (ME (Nat → Int))
  cl : Nat
  fused : Bool
  fuse : Int
  gone : Bool
def Dk.new (n : Nat) : Dk := ⟨List.replicate n (fun _ => 0), [], 0, false, 0, false⟩
def Dk.pgone (D : Dk) : Bool := D.gone || (D.fused && D.fuse == 0)
abbrev DskL (gd gw gm : Nat) (D : Dk) : List Chunk := [.blk gd (.cells #[.slice (some ⟨gw, 0, none⟩) D.secs.length D.secs.length, .map (some gm), .bool D.fused, .int .i64 D.fuse, .bool D.gone] 52 (0, 0)), .blk gw (.cells (D.secs.flatMap secE).toArray 80 (0, 0)), .blk gm (.map (mEs secV D.M) D.cl)]
theorem feetD {gd gw gm : Nat} {D : Dk} : feet (DskL gd gw gm D) = [gd, gw, gm] := rfl
set_option maxRecDepth 100000 in
set_option maxHeartbeats 4000000 in
theorem has_t (gd : Nat) (n : Nat) (s : Option Addr) (c : Nat) (vs : List Value) (i : Int) (w : World) (hO : Old w gd 0 (.slice s n c :: vs)) (hi : 0 ≤ i ∧ i < n) : CA Tryz.prog 75 [.pointer (some ⟨gd, 0, none⟩), .int .i64 i] w (RV (.bool true) w) := by
  refine enter (L := []) (X := []) Tryz.func75 rfl Tryz.ntmps75 rfl rfl (Has.nil _) ?_
  repeat (first | refine c_seq ?_ | (refine c_region (id := 0) ?_; refine sq qa ?_; refine l_nil ?_) | (refine c_region (id := 1) ?_; refine sq qm ?_; refine sq (by first | exact dgeqt | exact dgeqf) ?_; refine sq qm ?_; (first | refine sk ?_ | refine skv ?_ | (refine st_want rfl rfl ?_; refine sq qm ?_)); (first | refine sk ?_ | refine skv ?_ | (refine st_want rfl rfl ?_; refine sq qm ?_)); (first | refine sk ?_ | refine skv ?_ | (refine st_want rfl rfl ?_; refine sq qn ?_)); (first | refine sk ?_ | refine skv ?_ | (refine st_want rfl rfl ?_; refine sq qf ?_)); (first | refine sk ?_ | refine skv ?_ | (refine st_want rfl rfl ?_; refine sq (by exact ql (hr := Rd.oldn (j := 0) hO (by rfl) (by simp))) ?_)); (first | refine sk ?_ | refine skv ?_ | (refine st_want rfl rfl ?_; refine sq qls ?_)); (first | refine sk ?_ | refine skv ?_ | (refine st_want rfl rfl ?_; refine sq (by first | exact dlsst | exact dlssf) ?_)); refine sq (by first | exact qpt | exact qpf) ?_; refine sq qa ?_; refine l_nil ?_) | refine n_then ?_ | refine c_block ?_ | refine c_skip ?_ | refine n_block ?_ | refine c_exit ?_ | refine n_then_exit ?_ | refine n_block_eq ?_ | refine n_block_ne rfl ?_ | refine c_ret ?_ | refine n_then_ret ?_ | refine n_block_ret ?_ | refine c_cond_t rfl ?_ | refine c_cond_f rfl ?_ | refine r_succ ?_ )
  (first | apply r_ret () | apply r_end ()); exact rfl; exact rfl; exact (.tmp rfl .nil); exact rfl; exact (List.nil_sublist _); exact new_nil; exact trivial
set_option maxRecDepth 100000 in
set_option maxHeartbeats 4000000 in
theorem pow_c (gd gm : Nat) (s : Value) (fu go : Bool) (fz : Int) (hf : 0 ≤ fz ∧ fz ≤ 9223372036854775807) (w : World) (hL0 : Has [.blk gd (.cells #[s, .map (some gm), .bool fu, .int .i64 fz, .bool go] 52 (0, 0))] w) :
    CA Tryz.prog 78 [.pointer (some ⟨gd, 0, none⟩)] w (RU (.bool (!(go || (fu && fz == 0)))) gd (.cells #[s, .map (some gm), .bool fu, .int .i64 (if go || (fu && fz == 0) then fz else if fu then fz - 1 else fz), .bool (go || (fu && fz == 0))] 52 (0, 0)) w) := by
  cases fu with
  | false =>
    simp only [Bool.false_and, Bool.or_false, Bool.false_eq_true, if_false, ite_self]
    cases go with
    | true =>
      refine enter (L := [.blk gd (.cells #[s, .map (some gm), .bool false, .int .i64 fz, .bool true] 52 (0, 0))]) (X := [gd]) Tryz.func78 rfl Tryz.ntmps78 rfl rfl hL0 ?_
      repeat (first | refine c_seq ?_ | (refine c_region (id := 0) ?_; refine sq qa ?_; refine l_nil ?_) | (refine c_region (id := 1) ?_; refine sq qm ?_; refine sq qn ?_; refine sq qf ?_; refine sq ql ?_; refine sq qm ?_; (first | refine sk ?_ | refine skv ?_ | (refine st_want rfl rfl ?_; refine sq qm ?_)); (first | refine sk ?_ | refine skv ?_ | (refine st_want rfl rfl ?_; refine sq qn ?_)); (first | refine sk ?_ | refine skv ?_ | (refine st_want rfl rfl ?_; refine sq qf ?_)); (first | refine sk ?_ | refine skv ?_ | (refine st_want rfl rfl ?_; refine sq ql ?_)); (first | refine sk ?_ | refine skv ?_ | (refine st_want rfl rfl ?_; refine sq (by first | exact deqlt | exact deqlf) ?_)); refine sq (by first | exact qpt | exact qpf) ?_; refine l_nil ?_) | (refine c_region (id := 3) ?_; refine sq qm ?_; refine sq qn ?_; refine sq qf ?_; refine sq ql ?_; refine l_nil ?_) | (refine c_region (id := 4) ?_; refine sq qa ?_; refine l_nil ?_) | refine n_then ?_ | refine c_block ?_ | refine c_skip ?_ | refine n_block ?_ | refine c_exit ?_ | refine n_then_exit ?_ | refine n_block_eq ?_ | refine n_block_ne rfl ?_ | refine c_ret ?_ | refine n_then_ret ?_ | refine n_block_ret ?_ | refine c_cond_t rfl ?_ | refine c_cond_f rfl ?_ | refine r_succ ?_ )
      (first | apply r_ret () | apply r_end ()); exact rfl; exact rfl; exact (.tmp rfl .nil); exact rfl; exact (by exact (by (repeat (first | exact List.nil_sublist _ | exact List.Sublist.slnil | apply List.Sublist.cons_cons | exact List.Sublist.refl _ | apply List.Sublist.cons)))); exact (by intro g hg; simp [feet, Chunk.foot] at hg; exact .inl (by simp [hg])); exact trivial
    | false =>
      refine enter (L := [.blk gd (.cells #[s, .map (some gm), .bool false, .int .i64 fz, .bool false] 52 (0, 0))]) (X := [gd]) Tryz.func78 rfl Tryz.ntmps78 rfl rfl hL0 ?_
      repeat (first | refine c_seq ?_ | (refine c_region (id := 0) ?_; refine sq qa ?_; refine l_nil ?_) | (refine c_region (id := 1) ?_; refine sq qm ?_; refine sq qn ?_; refine sq qf ?_; refine sq ql ?_; refine sq qm ?_; (first | refine sk ?_ | refine skv ?_ | (refine st_want rfl rfl ?_; refine sq qm ?_)); (first | refine sk ?_ | refine skv ?_ | (refine st_want rfl rfl ?_; refine sq qn ?_)); (first | refine sk ?_ | refine skv ?_ | (refine st_want rfl rfl ?_; refine sq qf ?_)); (first | refine sk ?_ | refine skv ?_ | (refine st_want rfl rfl ?_; refine sq ql ?_)); (first | refine sk ?_ | refine skv ?_ | (refine st_want rfl rfl ?_; refine sq (by first | exact deqlt | exact deqlf) ?_)); refine sq (by first | exact qpt | exact qpf) ?_; refine l_nil ?_) | (refine c_region (id := 3) ?_; refine sq qm ?_; refine sq qn ?_; refine sq qf ?_; refine sq ql ?_; refine l_nil ?_) | (refine c_region (id := 5) ?_; refine sq qm ?_; refine sq qn ?_; refine sq qf ?_; refine sq ql ?_; refine l_nil ?_) | (refine c_region (id := 7) ?_; refine sq qa ?_; refine l_nil ?_) | refine n_then ?_ | refine c_block ?_ | refine c_skip ?_ | refine n_block ?_ | refine c_exit ?_ | refine n_then_exit ?_ | refine n_block_eq ?_ | refine n_block_ne rfl ?_ | refine c_ret ?_ | refine n_then_ret ?_ | refine n_block_ret ?_ | refine c_cond_t rfl ?_ | refine c_cond_f rfl ?_ | refine r_succ ?_ )
      (first | apply r_ret () | apply r_end ()); exact rfl; exact rfl; exact (.tmp rfl .nil); exact rfl; exact (by exact (by (repeat (first | exact List.nil_sublist _ | exact List.Sublist.slnil | apply List.Sublist.cons_cons | exact List.Sublist.refl _ | apply List.Sublist.cons)))); exact (by intro g hg; simp [feet, Chunk.foot] at hg; exact .inl (by simp [hg])); exact trivial
  | true =>
    simp only [Bool.true_and, if_true]
    by_cases hz : fz = 0
    · have e : (fz == 0) = true := by simpa using hz
      rw [e]
      simp only [Bool.or_true, if_true, Bool.not_true]
      cases go with
      | true =>
        refine enter (L := [.blk gd (.cells #[s, .map (some gm), .bool true, .int .i64 fz, .bool true] 52 (0, 0))]) (X := [gd]) Tryz.func78 rfl Tryz.ntmps78 rfl rfl hL0 ?_
        repeat (first | refine c_seq ?_ | (refine c_region (id := 0) ?_; refine sq qa ?_; refine l_nil ?_) | (refine c_region (id := 1) ?_; refine sq qm ?_; refine sq qn ?_; refine sq qf ?_; refine sq ql ?_; refine sq qm ?_; (first | refine sk ?_ | refine skv ?_ | (refine st_want rfl rfl ?_; refine sq qm ?_)); (first | refine sk ?_ | refine skv ?_ | (refine st_want rfl rfl ?_; refine sq qn ?_)); (first | refine sk ?_ | refine skv ?_ | (refine st_want rfl rfl ?_; refine sq qf ?_)); (first | refine sk ?_ | refine skv ?_ | (refine st_want rfl rfl ?_; refine sq ql ?_)); (first | refine sk ?_ | refine skv ?_ | (refine st_want rfl rfl ?_; refine sq (by first | exact deqlt | exact deqlf) ?_)); refine sq (by first | exact qpt | exact qpf) ?_; refine l_nil ?_) | (refine c_region (id := 2) ?_; refine sq qm ?_; refine sq qn ?_; refine sq qf ?_; refine se ?_; refine es1 ?_ (hg := .inl (by simp)); refine l_nil ?_) | (refine c_region (id := 3) ?_; refine sq qm ?_; refine sq qn ?_; refine sq qf ?_; refine sq ql ?_; refine l_nil ?_) | (refine c_region (id := 4) ?_; refine sq qa ?_; refine l_nil ?_) | refine n_then ?_ | refine c_block ?_ | refine c_skip ?_ | refine n_block ?_ | refine c_exit ?_ | refine n_then_exit ?_ | refine n_block_eq ?_ | refine n_block_ne rfl ?_ | refine c_ret ?_ | refine n_then_ret ?_ | refine n_block_ret ?_ | refine c_cond_t rfl ?_ | refine c_cond_f rfl ?_ | refine r_succ ?_ )
        (first | apply r_ret () | apply r_end ()); exact rfl; exact rfl; exact (.tmp rfl .nil); exact rfl; exact (by exact (by (repeat (first | exact List.nil_sublist _ | exact List.Sublist.slnil | apply List.Sublist.cons_cons | exact List.Sublist.refl _ | apply List.Sublist.cons)))); exact (by intro g hg; simp [feet, Chunk.foot] at hg; exact .inl (by simp [hg])); exact trivial
      | false =>
        refine enter (L := [.blk gd (.cells #[s, .map (some gm), .bool true, .int .i64 fz, .bool false] 52 (0, 0))]) (X := [gd]) Tryz.func78 rfl Tryz.ntmps78 rfl rfl hL0 ?_
        repeat (first | refine c_seq ?_ | (refine c_region (id := 0) ?_; refine sq qa ?_; refine l_nil ?_) | (refine c_region (id := 1) ?_; refine sq qm ?_; refine sq qn ?_; refine sq qf ?_; refine sq ql ?_; refine sq qm ?_; (first | refine sk ?_ | refine skv ?_ | (refine st_want rfl rfl ?_; refine sq qm ?_)); (first | refine sk ?_ | refine skv ?_ | (refine st_want rfl rfl ?_; refine sq qn ?_)); (first | refine sk ?_ | refine skv ?_ | (refine st_want rfl rfl ?_; refine sq qf ?_)); (first | refine sk ?_ | refine skv ?_ | (refine st_want rfl rfl ?_; refine sq ql ?_)); (first | refine sk ?_ | refine skv ?_ | (refine st_want rfl rfl ?_; refine sq (by first | exact deqlt | exact deqlf) ?_)); refine sq (by first | exact qpt | exact qpf) ?_; refine l_nil ?_) | (refine c_region (id := 2) ?_; refine sq qm ?_; refine sq qn ?_; refine sq qf ?_; refine se ?_; refine es1 ?_ (hg := .inl (by simp)); refine l_nil ?_) | (refine c_region (id := 3) ?_; refine sq qm ?_; refine sq qn ?_; refine sq qf ?_; refine sq ql ?_; refine l_nil ?_) | (refine c_region (id := 4) ?_; refine sq qa ?_; refine l_nil ?_) | refine n_then ?_ | refine c_block ?_ | refine c_skip ?_ | refine n_block ?_ | refine c_exit ?_ | refine n_then_exit ?_ | refine n_block_eq ?_ | refine n_block_ne rfl ?_ | refine c_ret ?_ | refine n_then_ret ?_ | refine n_block_ret ?_ | refine c_cond_t rfl ?_ | refine c_cond_f rfl ?_ | refine r_succ ?_ )
        (first | apply r_ret () | apply r_end ()); exact rfl; exact rfl; exact (.tmp rfl .nil); exact rfl; exact (by exact (by (repeat (first | exact List.nil_sublist _ | exact List.Sublist.slnil | apply List.Sublist.cons_cons | exact List.Sublist.refl _ | apply List.Sublist.cons)))); exact (by intro g hg; simp [feet, Chunk.foot] at hg; exact .inl (by simp [hg])); exact trivial
    · have e : (fz == 0) = false := by simpa using hz
      rw [e]
      simp only [Bool.or_false]
      cases go with
      | true =>
        simp only [if_true, Bool.not_true]
        refine enter (L := [.blk gd (.cells #[s, .map (some gm), .bool true, .int .i64 fz, .bool true] 52 (0, 0))]) (X := [gd]) Tryz.func78 rfl Tryz.ntmps78 rfl rfl hL0 ?_
        repeat (first | refine c_seq ?_ | (refine c_region (id := 0) ?_; refine sq qa ?_; refine l_nil ?_) | (refine c_region (id := 1) ?_; refine sq qm ?_; refine sq qn ?_; refine sq qf ?_; refine sq ql ?_; refine sq qm ?_; (first | refine sk ?_ | refine skv ?_ | (refine st_want rfl rfl ?_; refine sq qm ?_)); (first | refine sk ?_ | refine skv ?_ | (refine st_want rfl rfl ?_; refine sq qn ?_)); (first | refine sk ?_ | refine skv ?_ | (refine st_want rfl rfl ?_; refine sq qf ?_)); (first | refine sk ?_ | refine skv ?_ | (refine st_want rfl rfl ?_; refine sq ql ?_)); (first | refine sk ?_ | refine skv ?_ | (refine st_want rfl rfl ?_; refine sq (by first | exact deqlt | exact deqlf) ?_)); refine sq (by first | exact qpt | exact qpf) ?_; refine l_nil ?_) | (refine c_region (id := 3) ?_; refine sq qm ?_; refine sq qn ?_; refine sq qf ?_; refine sq ql ?_; refine l_nil ?_) | (refine c_region (id := 4) ?_; refine sq qa ?_; refine l_nil ?_) | refine n_then ?_ | refine c_block ?_ | refine c_skip ?_ | refine n_block ?_ | refine c_exit ?_ | refine n_then_exit ?_ | refine n_block_eq ?_ | refine n_block_ne rfl ?_ | refine c_ret ?_ | refine n_then_ret ?_ | refine n_block_ret ?_ | refine c_cond_t rfl ?_ | refine c_cond_f rfl ?_ | refine r_succ ?_ )
        (first | apply r_ret () | apply r_end ()); exact rfl; exact rfl; exact (.tmp rfl .nil); exact rfl; exact (by exact (by (repeat (first | exact List.nil_sublist _ | exact List.Sublist.slnil | apply List.Sublist.cons_cons | exact List.Sublist.refl _ | apply List.Sublist.cons)))); exact (by intro g hg; simp [feet, Chunk.foot] at hg; exact .inl (by simp [hg])); exact trivial
      | false =>
        simp only [Bool.false_eq_true, if_false, Bool.not_false]
        refine enter (L := [.blk gd (.cells #[s, .map (some gm), .bool true, .int .i64 fz, .bool false] 52 (0, 0))]) (X := [gd]) Tryz.func78 rfl Tryz.ntmps78 rfl rfl hL0 ?_
        repeat (first | refine c_seq ?_ | (refine c_region (id := 0) ?_; refine sq qa ?_; refine l_nil ?_) | (refine c_region (id := 1) ?_; refine sq qm ?_; refine sq qn ?_; refine sq qf ?_; refine sq ql ?_; refine sq qm ?_; (first | refine sk ?_ | refine skv ?_ | (refine st_want rfl rfl ?_; refine sq qm ?_)); (first | refine sk ?_ | refine skv ?_ | (refine st_want rfl rfl ?_; refine sq qn ?_)); (first | refine sk ?_ | refine skv ?_ | (refine st_want rfl rfl ?_; refine sq qf ?_)); (first | refine sk ?_ | refine skv ?_ | (refine st_want rfl rfl ?_; refine sq ql ?_)); (first | refine sk ?_ | refine skv ?_ | (refine st_want rfl rfl ?_; refine sq (by first | exact deqlt | exact deqlf) ?_)); refine sq (by first | exact qpt | exact qpf) ?_; refine l_nil ?_) | (refine c_region (id := 3) ?_; refine sq qm ?_; refine sq qn ?_; refine sq qf ?_; refine sq ql ?_; refine l_nil ?_) | (refine c_region (id := 5) ?_; refine sq qm ?_; refine sq qn ?_; refine sq qf ?_; refine sq ql ?_; refine l_nil ?_) | (refine c_region (id := 6) ?_; refine sq qm ?_; refine sq qn ?_; refine sq qf ?_; refine sq ql ?_; refine sq qsub64 ?_; refine sq qn ?_; refine sq qf ?_; refine se ?_; refine es1 ?_ (hg := .inl (by simp)); refine l_nil ?_) | (refine c_region (id := 7) ?_; refine sq qa ?_; refine l_nil ?_) | refine n_then ?_ | refine c_block ?_ | refine c_skip ?_ | refine n_block ?_ | refine c_exit ?_ | refine n_then_exit ?_ | refine n_block_eq ?_ | refine n_block_ne rfl ?_ | refine c_ret ?_ | refine n_then_ret ?_ | refine n_block_ret ?_ | refine c_cond_t rfl ?_ | refine c_cond_f rfl ?_ | refine r_succ ?_ )
        (first | apply r_ret () | apply r_end ()); exact rfl; exact rfl; exact (.tmp rfl .nil); exact rfl; exact (by exact (by (repeat (first | exact List.nil_sublist _ | exact List.Sublist.slnil | apply List.Sublist.cons_cons | exact List.Sublist.refl _ | apply List.Sublist.cons)))); exact (by intro g hg; simp [feet, Chunk.foot] at hg; exact .inl (by simp [hg])); exact trivial
theorem slblkZ {n m : Nat} {T : List (Nat × Value)} {X : List Nat} {w0 : World} {L L' : List Chunk} {F : Act → World → Prop} {e : TypeId} {g cap sz : Nat} {xs : List Value} (hc : xs.length = cap * sz) (hp : Pl (.sl (some ⟨g, 0, none⟩) cap e sz xs) (.blk g (.cells xs.toArray e (0, 0))) L L') (h : ∀ a w, SS n T X w0 m L' a w → F a w) : ∀ a w, SS n T X w0 m L a w → F a w := by
  intro a w hs
  have hk := hs.has.ok _ hp.mem
  refine h a w ⟨hs.agr, hs.ch, hs.size, Has.repl hp hs.has (fun g hg => .inl (by simpa [Chunk.foot] using hg)) ?_ (fun _ _ _ => rfl)⟩
  simp only [Chunk.ok] at hk ⊢
  rcases hk with ⟨h1, _⟩ | ⟨g', cs, h1, h2, h3, h4⟩
  · cases h1
  · simp only [Option.some.injEq, Addr.mk.injEq, and_true] at h1
    subst h1
    rw [h2]
    congr 2
    have h5 : cs.toList = xs := by
      rw [← h4, List.take_of_length_le (by simp; omega)]
    rw [← h5, Array.toArray_toList]
theorem zsec : secE (fun _ => 0) = List.replicate 64 (.int .u8 0) := rfl
theorem madeSec (n : Nat) : (madeCells (List.replicate 64 (Value.int .u8 0)).toArray (n * 64)).toList = (List.replicate n (fun _ : Nat => (0 : Int))).flatMap secE := by
  have h1 : (madeCells (List.replicate 64 (Value.int .u8 0)).toArray (n * 64)).toList = List.replicate (n * 64) (.int .u8 0) := by
    rw [List.eq_replicate_iff]
    refine ⟨by simp [madeCells], fun b hb => ?_⟩
    simp only [madeCells, Array.toList_map, List.mem_map] at hb
    obtain ⟨i, _, rfl⟩ := hb
    have hlt : i % (List.replicate 64 (Value.int .u8 0)).toArray.size < (List.replicate 64 (Value.int .u8 0)).toArray.size := Nat.mod_lt _ (by simp)
    rw [getElem!_pos (List.replicate 64 (Value.int .u8 0)).toArray (i % _) hlt]
    simp only [List.getElem_toArray, List.getElem_replicate]
  rw [h1]
  symm
  rw [List.eq_replicate_iff]
  refine ⟨by rw [flat_len secE_len]; simp, fun b hb => ?_⟩
  obtain ⟨f, hf, hb⟩ := List.mem_flatMap.1 hb
  rw [List.eq_of_mem_replicate hf, zsec] at hb
  exact List.eq_of_mem_replicate hb
set_option maxRecDepth 100000 in
set_option maxHeartbeats 4000000 in
theorem newd_c (n : Nat) (hn : n ≤ 16384) (w : World) :
    CA Tryz.prog 7 [.int .i64 (n : Int)] w (Ret (fun z : Nat × Nat × Nat => .pointer (some ⟨z.1, 0, none⟩)) [] (fun z => DskL z.1 z.2.1 z.2.2 (Dk.new n)) (fun _ => True) w) := by
  refine enter (L := []) (X := []) Tryz.func7 rfl Tryz.ntmps7 rfl rfl (Has.nil _) ?_
  repeat (first | refine c_seq ?_ | (refine c_region (id := 0) ?_; refine sq qa ?_; refine l_nil ?_) | (refine c_region (id := 1) ?_; refine sq qm ?_; refine sq (by exact Qt.cast (v' := .int .i64 ((n : Nat) : Int)) (congrArg (Value.int .i64) (by split <;> omega)) (q_max rfl rfl)) ?_; refine sq (by exact Qt.cast (v' := .int .i64 ((n : Nat) : Int)) (congrArg (Value.int .i64) (by split <;> omega)) (q_min rfl rfl)) ?_; refine se ?_; refine e_make (zs := (List.replicate 64 (Value.int .u8 0)).toArray) rfl rfl rfl (by omega) (by omega) (by omega) (by omega) ?_; refine se ?_; refine e_makeMap secV rfl ?_; refine sq qbs ?_; refine se ?_; refine eb ?_; refine sq qa ?_; refine l_nil ?_) | refine n_then ?_ | refine c_block ?_ | refine c_skip ?_ | refine n_block ?_ | refine c_exit ?_ | refine n_then_exit ?_ | refine n_block_eq ?_ | refine n_block_ne rfl ?_ | refine c_ret ?_ | refine n_then_ret ?_ | refine n_block_ret ?_ | refine c_cond_t rfl ?_ | refine c_cond_f rfl ?_ | refine r_succ ?_ )
  refine chg (L' := [.blk (w.heap.size + 1 + 1) (.cells #[.slice (some ⟨w.heap.size, 0, none⟩) n n, .map (some (w.heap.size + 1)), .bool false, .int .i64 0, .bool false] 52 (0, 0)), .blk (w.heap.size + 1) (.map (mEs secV []) 0), .sl (some ⟨w.heap.size, 0, none⟩) n 80 64 ((List.replicate n (fun _ : Nat => (0 : Int))).flatMap secE)]) (by rw [← madeSec]; rfl) ?_
  refine slblkZ (g := w.heap.size) (cap := n) (sz := 64) (xs := (List.replicate n (fun _ : Nat => (0 : Int))).flatMap secE) (by rw [flat_len secE_len]; simp) (by (repeat (first | exact Pl.here | apply Pl.there))) ?_
  refine fgs (A := DskL (w.heap.size + 1 + 1) w.heap.size (w.heap.size + 1) (Dk.new n)) (R := []) (by unfold Dk.new DskL; simp only [List.length_replicate]; exact Sp.cons (by (repeat (first | exact Rm.here | apply Rm.there))) (Sp.cons (by (repeat (first | exact Rm.here | apply Rm.there))) (Sp.cons (by (repeat (first | exact Rm.here | apply Rm.there))) Sp.nil))) ?_
  (first | apply r_ret (w.heap.size + 1 + 1, w.heap.size, w.heap.size + 1) | apply r_end (w.heap.size + 1 + 1, w.heap.size, w.heap.size + 1)); exact rfl; exact rfl; exact (.tmp rfl .nil); exact rfl; exact (List.Sublist.refl _); exact (by intro g hg; rw [feetD] at hg; simp at hg; rcases hg with hg | hg | hg <;> exact .inr (by omega)); exact trivial
end Go.Proofs.YtgmghkakiocmjaaGreatDoor
namespace Go.Proofs.YtgmghkakiocmjaaGreatDoor
open Go Go.RowKit
set_option linter.unusedVariables false
set_option linter.unusedSimpArgs false
theorem allOne_u8c (l : List Int) : allOne (l.map (Value.int .u8)) = true := by
  induction l with
  | nil => rfl
  | cons x l ih => simpa [allOne, Value.oneCell'] using ih
set_option maxRecDepth 100000 in
set_option maxHeartbeats 4000000 in
theorem clone_c (a : Option Addr) (len cap : Nat) (xs : List Int) (hxl : xs.length = len) (hbig : len ≤ 100000000) (w : World) (hs : SlE (Value.int .u8) w a xs) :
    CA Tryz.prog 55 [.slice a len cap] w (RLe (Value.int .u8) 5 (fun zs => zs = xs) w) := by
  rcases a with _ | p
  · have hx0 : xs = [] := by
      rcases hs.h with h9 | ⟨g, o, e, _⟩
      · exact h9
      · cases e
    refine enter (L := []) (X := []) Tryz.func55 rfl Tryz.ntmps55 rfl rfl (Has.nil _) ?_
    repeat (first | refine c_seq ?_ | (refine c_region (id := 0) ?_; refine sq qa ?_; refine l_nil ?_) | (refine c_region (id := 1) ?_; refine sq qm ?_; refine sq (by exact q_eql_nil rfl rfl) ?_; refine l_nil ?_) | (refine c_region (id := 2) ?_; refine sq qa ?_; refine l_nil ?_) | refine n_then ?_ | refine c_block ?_ | refine c_skip ?_ | refine n_block ?_ | refine c_exit ?_ | refine n_then_exit ?_ | refine n_block_eq ?_ | refine n_block_ne rfl ?_ | refine c_ret ?_ | refine n_then_ret ?_ | refine n_block_ret ?_ | refine c_cond_t rfl ?_ | refine c_cond_f rfl ?_ | refine r_succ ?_ )
    refine add_nil 5 1 ?_
    (first | apply r_ret (none, 0, []) | apply r_end (none, 0, [])); exact rfl; exact rfl; exact (.tmp rfl .nil); exact rfl; exact (by exact (by (repeat (first | exact List.nil_sublist _ | exact List.Sublist.slnil | apply List.Sublist.cons_cons | exact List.Sublist.refl _ | apply List.Sublist.cons)))); exact (new_sl (OS.nil [] w.heap.size).newc new_nil); exact ⟨by simp, hx0.symm⟩
  · refine enter (L := []) (X := []) Tryz.func55 rfl Tryz.ntmps55 rfl rfl (Has.nil _) ?_
    repeat (first | refine c_seq ?_ | (refine c_region (id := 0) ?_; refine sq qa ?_; refine l_nil ?_) | (refine c_region (id := 1) ?_; refine sq qm ?_; refine sq (by exact q_eql_nil rfl rfl) ?_; refine l_nil ?_) | (refine c_region (id := 3) ?_; refine se ?_; refine e_buildSlice0 rfl ?_; refine sq qm ?_; refine se ?_; refine e_appL (Value.int .u8) [] xs rfl rfl rfl (by (repeat (first | exact Rm.here | apply Rm.there))) hs.rdN rfl hxl ⟨Nat.le_refl _, by omega, .inr ⟨_, rfl⟩, by simp [Chunk.foot]⟩ (allOne_u8c _) (by omega) (by omega) ?_; intro b1 cap1 m1 ho1 hm1; refine sq qa ?_; refine l_nil ?_) | refine n_then ?_ | refine c_block ?_ | refine c_skip ?_ | refine n_block ?_ | refine c_exit ?_ | refine n_then_exit ?_ | refine n_block_eq ?_ | refine n_block_ne rfl ?_ | refine c_ret ?_ | refine n_then_ret ?_ | refine n_block_ret ?_ | refine c_cond_t rfl ?_ | refine c_cond_f rfl ?_ | refine r_succ ?_ )
    rw [Nat.zero_add, ← hxl] at ho1 ⊢
    (first | apply r_ret (b1, cap1, xs) | apply r_end (b1, cap1, xs)); exact rfl; exact rfl; exact (.tmp rfl .nil); exact rfl; exact (by exact (by (repeat (first | exact List.nil_sublist _ | exact List.Sublist.slnil | apply List.Sublist.cons_cons | exact List.Sublist.refl _ | apply List.Sublist.cons)))); exact (new_sl ho1.newc new_nil); exact ⟨by have h9 := ho1.ret; exact h9, rfl⟩
def secL (f : Nat → Int) (i : Nat) : List Int := (List.range i).map f
theorem secL_len (f : Nat → Int) (i : Nat) : (secL f i).length = i := by simp [secL]
theorem secE_eq (f : Nat → Int) : secE f = (secL f 64).map (Value.int .u8) := by simp [secE, secL]
end Go.Proofs.YtgmghkakiocmjaaGreatDoor
namespace Go.Proofs.YtgmghkakiocmjaaGreatDoor
open Go Go.RowKit
set_option linter.unusedVariables false
section
variable {P : Program} {n m d : Nat} {T : List (Nat × Value)} {X : List Nat} {w0 : World} {L L' : List Chunk} {K : Act → World → Prop} {Q : Exit → Act → World → Prop} {x y : Operand} {ty t e src : TypeId} {pos : String} {af : Array Edge} {gu : Option (Nat × Bool)}
theorem q_s2ap {k : Nat} {b : Option Addr} {len cap : Nat} {dst : Option Tmp} (hx : ev T x = some (.slice b len cap)) [hu : UT P t (.array k e)] (hk : k ≤ len) : Qt P X w0 ⟨dst, .sliceToArrayPointer t x, ty, pos, af, gu⟩ T L (.pointer b) := by
  refine ⟨?_⟩
  intro n a w hA hC hL
  simp [execOp, hA.eval hx, run_arrayAt (P := P) w t e k b len cap hu.h hk]
end
end Go.Proofs.YtgmghkakiocmjaaGreatDoor
namespace Go.Proofs.YtgmghkakiocmjaaGreatDoor
open Go Go.RowKit
set_option linter.unusedVariables false
set_option linter.unusedSimpArgs false
def Dk.dead (D : Dk) : Dk := { D with gone := true }
def Dk.lit (D : Dk) : Dk := { D with fuse := if D.fused then D.fuse - 1 else D.fuse, gone := false }
def Dk.put (D : Dk) (i : Nat) (f : Nat → Int) : Dk := match mFind D.M i with
  | none => { D with secs := D.secs.set i f, M := D.M ++ [((i : Int), (D.secs[i]?).getD (fun _ => 0), D.cl)], cl := D.cl + 1 }
  | some _ => { D with secs := D.secs.set i f }
theorem setSec (f : Nat → Int) {secs : List (Nat → Int)} {i : Nat} {g : Nat → Int} (h : secs[i]? = some g) : setA (secs.flatMap secE).toArray (i * 64) (secE f) = ((secs.set i f).flatMap secE).toArray := by
  have hi := (List.getElem?_eq_some_iff.1 h).1
  apply Array.ext'
  rw [setA_toList _ _ _ (by simp only [List.size_toArray, secE_len, flat_len secE_len]; omega)]
  simp only [secE_len]
  rw [List.set_eq_take_append_cons_drop, if_pos hi, List.flatMap_append, List.flatMap_cons, flat_take secE_len, flat_drop secE_len]
  simp only [Nat.add_mul, Nat.one_mul, List.append_assoc]
theorem pow_no (gd gw gm : Nat) (D : Dk) (hf : 0 ≤ D.fuse ∧ D.fuse ≤ 9223372036854775807) (hp : D.pgone = true) (w : World) (h : Has [.blk gd (.cells #[.slice (some ⟨gw, 0, none⟩) D.secs.length D.secs.length, .map (some gm), .bool D.fused, .int .i64 D.fuse, .bool D.gone] 52 (0, 0))] w) :
    CA Tryz.prog 78 [.pointer (some ⟨gd, 0, none⟩)] w (RU (.bool false) gd (.cells #[.slice (some ⟨gw, 0, none⟩) D.secs.length D.secs.length, .map (some gm), .bool D.fused, .int .i64 D.fuse, .bool true] 52 (0, 0)) w) := by
  have h1 := pow_c gd gm (.slice (some ⟨gw, 0, none⟩) D.secs.length D.secs.length) D.fused D.gone D.fuse hf w h
  unfold Dk.pgone at hp
  rw [hp] at h1
  exact h1
theorem pow_yes (gd gw gm : Nat) (D : Dk) (hf : 0 ≤ D.fuse ∧ D.fuse ≤ 9223372036854775807) (hp : D.pgone = false) (w : World) (h : Has [.blk gd (.cells #[.slice (some ⟨gw, 0, none⟩) D.secs.length D.secs.length, .map (some gm), .bool D.fused, .int .i64 D.fuse, .bool D.gone] 52 (0, 0))] w) :
    CA Tryz.prog 78 [.pointer (some ⟨gd, 0, none⟩)] w (RU (.bool true) gd (.cells #[.slice (some ⟨gw, 0, none⟩) D.secs.length D.secs.length, .map (some gm), .bool D.fused, .int .i64 (if D.fused then D.fuse - 1 else D.fuse), .bool false] 52 (0, 0)) w) := by
  have h1 := pow_c gd gm (.slice (some ⟨gw, 0, none⟩) D.secs.length D.secs.length) D.fused D.gone D.fuse hf w h
  unfold Dk.pgone at hp
  rw [hp] at h1
  exact h1
set_option maxRecDepth 100000 in
set_option maxHeartbeats 4000000 in
theorem rd_ok (gd gw gm : Nat) (D : Dk) (i : Nat) (f : Nat → Int) (hs : D.secs[i]? = some f) (hg : D.gone = false) (hn : D.secs.length ≤ 16384) (w : World) (hD : Has (DskL gd gw gm D) w) :
    CA Tryz.prog 62 [.pointer (some ⟨gd, 0, none⟩), .int .i64 (i : Int)] w (Ret (fun z : Option Addr × Nat => .tuple #[.slice z.1 64 z.2, .int .i64 0]) [] (fun z => [.sl z.1 z.2 5 1 ((secL f 64).map (Value.int .u8))]) (fun z => 64 ≤ z.2 ∧ z.2 ≤ 9223372036854775807 ∧ ∃ g, z.1 = some ⟨g, 0, none⟩) w) := by
  have hi := (List.getElem?_eq_some_iff.1 hs).1
  obtain ⟨secs, M, cl, fu, fz, go⟩ := D
  dsimp only at hg hs hn hi
  subst hg
  have hat := flat_at secE_len hs
  rw [secE_eq] at hat
  refine enter (L := [.blk gd (.cells #[.slice (some ⟨gw, 0, none⟩) secs.length secs.length, .map (some gm), .bool fu, .int .i64 fz, .bool false] 52 (0, 0)), .blk gw (.cells (secs.flatMap secE).toArray 80 (0, 0))]) (X := []) Tryz.func62 rfl Tryz.ntmps62 rfl rfl (hD.sub (by (repeat (first | exact List.nil_sublist _ | exact List.Sublist.slnil | apply List.Sublist.cons_cons | exact List.Sublist.refl _ | apply List.Sublist.cons)))) ?_
  repeat (first | refine c_seq ?_ | (refine c_region (id := 0) ?_; refine sq qa ?_; refine sq qa ?_; refine l_nil ?_) | (refine c_region (id := 1) ?_; refine sq qm ?_; refine sq qm ?_; refine se ?_; refine ecp rfl rfl (fun w hC hm hL => by exact has_t gd secs.length _ _ _ (i : Int) w (hL.old (k := 5) (by (repeat (first | exact List.Mem.head _ | apply List.Mem.tail))) (o := 0) rfl) ⟨by omega, by omega⟩) ?_; intro m' hm'; refine sq qnt ?_; refine l_nil ?_) | (refine c_region (id := 3) ?_; refine sq qm ?_; refine sq qn ?_; refine sq qf ?_; refine sq ql ?_; refine l_nil ?_) | (refine c_region (id := 5) ?_; refine sq qm ?_; refine sq qn ?_; refine sq qf ?_; refine sq ql ?_; refine sq qm ?_; refine sq qis ?_; refine sq qsa ?_; refine se ?_; refine e_callL (enc := (Value.int .u8)) (e := 5) rfl rfl (by kernel_rfl) rfl (fun w hC hm hL => by exact clone_c _ 64 64 (secL f 64) (secL_len _ _) (by omega) w (SlE.blk hL (by (repeat (first | exact List.Mem.head _ | apply List.Mem.tail))) (i * 64) 64 hat)) ?_; intro b cap zs m2 hz ho hm2; subst hz; refine sq qa ?_; refine sq qa ?_; refine l_nil ?_) | refine n_then ?_ | refine c_block ?_ | refine c_skip ?_ | refine n_block ?_ | refine c_exit ?_ | refine n_then_exit ?_ | refine n_block_eq ?_ | refine n_block_ne rfl ?_ | refine c_ret ?_ | refine n_then_ret ?_ | refine n_block_ret ?_ | refine c_cond_t rfl ?_ | refine c_cond_f rfl ?_ | refine r_succ ?_ )
  rw [secL_len] at ho
  refine chg (L' := [.sl b cap 5 1 ((secL f 64).map (Value.int .u8)), .blk gd (.cells #[.slice (some ⟨gw, 0, none⟩) secs.length secs.length, .map (some gm), .bool fu, .int .i64 fz, .bool false] 52 (0, 0)), .blk gw (.cells (secs.flatMap secE).toArray 80 (0, 0))]) (by rfl) ?_
  (first | apply r_ret (b, cap) | apply r_end (b, cap)); exact rfl; exact rfl; exact (.tmp rfl (.tmp rfl .nil)); exact (by simp only [secL_len]; rfl); exact (by exact (by (repeat (first | exact List.nil_sublist _ | exact List.Sublist.slnil | apply List.Sublist.cons_cons | exact List.Sublist.refl _ | apply List.Sublist.cons)))); exact (new_sl ho.newc new_nil); exact ⟨ho.le, ho.max, ho.some (by omega)⟩
set_option maxRecDepth 100000 in
set_option maxHeartbeats 4000000 in
theorem wr_lost (gd gw gm : Nat) (D : Dk) (hf : 0 ≤ D.fuse ∧ D.fuse ≤ 9223372036854775807) (hp : D.pgone = true) (i : Int) (hi : 0 ≤ i ∧ i < D.secs.length) (a : Option Addr) (cap : Nat) (w : World) (hD : Has (DskL gd gw gm D) w) :
    CA Tryz.prog 69 [.pointer (some ⟨gd, 0, none⟩), .int .i64 i, .slice a 64 cap] w (Ret (fun _ : Unit => .int .i64 5) [gd, gw, gm] (fun _ => DskL gd gw gm D.dead) (fun _ => True) w) := by
  refine enter (L := DskL gd gw gm D) (X := [gd, gw, gm]) Tryz.func69 rfl Tryz.ntmps69 rfl rfl hD ?_
  repeat (first | refine c_seq ?_ | (refine c_region (id := 0) ?_; refine sq qa ?_; refine l_nil ?_) | (refine c_region (id := 1) ?_; refine sq qm ?_; refine sq qm ?_; refine se ?_; refine ecp rfl rfl (fun w hC hm hL => by exact has_t gd D.secs.length _ _ _ i w (hL.old (k := 5) (by (repeat (first | exact List.Mem.head _ | apply List.Mem.tail))) (o := 0) rfl) ⟨by omega, by omega⟩) ?_; intro m' hm'; refine sq qnt ?_; refine sq qm ?_; (first | refine sk ?_ | refine skv ?_ | (refine st_want rfl rfl ?_; refine sq qm ?_)); (first | refine sk ?_ | refine skv ?_ | (refine st_want rfl rfl ?_; refine sq qls ?_)); (first | refine sk ?_ | refine skv ?_ | (refine st_want rfl rfl ?_; refine sq (by first | exact dneqt | exact dneqf) ?_)); refine sq (by first | exact qpt | exact qpf) ?_; refine l_nil ?_) | (refine c_region (id := 3) ?_; refine sq qm ?_; refine se ?_; refine e_call_upd rfl rfl (by kernel_rfl) rfl (fun w hC hm hL => by exact pow_no gd gw gm D hf hp w (hL.sub (by (repeat (first | exact List.nil_sublist _ | exact List.Sublist.slnil | apply List.Sublist.cons_cons | exact List.Sublist.refl _ | apply List.Sublist.cons))))) (by (repeat (first | exact Pl.here | apply Pl.there))) (.inl (by simp)) ?_; intro m' hm'; refine sq qnt ?_; refine l_nil ?_) | (refine c_region (id := 4) ?_; refine sq qa ?_; refine l_nil ?_) | refine n_then ?_ | refine c_block ?_ | refine c_skip ?_ | refine n_block ?_ | refine c_exit ?_ | refine n_then_exit ?_ | refine n_block_eq ?_ | refine n_block_ne rfl ?_ | refine c_ret ?_ | refine n_then_ret ?_ | refine n_block_ret ?_ | refine c_cond_t rfl ?_ | refine c_cond_f rfl ?_ | refine r_succ ?_ )
  (first | apply r_ret () | apply r_end ()); exact rfl; exact rfl; exact (.tmp rfl .nil); exact rfl; exact (List.Sublist.refl _); exact (by intro g hg; rw [feetD] at hg; exact .inl hg); exact trivial
set_option maxRecDepth 100000 in
set_option maxHeartbeats 4000000 in
theorem wr_ok (gd gw gm : Nat) (D : Dk) (hf : 0 ≤ D.fuse ∧ D.fuse ≤ 9223372036854775807) (hp : D.pgone = false) (hn : D.secs.length ≤ 16384) (i : Nat) (hi : i < D.secs.length) (f : Nat → Int) (a : Option Addr) (cap : Nat) (w : World) (hb : SlE (Value.int .u8) w a (secL f 64)) (hx : ∀ g o, a = some ⟨g, o, none⟩ → g ∉ [gd, gw, gm]) (hD : Has (DskL gd gw gm D) w) :
    CA Tryz.prog 69 [.pointer (some ⟨gd, 0, none⟩), .int .i64 (i : Int), .slice a 64 cap] w (Ret (fun _ : Unit => .int .i64 0) [gd, gw, gm] (fun _ => DskL gd gw gm (D.lit.put i f)) (fun _ => True) w) := by
  obtain ⟨s0, hs⟩ : ∃ s0, D.secs[i]? = some s0 := ⟨_, List.getElem?_eq_getElem hi⟩
  obtain ⟨g, o, rfl, hO⟩ := hb.get (i := 0) (by rw [secL_len]; omega)
  replace hx := hx g o rfl
  rw [← secE_eq] at hO
  have hl2 : (secE f).length = 64 := secE_len f
  have hl0 : (secE s0).length = 64 := secE_len s0
  have hat := flat_at secE_len hs
  cases hm : mFind D.M (i : Int) with
  | none =>
    have hq : D.lit.put i f = { D.lit with secs := D.secs.set i f, M := D.M ++ [((i : Int), s0, D.cl)], cl := D.cl + 1 } := by
      show (match mFind D.M (i : Int) with | none => _ | some _ => _) = _
      rw [hm]
      simp only [Dk.lit, hs, Option.getD_some]
    rw [hq]
    refine enter (L := DskL gd gw gm D) (X := [gd, gw, gm]) Tryz.func69 rfl Tryz.ntmps69 rfl rfl hD ?_
    repeat (first | refine c_seq ?_ | (refine c_region (id := 0) ?_; refine sq qa ?_; refine l_nil ?_) | (refine c_region (id := 1) ?_; refine sq qm ?_; refine sq qm ?_; refine se ?_; refine ecp rfl rfl (fun w hC hm hL => by exact has_t gd D.secs.length _ _ _ (i : Int) w (hL.old (k := 5) (by (repeat (first | exact List.Mem.head _ | apply List.Mem.tail))) (o := 0) rfl) ⟨by omega, by omega⟩) ?_; intro m' hm'; refine sq qnt ?_; refine sq qm ?_; (first | refine sk ?_ | refine skv ?_ | (refine st_want rfl rfl ?_; refine sq qm ?_)); (first | refine sk ?_ | refine skv ?_ | (refine st_want rfl rfl ?_; refine sq qls ?_)); (first | refine sk ?_ | refine skv ?_ | (refine st_want rfl rfl ?_; refine sq (by first | exact dneqt | exact dneqf) ?_)); refine sq (by first | exact qpt | exact qpf) ?_; refine l_nil ?_) | (refine c_region (id := 3) ?_; refine sq qm ?_; refine se ?_; refine e_call_upd rfl rfl (by kernel_rfl) rfl (fun w hC hm hL => by exact pow_yes gd gw gm D hf hp w (hL.sub (by (repeat (first | exact List.nil_sublist _ | exact List.Sublist.slnil | apply List.Sublist.cons_cons | exact List.Sublist.refl _ | apply List.Sublist.cons))))) (by (repeat (first | exact Pl.here | apply Pl.there))) (.inl (by simp)) ?_; intro m' hm'; refine sq qnt ?_; refine l_nil ?_) | (refine c_region (id := 5) ?_; refine sq qm ?_; refine sq qn ?_; refine sq qf ?_; refine sq ql ?_; refine sq qm ?_; refine sq (by exact q_lookup_ok (v := .tuple #[.agg (secE (fun _ => 0)).toArray, .bool false]) secV D.M rfl rfl (zs := (secE (fun _ => 0)).toArray) (by simp [secE]) (by (repeat (first | exact List.Mem.head _ | apply List.Mem.tail))) hm rfl) ?_; refine sq qm ?_; refine sq qe ?_; refine sq qe ?_; refine se ?_; refine ea ?_; refine se ?_; refine esa ?_; refine sq qa ?_; refine l_nil ?_) | (refine c_region (id := 6) ?_; refine sq qm ?_; refine sq qnt ?_; refine l_nil ?_) | (refine x_region (id := 7) none [(0, .n), (1, .n), (2, .n), (3, .q), (4, .n), (5, .n), (6, .n), (7, .n), (8, .q), (9, .n), (10, .n), (11, .q), (12, .e)] (List.eraseIdx _ 3) mixed (by kernel_rfl) (List.eraseIdx_sublist _ _) ?_; refine xn rfl qm ?_; refine xn rfl qn ?_; refine xn rfl qf ?_; refine xq rfl ql ?_; refine xn rfl qm ?_; refine xn rfl qm ?_; refine xn rfl qn ?_; refine xn rfl qf ?_; refine xq rfl ql ?_; refine xn rfl qm ?_; refine xn rfl qis ?_; refine xq rfl (by exact qlr (vs := secE s0) (by rfl) (RdN.blk (by (repeat (first | exact List.Mem.head _ | apply List.Mem.tail))) (by rw [hl0]; exact hat)) hl0) ?_; refine x_e rfl ?_; refine e_mapNew secV D.M s0 rfl rfl rfl hm (by (repeat (first | exact Pl.here | apply Pl.there))) (.inl (by simp)) ?_; refine xk ?_; refine x_nil ?_) | (refine x_region (id := 8) (some 9) [(0, .n), (1, .n), (2, .n), (3, .q), (4, .n), (5, .n), (6, .n), (7, .q), (8, .n), (9, .b)] (List.eraseIdx _ 2) mixed (by kernel_rfl) (List.eraseIdx_sublist _ _) ?_; refine xn rfl qm ?_; refine xn rfl qn ?_; refine xn rfl qf ?_; refine xq rfl ql ?_; refine xn rfl qm ?_; refine xn rfl qm ?_; refine xn rfl (by exact q_s2ap rfl (by decide)) ?_; refine xq rfl (by exact qlr (vs := secE f) (by rfl) (RdN.old hO hx) hl2) ?_; refine xn rfl qis ?_; refine x_b rfl ?_; refine e_store_row (vs := (secE f).toArray) rfl rfl (by simp [secE_len]) (secE_one f) (by rw [setSec f hs]; (repeat (first | exact Pl.here | apply Pl.there))) (by simp [flat_len secE_len]; omega) (.inl (by simp)) ?_; refine x_k (List.nil_sublist _) ?_; refine x_nil ?_) | (refine c_region (id := 9) ?_; refine sq qa ?_; refine l_nil ?_) | refine n_then ?_ | refine c_block ?_ | refine c_skip ?_ | refine n_block ?_ | refine c_exit ?_ | refine n_then_exit ?_ | refine n_block_eq ?_ | refine n_block_ne rfl ?_ | refine c_ret ?_ | refine n_then_ret ?_ | refine n_block_ret ?_ | refine c_cond_t rfl ?_ | refine c_cond_f rfl ?_ | refine r_succ ?_ )
    (first | apply r_ret () | apply r_end ()); exact rfl; exact rfl; exact (.tmp rfl .nil); exact rfl; exact (by have e9 : (D.secs.set i f).length = D.secs.length := List.length_set; refine List.Sublist.trans (l₂ := [.blk gd (.cells #[.slice (some ⟨gw, 0, none⟩) D.secs.length D.secs.length, .map (some gm), .bool D.fused, .int .i64 (if D.fused then D.fuse - 1 else D.fuse), .bool false] 52 (0, 0)), .blk gw (.cells ((D.secs.set i f).flatMap secE).toArray 80 (0, 0)), .blk gm (.map (mEs secV (D.M ++ [((i : Int), s0, D.cl)])) (D.cl + 1))]) (by unfold DskL; simp only [e9]; exact List.Sublist.refl _) (by exact (by (repeat (first | exact List.nil_sublist _ | exact List.Sublist.slnil | apply List.Sublist.cons_cons | exact List.Sublist.refl _ | apply List.Sublist.cons))))); exact (by intro g hg; rw [feetD] at hg; exact .inl hg); exact trivial
  | some s9 =>
    have hq : D.lit.put i f = { D.lit with secs := D.secs.set i f } := by
      show (match mFind D.M (i : Int) with | none => _ | some _ => _) = _
      rw [hm]
      rfl
    rw [hq]
    refine enter (L := DskL gd gw gm D) (X := [gd, gw, gm]) Tryz.func69 rfl Tryz.ntmps69 rfl rfl hD ?_
    repeat (first | refine c_seq ?_ | (refine c_region (id := 0) ?_; refine sq qa ?_; refine l_nil ?_) | (refine c_region (id := 1) ?_; refine sq qm ?_; refine sq qm ?_; refine se ?_; refine ecp rfl rfl (fun w hC hm hL => by exact has_t gd D.secs.length _ _ _ (i : Int) w (hL.old (k := 5) (by (repeat (first | exact List.Mem.head _ | apply List.Mem.tail))) (o := 0) rfl) ⟨by omega, by omega⟩) ?_; intro m' hm'; refine sq qnt ?_; refine sq qm ?_; (first | refine sk ?_ | refine skv ?_ | (refine st_want rfl rfl ?_; refine sq qm ?_)); (first | refine sk ?_ | refine skv ?_ | (refine st_want rfl rfl ?_; refine sq qls ?_)); (first | refine sk ?_ | refine skv ?_ | (refine st_want rfl rfl ?_; refine sq (by first | exact dneqt | exact dneqf) ?_)); refine sq (by first | exact qpt | exact qpf) ?_; refine l_nil ?_) | (refine c_region (id := 3) ?_; refine sq qm ?_; refine se ?_; refine e_call_upd rfl rfl (by kernel_rfl) rfl (fun w hC hm hL => by exact pow_yes gd gw gm D hf hp w (hL.sub (by (repeat (first | exact List.nil_sublist _ | exact List.Sublist.slnil | apply List.Sublist.cons_cons | exact List.Sublist.refl _ | apply List.Sublist.cons))))) (by (repeat (first | exact Pl.here | apply Pl.there))) (.inl (by simp)) ?_; intro m' hm'; refine sq qnt ?_; refine l_nil ?_) | (refine c_region (id := 5) ?_; refine sq qm ?_; refine sq qn ?_; refine sq qf ?_; refine sq ql ?_; refine sq qm ?_; refine sq (by exact q_lookup_ok (v := .tuple #[secV s9, .bool true]) secV D.M rfl rfl (zs := (secE (fun _ => 0)).toArray) (by simp [secE]) (by (repeat (first | exact List.Mem.head _ | apply List.Mem.tail))) hm rfl) ?_; refine sq qm ?_; refine sq qe ?_; refine sq qe ?_; refine se ?_; refine ea ?_; refine se ?_; refine esa ?_; refine sq qa ?_; refine l_nil ?_) | (refine c_region (id := 6) ?_; refine sq qm ?_; refine sq qnt ?_; refine l_nil ?_) | (refine x_region (id := 8) (some 9) [(0, .n), (1, .n), (2, .n), (3, .q), (4, .n), (5, .n), (6, .n), (7, .q), (8, .n), (9, .b)] (List.eraseIdx _ 2) mixed (by kernel_rfl) (List.eraseIdx_sublist _ _) ?_; refine xn rfl qm ?_; refine xn rfl qn ?_; refine xn rfl qf ?_; refine xq rfl ql ?_; refine xn rfl qm ?_; refine xn rfl qm ?_; refine xn rfl (by exact q_s2ap rfl (by decide)) ?_; refine xq rfl (by exact qlr (vs := secE f) (by rfl) (RdN.old hO hx) hl2) ?_; refine xn rfl qis ?_; refine x_b rfl ?_; refine e_store_row (vs := (secE f).toArray) rfl rfl (by simp [secE_len]) (secE_one f) (by rw [setSec f hs]; (repeat (first | exact Pl.here | apply Pl.there))) (by simp [flat_len secE_len]; omega) (.inl (by simp)) ?_; refine x_k (List.nil_sublist _) ?_; refine x_nil ?_) | (refine c_region (id := 9) ?_; refine sq qa ?_; refine l_nil ?_) | refine n_then ?_ | refine c_block ?_ | refine c_skip ?_ | refine n_block ?_ | refine c_exit ?_ | refine n_then_exit ?_ | refine n_block_eq ?_ | refine n_block_ne rfl ?_ | refine c_ret ?_ | refine n_then_ret ?_ | refine n_block_ret ?_ | refine c_cond_t rfl ?_ | refine c_cond_f rfl ?_ | refine r_succ ?_ )
    (first | apply r_ret () | apply r_end ()); exact rfl; exact rfl; exact (.tmp rfl .nil); exact rfl; exact (by have e9 : (D.secs.set i f).length = D.secs.length := List.length_set; refine List.Sublist.trans (l₂ := [.blk gd (.cells #[.slice (some ⟨gw, 0, none⟩) D.secs.length D.secs.length, .map (some gm), .bool D.fused, .int .i64 (if D.fused then D.fuse - 1 else D.fuse), .bool false] 52 (0, 0)), .blk gw (.cells ((D.secs.set i f).flatMap secE).toArray 80 (0, 0)), .blk gm (.map (mEs secV D.M) D.cl)]) (by unfold DskL; simp only [e9]; exact List.Sublist.refl _) (by exact (by (repeat (first | exact List.nil_sublist _ | exact List.Sublist.slnil | apply List.Sublist.cons_cons | exact List.Sublist.refl _ | apply List.Sublist.cons))))); exact (by intro g hg; rw [feetD] at hg; exact .inl hg); exact trivial
end Go.Proofs.YtgmghkakiocmjaaGreatDoor
namespace Go.Proofs.YtgmghkakiocmjaaGreatDoor
open Go Go.RowKit
set_option linter.unusedVariables false
section
variable {P : Program} {n m d : Nat} {T : List (Nat × Value)} {X : List Nat} {w0 : World} {L L' : List Chunk} {K : Act → World → Prop} {Q : Exit → Act → World → Prop} {x y : Operand} {ty t e t2 : TypeId} {pos : String} {af : Array Edge} {gu : Option (Nat × Bool)}
theorem e_appZ {k bytes : Nat} {zz : Value} (hx : ev T x = some (.slice none 0 0)) (hy : ev T y = some (.int .i64 (k : Int))) (hd : Nat.blt d n = true)
    [hu : UT P t (.slice e)] [hu2 : UT P t2 (.int .i64)] [hs : SzT P e 1] [hb : ByT P e bytes] [hz : ZrT P e #[zz]] (h0 : 0 < k) (hby : k * bytes ≤ 140737488355328) (hk : k ≤ 4611686018427387904)
    (h : ∀ cap', k ≤ cap' → cap' ≤ 9223372036854775807 → ∀ a w, SS n ((d, .slice (some ⟨m, 0, none⟩) k cap') :: T) X w0 (m + 1) (.sl (some ⟨m, 0, none⟩) cap' e 1 [] :: L) a w → K a w) :
    ∀ a w, SS n T X w0 m L a w → OW P ⟨some d, .call { callee := .builtin .append, args := #[x, y], argTypes := #[t, t2] }, ty, pos, af, gu⟩ K Q a w := by
  intro a w hs'
  obtain ⟨hA, hC, rfl, hL⟩ := hs'
  obtain ⟨it, z, h1, h2, h3⟩ := zeroOf_spec hz.h
  have hs1 := hs.h
  have hb1 := hb.h
  simp only [h1, Option.map_some, Option.some.injEq] at hs1 hb1
  have hr := Lib.run_append_grow_zeros (P := P) w t t2 ty e it z .i64 .i64 hu.h hu2.h h1 h2 none 0 0 [] (run_firstCells_none w.drew it.size 0 0 0) k h0 (by omega) (by omega) (by omega) (by rw [hb1]; omega) (growslice_fits (by omega) (by rw [hb1, Nat.zero_add]; exact hby))
  rw [Nat.zero_add] at hr
  have hL0 : Has L w.drew := hL.drew _
  have hC0 : Ch X w0 w.drew := hC.drew _
  have hge := grownCap_ge w k 0 e
  have hle := grownCap_le_maxLen w k 0 e (by simp only [maxLen]; omega)
  obtain ⟨G, hG⟩ : ∃ G, G = grownCap w k 0 e := ⟨_, rfl⟩
  rw [← hG] at hr hge hle
  have hcz : ([].toArray ++ Builtin.zeroCells z.cells k ++ Builtin.zeroCells z.cells (G - k)).size = G := by
    simp [size_zeroCells, h3]; omega
  generalize ([].toArray ++ Builtin.zeroCells z.cells k ++ Builtin.zeroCells z.cells (G - k)) = C at hr hcz
  have h4 := hL0.alloc (.cells C e)
  refine wp_value (w' := w.drew.alloc (.cells C e)) (v := .slice (some ⟨w.heap.size, 0, none⟩) k G) ?_ (h G hge (by simpa [maxLen] using hle) _ _ ⟨hA.put _ hd, hC0.alloc _, by simp, ?_⟩)
  · simp only [execOp, resolve, Sem.run_bind, Sem.run_pure, Result.andThen_ok, invoke, List.map_toArray, List.map_cons, List.map_nil, hA.eval hx, hA.eval hy, builtin, hr]
  · exact Has.repl (w := w.drew.alloc (.cells C e)) (c := .blk w.heap.size (.cells C e)) .here h4 (fun k hk => .inl (by simpa [Chunk.foot] using hk)) (.inr ⟨w.heap.size, C, rfl, h4.ok _ (List.mem_cons_self ..), by rw [hcz, Nat.mul_one], rfl⟩) (fun _ _ _ => rfl)
end
end Go.Proofs.YtgmghkakiocmjaaGreatDoor
namespace Go.Proofs.YtgmghkakiocmjaaGreatDoor
open Go Go.RowKit
set_option linter.unusedVariables false
section
variable {P : Program} {n m d : Nat} {T : List (Nat × Value)} {X : List Nat} {w0 : World} {L L' : List Chunk} {K : Act → World → Prop} {Q : Exit → Act → World → Prop} {x y : Operand} {ty t e : TypeId} {pos : String} {af : Array Edge} {gu : Option (Nat × Bool)}
theorem e_appG {α : Type} (enc : α → Value) (zs ys : List α) {p q : Addr} {len cap bytes len2 cap2 : Nat} {zz : Value} (hx : ev T x = some (.slice (some p) len cap)) (hy : ev T y = some (.slice (some q) len2 cap2)) (hd : Nat.blt d n = true)
    [hu : UT P t (.slice e)] [hs : SzT P e 1] [hb : ByT P e bytes] [hz : ZrT P e #[zz]] (hv1 : RdN X w0 L p (zs.map enc)) (hv : RdN X w0 L q (ys.map enc))
    (hlen : zs.length = len) (hlen2 : ys.length = len2) (hone : allOne (ys.map enc) = true) (hfull : cap < len + len2) (hby : (len + len2) * bytes ≤ 140737488355328) (hl9 : len + len2 ≤ 9223372036854775807)
    (h : ∀ cap', len + len2 ≤ cap' → cap' ≤ 9223372036854775807 → ∀ a w, SS n ((d, .slice (some ⟨m, 0, none⟩) (len + len2) cap') :: T) X w0 (m + 1) (.sl (some ⟨m, 0, none⟩) cap' e 1 ((zs ++ ys).map enc) :: L) a w → K a w) :
    ∀ a w, SS n T X w0 m L a w → OW P ⟨some d, .call { callee := .builtin .append, args := #[x, y], argTypes := #[t, t] }, ty, pos, af, gu⟩ K Q a w := by
  intro a w hs'
  obtain ⟨hA, hC, rfl, hL⟩ := hs'
  obtain ⟨it, z, h1, h2, h3⟩ := zeroOf_spec hz.h
  have hs1 := hs.h
  have hb1 := hb.h
  simp only [h1, Option.map_some, Option.some.injEq] at hs1 hb1
  have hL0 : Has L w.drew := hL.drew _
  have hC0 : Ch X w0 w.drew := hC.drew _
  have hold := run_firstCells_some (P := P) w.drew it.size len p len cap (zs.map enc) (by rw [hs1]; simp [hlen]) (hv1.cells hC0 hL0)
  have hsrc : Src P it.size t (.slice (some q) len2 cap2) len2 (ys.map enc) w := by
    rw [hs1]
    exact Src.ofVw hu.h (.inr ⟨q, rfl, hv⟩) (by simp [hlen2]) (fun h => by cases h) (allOne_mem hone) hC hL
  have hr := run_append_grow_src (P := P) w t t ty e it z hu.h h1 h2 (some p) len cap (zs.map enc) hold (.slice (some q) len2 cap2) len2 (ys.map enc) hsrc hfull (by omega) (growslice_fits (by omega) (by rw [hb1]; exact hby))
  have hge := grownCap_ge w (len + len2) cap e
  have hle := grownCap_le_maxLen w (len + len2) cap e (by simp only [maxLen]; omega)
  obtain ⟨G, hG⟩ : ∃ G, G = grownCap w (len + len2) cap e := ⟨_, rfl⟩
  rw [← hG] at hr hge hle
  have hcz : ((zs.map enc ++ ys.map enc).toArray ++ Builtin.zeroCells z.cells (G - (len + len2))).size = G := by
    simp [size_zeroCells, h3, hlen, hlen2]; omega
  have hct : ((zs.map enc ++ ys.map enc).toArray ++ Builtin.zeroCells z.cells (G - (len + len2))).toList.take ((zs ++ ys).map enc).length = (zs ++ ys).map enc := by
    rw [List.map_append, Array.toList_append]
    exact List.take_left
  generalize ((zs.map enc ++ ys.map enc).toArray ++ Builtin.zeroCells z.cells (G - (len + len2))) = C at hr hcz hct
  have h4 := hL0.alloc (.cells C e)
  refine wp_value (w' := w.drew.alloc (.cells C e)) (v := .slice (some ⟨w.heap.size, 0, none⟩) (len + len2) G) ?_ (h G hge (by simpa [maxLen] using hle) _ _ ⟨hA.put _ hd, hC0.alloc _, by simp, ?_⟩)
  · simp only [execOp, resolve, Sem.run_bind, Sem.run_pure, Result.andThen_ok, invoke, List.map_toArray, List.map_cons, List.map_nil, hA.eval hx, hA.eval hy, builtin, hr]
  · exact Has.repl (w := w.drew.alloc (.cells C e)) (c := .blk w.heap.size (.cells C e)) .here h4 (fun k hk => .inl (by simpa [Chunk.foot] using hk)) (.inr ⟨w.heap.size, C, rfl, h4.ok _ (List.mem_cons_self ..), by rw [hcz, Nat.mul_one], hct⟩) (fun _ _ _ => rfl)
theorem q_eql_pnil {a : Addr} {dst : Option Tmp} {ty2 : TypeId} (hx : ev T x = some (.pointer (some a))) (hy : ev T y = some (.pointer none)) (hu : P.underlying t = some (.pointer (P.pointee t))) : Qt P X w0 ⟨dst, .binOp .eql t x y ty2, ty, pos, af, gu⟩ T L (.bool false) :=
  q_bin_val hx hy (fun w => by simp [eqGuard]) (fun w => by have h := run_eql_pointer_nil (P := P) w t (some a) hu; simpa using h)
end
end Go.Proofs.YtgmghkakiocmjaaGreatDoor
namespace Go.Proofs.YtgmghkakiocmjaaGreatDoor
open Go Go.RowKit
set_option linter.unusedVariables false
set_option linter.unusedSimpArgs false
structure RB (F : Nat → Int) : Prop where
  h : ∀ j, 0 ≤ F j ∧ F j ≤ 255
def numB (F : Nat → Int) (o : Nat) : Nat → Int
  | 0 => 0
  | k + 1 => numB F o k * 256 + F (o + k)
theorem numB_rng {F : Nat → Int} (hF : RB F) (o : Nat) : ∀ k, 0 ≤ numB F o k ∧ numB F o k < 256 ^ k
  | 0 => by simp [numB]
  | k + 1 => by
    have h1 := numB_rng hF o k
    have h2 := hF.h (o + k)
    rw [numB, Int.pow_succ]
    generalize (256 : Int) ^ k = p at h1 ⊢
    omega
theorem or_low (a b : Nat) (h : b < 256) : (a * 256) ||| b = a * 256 + b := by
  rw [show a * 256 = a * 2 ^ 8 from rfl, ← Nat.shiftLeft_eq, ← Nat.shiftLeft_add_eq_or_of_lt (i := 8) h]
theorem num_step {x d : Int} (hx : 0 ≤ x ∧ x < 72057594037927936) (hd : 0 ≤ d ∧ d ≤ 255) : bits .or .u64 (x * 2 ^ (8 : Int).toNat % 18446744073709551616) (d % 18446744073709551616) = x * 256 + d := by
  obtain ⟨n, rfl⟩ := Int.eq_ofNat_of_zero_le hx.1
  obtain ⟨q, rfl⟩ := Int.eq_ofNat_of_zero_le hd.1
  have e1 : ((n : Int) * 2 ^ (8 : Int).toNat % 18446744073709551616) = ((n * 256 : Nat) : Int) := by
    show ((n : Int) * 256 % 18446744073709551616) = _
    omega
  have e2 : ((q : Int) % 18446744073709551616) = ((q : Nat) : Int) := by omega
  rw [e1, e2, u64_or_nat _ _ (by omega) (by omega), or_low _ _ (by omega)]
  omega
theorem pw256 : ∀ i, i < 8 → (256 : Int) ^ i ≤ 72057594037927936 := by decide
def byI (F : Nat → Int) (o k : Nat) : List Int := (List.range k).map fun j => F (o + j)
def byS (F : Nat → Int) (o k : Nat) : List Value := (byI F o k).map (Value.int .u8)
theorem byS_nth (F : Nat → Int) (o k i : Nat) (h : i < k) : nth (byS F o k) i = some (.int .u8 (F (o + i))) := by
  rw [nth_eq]; simp [byS, byI, h]
theorem byS_len (F : Nat → Int) (o k : Nat) : (byS F o k).length = k := by simp [byS, byI]
theorem byS_sub (F : Nat → Int) (o k a n : Nat) (h : a + n ≤ k) : ((byS F o k).drop a).take n = byS F (o + a) n := by
  apply List.ext_getElem
  · simp [byS, byI]; omega
  · intro i h1 h2
    simp [byS, byI, Nat.add_assoc]
set_option maxRecDepth 100000 in
set_option maxHeartbeats 4000000 in
theorem cnumber_c (F : Nat → Int) (hF : RB F) (o : Nat) (g a cap : Nat) (w : World) (hO : Old w g a (byS F o 8)) :
    CA Tryz.prog 76 [.slice (some ⟨g, a, none⟩) 8 cap] w (RV (.int .u64 (numB F o 8)) w) := by
  refine enter (L := []) (X := []) Tryz.func76 rfl Tryz.ntmps76 rfl rfl (Has.nil _) ?_
  repeat (first | refine c_seq ?_ | (refine c_region (id := 0) ?_; refine sq qa ?_; refine l_nil ?_) | (refine c_region (id := 1) ?_; refine sq qa ?_; refine l_nil ?_) | (refine c_region (id := 2) ?_; refine sq qm ?_; refine sq qls ?_; refine sq qm ?_; refine l_nil ?_) | refine n_then ?_ | refine c_block ?_ | refine c_skip ?_ | refine n_block ?_ | refine c_exit ?_ | refine n_then_exit ?_ | refine n_block_eq ?_ | refine n_block_ne rfl ?_ | refine c_ret ?_ | refine n_then_ret ?_ | refine n_block_ret ?_ | refine c_cond_t rfl ?_ | refine c_cond_f rfl ?_ | refine r_succ ?_ )
  refine c_loop (γ := Nat) (fun i => [(8, .int .i64 i), (6, .slice (some ⟨g, a, none⟩) 8 cap), (7, .int .i64 (8 : Nat)), (3, .int .u64 (numB F o i))]) (fun _ => w.heap.size) (fun _ => []) (fun i => i ≤ 8) (fun i => 8 - i) 0 (by simp) ⟨rfl, rfl, rfl, rfl, trivial⟩ rfl (List.nil_sublist _) ?_
  intro i hi
  by_cases h8 : i < 8
  · have hr := numB_rng hF o i
    have hp : (256 : Int) ^ i ≤ 72057594037927936 := pw256 i h8
    have hst := num_step (x := numB F o i) (d := F (o + i)) ⟨hr.1, by omega⟩ (hF.h _)
    have hn := byS_nth F o 8 i h8
    repeat (first | refine c_seq ?_ | (refine c_region (id := 3) ?_; refine sq (by first | exact dlsst | exact dlssf) ?_; refine l_nil ?_) | (refine c_region (id := 4) ?_; refine sq (by exact qis (o' := a + i) (ho := by omega)) ?_; refine sq (by exact ql (hr := Rd.oldn hO hn (by simp))) ?_; refine sq qa ?_; refine l_nil ?_) | (refine c_region (id := 5) ?_; refine sq qm ?_; refine sq qshlU ?_; refine sq qm ?_; refine sq qcU ?_; refine sq qor ?_; refine sq qa ?_; refine l_nil ?_) | (refine c_region (id := 6) ?_; refine sq qadd64 ?_; refine sq qm ?_; refine l_nil ?_) | refine n_then ?_ | refine c_block ?_ | refine c_skip ?_ | refine n_block ?_ | refine c_exit ?_ | refine n_then_exit ?_ | refine n_block_eq ?_ | refine n_block_ne rfl ?_ | refine c_ret ?_ | refine n_then_ret ?_ | refine n_block_ret ?_ | refine c_cond_t rfl ?_ | refine c_cond_f rfl ?_ | refine r_succ ?_ )
    refine c_round (i + 1) (by omega) (by omega) ⟨rfl, rfl, rfl, by rw [numB, ← hst]; rfl, trivial⟩ rfl (List.nil_sublist _)
  · obtain rfl : i = 8 := by omega
    repeat (first | refine c_seq ?_ | (refine c_region (id := 3) ?_; refine sq (by first | exact dlsst | exact dlssf) ?_; refine l_nil ?_) | (refine c_region (id := 7) ?_; refine sq qm ?_; refine sq qa ?_; refine l_nil ?_) | refine n_then ?_ | refine c_block ?_ | refine c_skip ?_ | refine n_block ?_ | refine c_exit ?_ | refine n_then_exit ?_ | refine n_block_eq ?_ | refine n_block_ne rfl ?_ | refine c_ret ?_ | refine n_then_ret ?_ | refine n_block_ret ?_ | refine c_cond_t rfl ?_ | refine c_cond_f rfl ?_ | refine r_succ ?_ )
    (first | apply r_ret () | apply r_end ()); exact rfl; exact rfl; exact (.tmp rfl .nil); exact rfl; exact (List.nil_sublist _); exact new_nil; exact trivial
def shN (x : Int) (i : Nat) : Int := x / 2 ^ (8 * (i : Int)).toNat % 256
def pnI (H : Array Value) (o : Nat) (x : Int) : Nat → Array Value
  | 0 => H
  | i + 1 => (pnI H o x i).setIfInBounds (o + (7 - i)) (.int .u8 (shN x i))
theorem pnI_size (H : Array Value) (o : Nat) (x : Int) : ∀ i, (pnI H o x i).size = H.size
  | 0 => rfl
  | i + 1 => by rw [pnI, Array.size_setIfInBounds, pnI_size H o x i]
set_option maxRecDepth 100000 in
set_option maxHeartbeats 4000000 in
theorem cput_c (H : Array Value) (t : TypeId) (o g cap : Nat) (x : Int) (ho : o + 8 ≤ H.size) (w : World) (hL0 : Has [.blk g (.cells H t (0, 0))] w) :
    CA Tryz.prog 92 [.slice (some ⟨g, o, none⟩) 8 cap, .int .u64 x] w (RU (.tuple #[]) g (.cells (pnI H o x 8) t (0, 0)) w) := by
  refine enter (L := [.blk g (.cells H t (0, 0))]) (X := [g]) Tryz.func92 rfl Tryz.ntmps92 rfl rfl hL0 ?_
  repeat (first | refine c_seq ?_ | (refine c_region (id := 0) ?_; refine sq qm ?_; refine sq qls ?_; refine sq qm ?_; refine l_nil ?_) | refine n_then ?_ | refine c_block ?_ | refine c_skip ?_ | refine n_block ?_ | refine c_exit ?_ | refine n_then_exit ?_ | refine n_block_eq ?_ | refine n_block_ne rfl ?_ | refine c_ret ?_ | refine n_then_ret ?_ | refine n_block_ret ?_ | refine c_cond_t rfl ?_ | refine c_cond_f rfl ?_ | refine r_succ ?_ )
  refine c_loop (γ := Nat) (fun i => [(7, .int .i64 i), (6, .int .i64 (8 : Nat)), (0, .slice (some ⟨g, o, none⟩) 8 cap), (1, .int .u64 x)]) (fun _ => w.heap.size) (fun i => [.blk g (.cells (pnI H o x i) t (0, 0))]) (fun i => i ≤ 8) (fun i => 8 - i) 0 (by simp) ⟨rfl, rfl, rfl, rfl, trivial⟩ rfl (List.Sublist.refl _) ?_
  intro i hi
  have hsz := pnI_size H o x i
  by_cases h8 : i < 8
  · repeat (first | refine c_seq ?_ | (refine c_region (id := 1) ?_; refine sq (by first | exact dlsst | exact dlssf) ?_; refine l_nil ?_) | (refine c_region (id := 2) ?_; refine sq qm ?_; refine sq qa ?_; refine l_nil ?_) | (refine c_region (id := 3) ?_; refine sq qm ?_; refine sq qm ?_; refine sq qls ?_; refine sq qsub64 ?_; refine sq qm ?_; refine sq qsub64 ?_; refine sq qm ?_; refine sq qm ?_; refine sq qmul64 ?_; refine sq (by exact qshr (hb := by show (8 * (i : Int)).toNat ≤ 64; omega)) ?_; refine sq qc8 ?_; refine sq (by exact qis (o' := o + (7 - i)) (ho := by omega)) ?_; refine se ?_; refine es2 ?_ (hg := .inl (by simp)) (hoff := by omega); refine l_nil ?_) | (refine c_region (id := 4) ?_; refine sq qadd64 ?_; refine sq qm ?_; refine l_nil ?_) | refine n_then ?_ | refine c_block ?_ | refine c_skip ?_ | refine n_block ?_ | refine c_exit ?_ | refine n_then_exit ?_ | refine n_block_eq ?_ | refine n_block_ne rfl ?_ | refine c_ret ?_ | refine n_then_ret ?_ | refine n_block_ret ?_ | refine c_cond_t rfl ?_ | refine c_cond_f rfl ?_ | refine r_succ ?_ )
    refine c_round (i + 1) (by omega) (by omega) ⟨rfl, rfl, rfl, rfl, trivial⟩ rfl (List.Sublist.refl _)
  · obtain rfl : i = 8 := by omega
    repeat (first | refine c_seq ?_ | (refine c_region (id := 1) ?_; refine sq (by first | exact dlsst | exact dlssf) ?_; refine l_nil ?_) | refine n_then ?_ | refine c_block ?_ | refine c_skip ?_ | refine n_block ?_ | refine c_exit ?_ | refine n_then_exit ?_ | refine n_block_eq ?_ | refine n_block_ne rfl ?_ | refine c_ret ?_ | refine n_then_ret ?_ | refine n_block_ret ?_ | refine c_cond_t rfl ?_ | refine c_cond_f rfl ?_ | refine r_succ ?_ )
    (first | apply r_ret () | apply r_end ()); exact rfl; exact rfl; exact .nil; exact rfl; exact (List.Sublist.refl _); exact (by intro g hg; simp [feet, Chunk.foot] at hg; exact .inl (by simp [hg])); exact trivial
structure Hd where
  ser : Int
  cnt : Int
  nt : Nat → Int
abbrev noteE (f : Nat → Int) : List Value := [.int .u8 (f 0), .int .u8 (f 1), .int .u8 (f 2), .int .u8 (f 3), .int .u8 (f 4), .int .u8 (f 5), .int .u8 (f 6), .int .u8 (f 7), .int .u8 (f 8), .int .u8 (f 9), .int .u8 (f 10), .int .u8 (f 11), .int .u8 (f 12), .int .u8 (f 13), .int .u8 (f 14), .int .u8 (f 15)]
abbrev headE (h : Hd) : List Value := .int .u64 h.ser :: .int .u64 h.cnt :: noteE h.nt
def halfL (h : Hd) : List Int := [shN h.ser 7, shN h.ser 6, shN h.ser 5, shN h.ser 4, shN h.ser 3, shN h.ser 2, shN h.ser 1, shN h.ser 0, shN h.cnt 7, shN h.cnt 6, shN h.cnt 5, shN h.cnt 4, shN h.cnt 3, shN h.cnt 2, shN h.cnt 1, shN h.cnt 0, h.nt 0, h.nt 1, h.nt 2, h.nt 3, h.nt 4, h.nt 5, h.nt 6, h.nt 7, h.nt 8, h.nt 9, h.nt 10, h.nt 11, h.nt 12, h.nt 13, h.nt 14, h.nt 15]
def secH (h : Hd) (j : Nat) : Int := (halfL h).getD (j % 32) 0
theorem secH_list (h : Hd) : halfL h ++ halfL h = secL (secH h) 64 := rfl
theorem allOne_u8L (l : List Int) : allOne (l.map (Value.int .u8)) = true := by
  induction l with
  | nil => rfl
  | cons x l ih => simpa [allOne, Value.oneCell'] using ih
set_option maxRecDepth 100000 in
set_option maxHeartbeats 4000000 in
theorem place_c (h : Hd) (hs : 0 ≤ h.ser) (w : World) : CA Tryz.prog 64 [.agg (headE h).toArray] w (RV (.int .i64 (h.ser % 2)) w) := by
  refine enter (L := []) (X := []) Tryz.func64 rfl Tryz.ntmps64 rfl rfl (Has.nil _) ?_
  repeat (first | refine c_seq ?_ | (refine c_region (id := 0) ?_; refine se ?_; refine eb ?_; refine sq qa ?_; refine l_nil ?_) | (refine c_region (id := 1) ?_; refine sq qf ?_; refine sq ql ?_; refine sq qrem ?_; refine sq (by exact qci (h0 := by omega) (h1 := by omega)) ?_; refine sq qa ?_; refine l_nil ?_) | refine n_then ?_ | refine c_block ?_ | refine c_skip ?_ | refine n_block ?_ | refine c_exit ?_ | refine n_then_exit ?_ | refine n_block_eq ?_ | refine n_block_ne rfl ?_ | refine c_ret ?_ | refine n_then_ret ?_ | refine n_block_ret ?_ | refine c_cond_t rfl ?_ | refine c_cond_f rfl ?_ | refine r_succ ?_ )
  (first | apply r_ret () | apply r_end ()); exact rfl; exact rfl; exact (.tmp rfl .nil); exact rfl; exact (List.nil_sublist _); exact new_nil; exact trivial
set_option maxRecDepth 100000 in
set_option maxHeartbeats 4000000 in
theorem half_eq (h : Hd) : setA (pnI (pnI (List.replicate 32 (Value.int .u8 0)).toArray 0 h.ser 8) 8 h.cnt 8) 16 (noteE h.nt) = ((halfL h).map (Value.int .u8)).toArray := by
  apply Array.ext'
  simp only [pnI, setA, noteE, Array.toList_setIfInBounds, halfL, List.map_cons, List.map_nil, Nat.zero_add, Nat.sub_zero, Nat.reduceSub, Nat.reduceAdd, ← setL_eq, List.replicate, setL]
set_option maxRecDepth 100000 in
set_option maxHeartbeats 4000000 in
theorem half_c (h : Hd) (w : World) : CA Tryz.prog 79 [.agg (headE h).toArray] w (RV (.agg ((halfL h).map (Value.int .u8)).toArray) w) := by
  refine enter (L := []) (X := []) Tryz.func79 rfl Tryz.ntmps79 rfl rfl (Has.nil _) ?_
  repeat (first | refine c_seq ?_ | (refine c_region (id := 0) ?_; refine se ?_; refine eb ?_; refine se ?_; refine ea ?_; refine l_nil ?_) | (refine c_region (id := 1) ?_; refine se ?_; refine ea ?_; refine l_nil ?_) | (refine x_region (id := 2) (some 3) [(0, .n), (1, .n), (2, .q), (3, .b)] _ mixed (by kernel_rfl) (List.Sublist.refl _) ?_; refine xn rfl qsa ?_; refine xn rfl qf ?_; refine xq rfl ql ?_; refine x_b rfl ?_; refine e_call_upd rfl rfl (by kernel_rfl) rfl (fun w hC hm hL => by exact cput_c (List.replicate 32 (Value.int .u8 0)).toArray _ 0 _ _ h.ser (by simp [pnI_size]) w (hL.sub (by (repeat (first | exact List.nil_sublist _ | exact List.Sublist.slnil | apply List.Sublist.cons_cons | exact List.Sublist.refl _ | apply List.Sublist.cons))))) (by (repeat (first | exact Pl.here | apply Pl.there))) (by first | (left; simp; done) | (right; omega)) ?_; intro m' hm'; refine x_k (List.nil_sublist _) ?_; refine x_nil ?_) | refine n_then ?_ | refine c_block ?_ | refine c_skip ?_ | refine n_block ?_ | refine c_exit ?_ | refine n_then_exit ?_ | refine n_block_eq ?_ | refine n_block_ne rfl ?_ | refine c_ret ?_ | refine n_then_ret ?_ | refine n_block_ret ?_ | refine c_cond_t rfl ?_ | refine c_cond_f rfl ?_ | refine r_succ ?_ )
  repeat (first | refine c_seq ?_ | (refine x_region (id := 3) (some 3) [(0, .n), (1, .n), (2, .q), (3, .b)] _ mixed (by kernel_rfl) (List.Sublist.refl _) ?_; refine xn rfl qsa ?_; refine xn rfl qf ?_; refine xq rfl ql ?_; refine x_b rfl ?_; refine e_call_upd rfl rfl (by kernel_rfl) rfl (fun w hC hm hL => by exact cput_c (pnI (List.replicate 32 (Value.int .u8 0)).toArray 0 h.ser 8) _ 8 _ _ h.cnt (by simp [pnI_size]) w (hL.sub (by (repeat (first | exact List.nil_sublist _ | exact List.Sublist.slnil | apply List.Sublist.cons_cons | exact List.Sublist.refl _ | apply List.Sublist.cons))))) (by (repeat (first | exact Pl.here | apply Pl.there))) (by first | (left; simp; done) | (right; omega)) ?_; intro m' hm'; refine x_k (List.nil_sublist _) ?_; refine x_nil ?_) | refine n_then ?_ | refine c_block ?_ | refine c_skip ?_ | refine n_block ?_ | refine c_exit ?_ | refine n_then_exit ?_ | refine n_block_eq ?_ | refine n_block_ne rfl ?_ | refine c_ret ?_ | refine n_then_ret ?_ | refine n_block_ret ?_ | refine c_cond_t rfl ?_ | refine c_cond_f rfl ?_ | refine r_succ ?_ )
  repeat (first | refine c_seq ?_ | (refine x_region (id := 4) (some 3) [(0, .n), (1, .n), (2, .n), (3, .b)] _ mixed (by kernel_rfl) (List.Sublist.refl _) ?_; refine xn rfl qsa ?_; refine xn rfl qf ?_; refine xn rfl qsa ?_; refine x_b rfl ?_; refine e_copy (cs := pnI (pnI (List.replicate 32 (Value.int .u8 0)).toArray 0 h.ser 8) 8 h.cnt 8) (news := noteE h.nt) (k := 16) rfl rfl rfl (RdN.blk (by (repeat (first | exact List.Mem.head _ | apply List.Mem.tail))) (by rfl)) (by rfl) (by rfl) (by (repeat (first | exact Pl.here | apply Pl.there))) (by simp [pnI_size]) (by first | (left; simp; done) | (right; omega)) (by rfl) ?_; refine x_k (List.nil_sublist _) ?_; refine x_nil ?_) | refine n_then ?_ | refine c_block ?_ | refine c_skip ?_ | refine n_block ?_ | refine c_exit ?_ | refine n_then_exit ?_ | refine n_block_eq ?_ | refine n_block_ne rfl ?_ | refine c_ret ?_ | refine n_then_ret ?_ | refine n_block_ret ?_ | refine c_cond_t rfl ?_ | refine c_cond_f rfl ?_ | refine r_succ ?_ )
  rw [half_eq]
  repeat (first | refine c_seq ?_ | (refine c_region (id := 5) ?_; refine sq (by exact qlb (hl := by simp [halfL])) ?_; refine se ?_; refine esa ?_ (hk := by simp [halfL]) (ho := allOne_u8L _) (hoff := by rfl); refine l_nil ?_) | refine n_then ?_ | refine c_block ?_ | refine c_skip ?_ | refine n_block ?_ | refine c_exit ?_ | refine n_then_exit ?_ | refine n_block_eq ?_ | refine n_block_ne rfl ?_ | refine c_ret ?_ | refine n_then_ret ?_ | refine n_block_ret ?_ | refine c_cond_t rfl ?_ | refine c_cond_f rfl ?_ | refine r_succ ?_ )
  (first | apply r_ret () | apply r_end ()); exact rfl; exact rfl; exact (.row rfl (by (repeat (first | exact List.Mem.head _ | apply List.Mem.tail))) (by simp [halfL]) .nil); exact rfl; exact (List.nil_sublist _); exact new_nil; exact trivial
set_option maxRecDepth 100000 in
set_option maxHeartbeats 4000000 in
theorem sector_c (h : Hd) (w : World) : CA Tryz.prog 70 [.agg (headE h).toArray] w (RLe (Value.int .u8) 5 (fun zs => zs = secL (secH h) 64) w) := by
  refine enter (L := []) (X := []) Tryz.func70 rfl Tryz.ntmps70 rfl rfl (Has.nil _) ?_
  repeat (first | refine c_seq ?_ | (refine c_region (id := 0) ?_; refine se ?_; refine eb ?_; refine sq qa ?_; refine l_nil ?_) | (refine c_region (id := 1) ?_; refine sq (by first | exact qlb | exact qlr) ?_; refine se ?_; refine ecp rfl rfl (fun w hC hm hL => by exact half_c h w) ?_; intro m' hm'; refine se ?_; refine ea ?_; refine se ?_; refine esa ?_ (hk := by simp [halfL]) (ho := allOne_u8L _) (hoff := by rfl); refine l_nil ?_) | refine n_then ?_ | refine c_block ?_ | refine c_skip ?_ | refine n_block ?_ | refine c_exit ?_ | refine n_then_exit ?_ | refine n_block_eq ?_ | refine n_block_ne rfl ?_ | refine c_ret ?_ | refine n_then_ret ?_ | refine n_block_ret ?_ | refine c_cond_t rfl ?_ | refine c_cond_f rfl ?_ | refine r_succ ?_ )
  repeat (first | refine c_seq ?_ | (refine x_region (id := 2) (some 2) [(0, .n), (1, .n), (2, .b), (3, .n)] _ mixed (by kernel_rfl) (List.Sublist.refl _) ?_; refine xn rfl qsa ?_; refine xn rfl qsa ?_; refine x_b rfl ?_; refine e_appG (Value.int .u8) (halfL h) (halfL h) rfl rfl rfl (RdN.blk (by (repeat (first | exact List.Mem.head _ | apply List.Mem.tail))) (by simp [halfL])) (RdN.blk (by (repeat (first | exact List.Mem.head _ | apply List.Mem.tail))) (by simp [halfL])) (by rfl) (by rfl) (allOne_u8L _) (by omega) (by omega) (by omega) ?_; intro cap1 hcl1 hcm1; refine x_k (List.nil_sublist _) ?_; refine xn rfl qa ?_; refine x_nil ?_) | refine n_then ?_ | refine c_block ?_ | refine c_skip ?_ | refine n_block ?_ | refine c_exit ?_ | refine n_then_exit ?_ | refine n_block_eq ?_ | refine n_block_ne rfl ?_ | refine c_ret ?_ | refine n_then_ret ?_ | refine n_block_ret ?_ | refine c_cond_t rfl ?_ | refine c_cond_f rfl ?_ | refine r_succ ?_ )
  (first | apply r_ret (some ⟨m' + 1, 0, none⟩, cap1, halfL h ++ halfL h) | apply r_end (some ⟨m' + 1, 0, none⟩, cap1, halfL h ++ halfL h)); exact rfl; exact rfl; exact (.tmp rfl .nil); exact rfl; exact (by exact (by (repeat (first | exact List.nil_sublist _ | exact List.Sublist.slnil | apply List.Sublist.cons_cons | exact List.Sublist.refl _ | apply List.Sublist.cons)))); exact (new_sl (by intro g hg; simp [Chunk.foot] at hg; exact .inr (by omega)) new_nil); exact ⟨⟨hcl1, hcm1, .inr ⟨_, rfl⟩⟩, secH_list h⟩
theorem byI_len (F : Nat → Int) (o k : Nat) : (byI F o k).length = k := by simp [byI]
theorem byS_sz (F : Nat → Int) (o k : Nat) : (byS F o k).toArray.size = k := by simp [byS, byI]
def hdOf (F : Nat → Int) : Hd := ⟨numB F 0 8, numB F 8 8, fun j => if j < 16 then F (16 + j) else 0⟩
def hdZ : Hd := ⟨0, 0, fun _ => 0⟩
def hdS (F : Nat → Int) : Prop := ∀ j, j < 32 → F j = F (32 + j)
theorem hdS_iff (F : Nat → Int) : (byI F 0 32 = byI F 32 32) ↔ hdS F := by
  unfold hdS
  constructor
  · intro h j hj
    have h1 : (byI F 0 32)[j]? = (byI F 32 32)[j]? := by rw [h]
    simpa [byI, hj] using h1
  · intro h
    apply List.ext_getElem
    · simp [byI]
    · intro i h1 h2
      have := h i (by simpa [byI] using h1)
      simpa [byI] using this
theorem note_of (F : Nat → Int) : ((byS F 0 32).drop 16).take 16 = noteE (hdOf F).nt := by
  rw [byS_sub F 0 32 16 16 (by omega)]
  rfl
set_option maxRecDepth 100000 in
set_option maxHeartbeats 4000000 in
theorem headOf_y (F : Nat → Int) (hF : RB F) (hsm : hdS F) (g a cap : Nat) (hc : 64 ≤ cap) (w : World) (hO : Old w g a (byS F 0 64)) :
    CA Tryz.prog 63 [.slice (some ⟨g, a, none⟩) 64 cap] w (RV (.tuple #[.agg (headE (hdOf F)).toArray, .bool true]) w) := by
  have h0 : Old w g a (byS F 0 32) := by have := hO.tak 32; rwa [show (byS F 0 64).take 32 = byS F 0 32 by have := byS_sub F 0 64 0 32 (by omega); rwa [List.drop_zero] at this] at this
  have h32 : Old w g (a + 32) (byS F 32 32) := by have := (hO.drp 32).tak 32; rwa [byS_sub F 0 64 32 32 (by omega)] at this
  have hb : (byI F 0 32 != byI F 32 32) = false := by rw [(hdS_iff F).2 hsm]; simp
  focus
    refine enter (L := []) (X := []) Tryz.func63 rfl Tryz.ntmps63 rfl rfl (Has.nil _) ?_
    refine c_seq ?_
    refine c_region (id := 0) ?_
    refine se ?_; refine ea ?_
    refine sq qa ?_
    refine l_nil ?_
    refine n_then ?_
    refine c_join (γ := Nat × Nat) (fun z => [(4, .pointer (some ⟨z.1, 0, none⟩)), (5, .pointer (some ⟨z.2, 0, none⟩)), (2, .pointer (some ⟨w.heap.size, 0, none⟩)), (3, .bool false), (0, .slice (some ⟨g, a, none⟩) 64 cap)]) (fun _ => w.heap.size + 1 + 1 + 1) (fun z => [.blk z.1 (.cells (byS F 0 32).toArray 124 (0, 0)), .blk z.2 (.cells (byS F 32 32).toArray 124 (0, 0)), .blk w.heap.size (.cells (headE hdZ).toArray 86 (0, 0))]) (fun z => w.heap.size ≤ z.1 ∧ w.heap.size ≤ z.2) ?_ ?_
    · refine xa_region (id := 1) _ mixed (by kernel_rfl) rfl (List.Sublist.refl _) ?_; refine xa_y (i := 0) (by kernel_rfl) rfl (by kernel_rfl) rfl (ya_q (by exact qm)) (by (repeat (first | exact List.nil_sublist _ | exact List.Sublist.slnil | apply List.Sublist.cons_cons | exact List.Sublist.refl _ | apply List.Sublist.cons))) rfl ?_; refine xa_y (i := 1) (by kernel_rfl) rfl (by kernel_rfl) rfl (ya_q (by exact qs (b' := some ⟨g, a, none⟩) (hb' := by rw [if_neg (by omega)]; rfl))) (by (repeat (first | exact List.nil_sublist _ | exact List.Sublist.slnil | apply List.Sublist.cons_cons | exact List.Sublist.refl _ | apply List.Sublist.cons))) rfl ?_; refine xa_y (i := 2) (by kernel_rfl) rfl (by kernel_rfl) rfl (ya_q (by exact q_s2ap rfl (by decide))) (by (repeat (first | exact List.nil_sublist _ | exact List.Sublist.slnil | apply List.Sublist.cons_cons | exact List.Sublist.refl _ | apply List.Sublist.cons))) rfl ?_; refine xa_y (i := 3) (by kernel_rfl) rfl (by kernel_rfl) rfl (ya_q (by exact qlr (vs := byS F 0 32) (hr := RdN.old h0 (by simp)) (hl := byS_len _ _ _))) (by (repeat (first | exact List.nil_sublist _ | exact List.Sublist.slnil | apply List.Sublist.cons_cons | exact List.Sublist.refl _ | apply List.Sublist.cons))) rfl ?_; refine xa_y (i := 4) (by kernel_rfl) rfl (by kernel_rfl) rfl (ya_q (by exact qm)) (by (repeat (first | exact List.nil_sublist _ | exact List.Sublist.slnil | apply List.Sublist.cons_cons | exact List.Sublist.refl _ | apply List.Sublist.cons))) rfl ?_; refine xa_y (i := 5) (by kernel_rfl) rfl (by kernel_rfl) rfl (ya_q (by exact qs (b' := some ⟨g, a + 32, none⟩) (hb' := by rw [if_neg (by omega)]; rfl))) (by (repeat (first | exact List.nil_sublist _ | exact List.Sublist.slnil | apply List.Sublist.cons_cons | exact List.Sublist.refl _ | apply List.Sublist.cons))) rfl ?_; refine xa_y (i := 6) (by kernel_rfl) rfl (by kernel_rfl) rfl (ya_q (by exact q_s2ap rfl (by decide))) (by (repeat (first | exact List.nil_sublist _ | exact List.Sublist.slnil | apply List.Sublist.cons_cons | exact List.Sublist.refl _ | apply List.Sublist.cons))) rfl ?_; refine xa_y (i := 7) (by kernel_rfl) rfl (by kernel_rfl) rfl (ya_q (by exact qlr (vs := byS F 32 32) (hr := RdN.old h32 (by simp)) (hl := byS_len _ _ _))) (by (repeat (first | exact List.nil_sublist _ | exact List.Sublist.slnil | apply List.Sublist.cons_cons | exact List.Sublist.refl _ | apply List.Sublist.cons))) rfl ?_; refine xa_br 8 [9] (by kernel_rfl) ?_; refine br_cons rfl rfl ?_ ?_; (focus refine ea ?_; refine xa_k (by (repeat (first | exact Sel.nil | (refine Sel.cons (by (repeat (first | exact Rm.here | apply Rm.there))) ?_)))) ?_; refine xa_br 9 [] (by kernel_rfl) ?_; refine br_cons rfl rfl ?_ ?_; (focus refine ea ?_; refine xa_k (by (repeat (first | exact Sel.nil | (refine Sel.cons (by (repeat (first | exact Rm.here | apply Rm.there))) ?_)))) ?_; refine xa_br 10 [] (by kernel_rfl) ?_; refine br_cons rfl rfl ?_ ?_; (focus refine esa ?_ (hk := by exact byS_sz _ _ _) (ho := allOne_u8L _) (hoff := by rfl); refine xa_k (by (repeat (first | exact Sel.nil | (refine Sel.cons (by (repeat (first | exact Rm.here | apply Rm.there))) ?_)))) ?_; refine xa_br 11 [] (by kernel_rfl) ?_; refine br_cons rfl rfl ?_ ?_; (focus refine esa ?_ (hk := by exact byS_sz _ _ _) (ho := allOne_u8L _) (hoff := by rfl); refine xa_k (by (repeat (first | exact Sel.nil | (refine Sel.cons (by (repeat (first | exact Rm.here | apply Rm.there))) ?_)))) ?_; refine xa_nil (by kernel_rfl) rfl ?_; refine n_then ?_; refine c_joinedS (⟨_, _⟩ : Nat × Nat) ⟨rfl, rfl, rfl, rfl, rfl, trivial⟩ (by rfl) (by (repeat (first | exact Sel.nil | (refine Sel.cons (by (repeat (first | exact Rm.here | apply Rm.there))) ?_)))) ⟨by dsimp only; omega, by dsimp only; omega⟩); exact br_nil); exact br_nil); exact br_nil); refine br_cons rfl rfl ?_ ?_; (focus refine ea ?_; refine xa_k (by (repeat (first | exact Sel.nil | (refine Sel.cons (by (repeat (first | exact Rm.here | apply Rm.there))) ?_)))) ?_; refine xa_br 8 [] (by kernel_rfl) ?_; refine br_cons rfl rfl ?_ ?_; (focus refine ea ?_; refine xa_k (by (repeat (first | exact Sel.nil | (refine Sel.cons (by (repeat (first | exact Rm.here | apply Rm.there))) ?_)))) ?_; refine xa_br 10 [] (by kernel_rfl) ?_; refine br_cons rfl rfl ?_ ?_; (focus refine esa ?_ (hk := by exact byS_sz _ _ _) (ho := allOne_u8L _) (hoff := by rfl); refine xa_k (by (repeat (first | exact Sel.nil | (refine Sel.cons (by (repeat (first | exact Rm.here | apply Rm.there))) ?_)))) ?_; refine xa_br 11 [] (by kernel_rfl) ?_; refine br_cons rfl rfl ?_ ?_; (focus refine esa ?_ (hk := by exact byS_sz _ _ _) (ho := allOne_u8L _) (hoff := by rfl); refine xa_k (by (repeat (first | exact Sel.nil | (refine Sel.cons (by (repeat (first | exact Rm.here | apply Rm.there))) ?_)))) ?_; refine xa_nil (by kernel_rfl) rfl ?_; refine n_then ?_; refine c_joinedS (⟨_, _⟩ : Nat × Nat) ⟨rfl, rfl, rfl, rfl, rfl, trivial⟩ (by rfl) (by (repeat (first | exact Sel.nil | (refine Sel.cons (by (repeat (first | exact Rm.here | apply Rm.there))) ?_)))) ⟨by dsimp only; omega, by dsimp only; omega⟩); exact br_nil); exact br_nil); exact br_nil); exact br_nil
    · rintro z ⟨hz1, hz2⟩
      repeat (first | refine c_seq ?_ | (refine c_region (id := 2) ?_; refine sq (by exact qlb (hl := byS_sz _ _ _)) ?_; refine sq (by exact qlb (hl := byS_sz _ _ _)) ?_; refine sq (by exact Qt.cast (congrArg Value.bool hb) (q_neq_ints (xs := byI F 0 32) (ys := byI F 32 32) rfl rfl rfl rfl Tryz.eqGuardType124 (byI_len _ _ _) (byI_len _ _ _))) ?_; refine l_nil ?_) | (refine x_region (id := 4) (some 8) [(0, .n), (2, .n), (4, .n), (5, .n), (6, .q), (1, .e), (3, .e), (7, .n), (8, .b), (9, .n)] _ mixed (by kernel_rfl) (List.Sublist.refl _) ?_; refine xn rfl qsa ?_; refine xn rfl qsa ?_; refine xn rfl qsa ?_; refine xn rfl (by exact q_s2ap rfl (by decide)) ?_; refine xq rfl (by exact qlr (vs := noteE (hdOf F).nt) (hr := RdN.blk (by (repeat (first | exact List.Mem.head _ | apply List.Mem.tail))) (by exact note_of F)) (hl := by rfl)) ?_; refine x_e rfl ?_; refine ecp rfl rfl (fun w hC hm hL => by first | exact cnumber_c F hF 0 z.1 0 32 w (hL.old (k := 8) (by (repeat (first | exact List.Mem.head _ | apply List.Mem.tail))) (by exact byS_sub F 0 32 0 8 (by omega))) | exact cnumber_c F hF 8 z.1 8 24 w (hL.old (k := 8) (by (repeat (first | exact List.Mem.head _ | apply List.Mem.tail))) (by exact byS_sub F 0 32 8 8 (by omega)))) ?_; intro m' hm'; refine xk ?_; refine x_e rfl ?_; refine ecp rfl rfl (fun w hC hm hL => by first | exact cnumber_c F hF 0 z.1 0 32 w (hL.old (k := 8) (by (repeat (first | exact List.Mem.head _ | apply List.Mem.tail))) (by exact byS_sub F 0 32 0 8 (by omega))) | exact cnumber_c F hF 8 z.1 8 24 w (hL.old (k := 8) (by (repeat (first | exact List.Mem.head _ | apply List.Mem.tail))) (by exact byS_sub F 0 32 8 8 (by omega)))) ?_; intro m' hm'; refine xk ?_; refine xn rfl qbs ?_; refine x_b rfl ?_; refine esa ?_ (hk := by rfl) (ho := by rfl) (hoff := by rfl); refine x_k (List.nil_sublist _) ?_; refine xn rfl qa ?_; refine x_nil ?_) | refine n_then ?_ | refine c_block ?_ | refine c_skip ?_ | refine n_block ?_ | refine c_exit ?_ | refine n_then_exit ?_ | refine n_block_eq ?_ | refine n_block_ne rfl ?_ | refine c_ret ?_ | refine n_then_ret ?_ | refine n_block_ret ?_ | refine c_cond_t rfl ?_ | refine c_cond_f rfl ?_ | refine r_succ ?_ )
      (first | apply r_ret () | apply r_end ()); exact rfl; exact rfl; exact (.row rfl (by (repeat (first | exact List.Mem.head _ | apply List.Mem.tail))) (by rfl) (.tmp rfl .nil)); exact rfl; exact (List.nil_sublist _); exact new_nil; exact trivial
set_option maxRecDepth 100000 in
set_option maxHeartbeats 4000000 in
theorem headOf_n (F : Nat → Int) (hF : RB F) (hsm : ¬ hdS F) (g a cap : Nat) (hc : 64 ≤ cap) (w : World) (hO : Old w g a (byS F 0 64)) :
    CA Tryz.prog 63 [.slice (some ⟨g, a, none⟩) 64 cap] w (RV (.tuple #[.agg (headE hdZ).toArray, .bool false]) w) := by
  have h0 : Old w g a (byS F 0 32) := by have := hO.tak 32; rwa [show (byS F 0 64).take 32 = byS F 0 32 by have := byS_sub F 0 64 0 32 (by omega); rwa [List.drop_zero] at this] at this
  have h32 : Old w g (a + 32) (byS F 32 32) := by have := (hO.drp 32).tak 32; rwa [byS_sub F 0 64 32 32 (by omega)] at this
  have hb : (byI F 0 32 != byI F 32 32) = true := by simp only [bne_iff_ne, ne_eq]; exact fun e => hsm ((hdS_iff F).1 e)
  focus
    refine enter (L := []) (X := []) Tryz.func63 rfl Tryz.ntmps63 rfl rfl (Has.nil _) ?_
    refine c_seq ?_
    refine c_region (id := 0) ?_
    refine se ?_; refine ea ?_
    refine sq qa ?_
    refine l_nil ?_
    refine n_then ?_
    refine c_join (γ := Nat × Nat) (fun z => [(4, .pointer (some ⟨z.1, 0, none⟩)), (5, .pointer (some ⟨z.2, 0, none⟩)), (2, .pointer (some ⟨w.heap.size, 0, none⟩)), (3, .bool false), (0, .slice (some ⟨g, a, none⟩) 64 cap)]) (fun _ => w.heap.size + 1 + 1 + 1) (fun z => [.blk z.1 (.cells (byS F 0 32).toArray 124 (0, 0)), .blk z.2 (.cells (byS F 32 32).toArray 124 (0, 0)), .blk w.heap.size (.cells (headE hdZ).toArray 86 (0, 0))]) (fun z => w.heap.size ≤ z.1 ∧ w.heap.size ≤ z.2) ?_ ?_
    · refine xa_region (id := 1) _ mixed (by kernel_rfl) rfl (List.Sublist.refl _) ?_; refine xa_y (i := 0) (by kernel_rfl) rfl (by kernel_rfl) rfl (ya_q (by exact qm)) (by (repeat (first | exact List.nil_sublist _ | exact List.Sublist.slnil | apply List.Sublist.cons_cons | exact List.Sublist.refl _ | apply List.Sublist.cons))) rfl ?_; refine xa_y (i := 1) (by kernel_rfl) rfl (by kernel_rfl) rfl (ya_q (by exact qs (b' := some ⟨g, a, none⟩) (hb' := by rw [if_neg (by omega)]; rfl))) (by (repeat (first | exact List.nil_sublist _ | exact List.Sublist.slnil | apply List.Sublist.cons_cons | exact List.Sublist.refl _ | apply List.Sublist.cons))) rfl ?_; refine xa_y (i := 2) (by kernel_rfl) rfl (by kernel_rfl) rfl (ya_q (by exact q_s2ap rfl (by decide))) (by (repeat (first | exact List.nil_sublist _ | exact List.Sublist.slnil | apply List.Sublist.cons_cons | exact List.Sublist.refl _ | apply List.Sublist.cons))) rfl ?_; refine xa_y (i := 3) (by kernel_rfl) rfl (by kernel_rfl) rfl (ya_q (by exact qlr (vs := byS F 0 32) (hr := RdN.old h0 (by simp)) (hl := byS_len _ _ _))) (by (repeat (first | exact List.nil_sublist _ | exact List.Sublist.slnil | apply List.Sublist.cons_cons | exact List.Sublist.refl _ | apply List.Sublist.cons))) rfl ?_; refine xa_y (i := 4) (by kernel_rfl) rfl (by kernel_rfl) rfl (ya_q (by exact qm)) (by (repeat (first | exact List.nil_sublist _ | exact List.Sublist.slnil | apply List.Sublist.cons_cons | exact List.Sublist.refl _ | apply List.Sublist.cons))) rfl ?_; refine xa_y (i := 5) (by kernel_rfl) rfl (by kernel_rfl) rfl (ya_q (by exact qs (b' := some ⟨g, a + 32, none⟩) (hb' := by rw [if_neg (by omega)]; rfl))) (by (repeat (first | exact List.nil_sublist _ | exact List.Sublist.slnil | apply List.Sublist.cons_cons | exact List.Sublist.refl _ | apply List.Sublist.cons))) rfl ?_; refine xa_y (i := 6) (by kernel_rfl) rfl (by kernel_rfl) rfl (ya_q (by exact q_s2ap rfl (by decide))) (by (repeat (first | exact List.nil_sublist _ | exact List.Sublist.slnil | apply List.Sublist.cons_cons | exact List.Sublist.refl _ | apply List.Sublist.cons))) rfl ?_; refine xa_y (i := 7) (by kernel_rfl) rfl (by kernel_rfl) rfl (ya_q (by exact qlr (vs := byS F 32 32) (hr := RdN.old h32 (by simp)) (hl := byS_len _ _ _))) (by (repeat (first | exact List.nil_sublist _ | exact List.Sublist.slnil | apply List.Sublist.cons_cons | exact List.Sublist.refl _ | apply List.Sublist.cons))) rfl ?_; refine xa_br 8 [9] (by kernel_rfl) ?_; refine br_cons rfl rfl ?_ ?_; (focus refine ea ?_; refine xa_k (by (repeat (first | exact Sel.nil | (refine Sel.cons (by (repeat (first | exact Rm.here | apply Rm.there))) ?_)))) ?_; refine xa_br 9 [] (by kernel_rfl) ?_; refine br_cons rfl rfl ?_ ?_; (focus refine ea ?_; refine xa_k (by (repeat (first | exact Sel.nil | (refine Sel.cons (by (repeat (first | exact Rm.here | apply Rm.there))) ?_)))) ?_; refine xa_br 10 [] (by kernel_rfl) ?_; refine br_cons rfl rfl ?_ ?_; (focus refine esa ?_ (hk := by exact byS_sz _ _ _) (ho := allOne_u8L _) (hoff := by rfl); refine xa_k (by (repeat (first | exact Sel.nil | (refine Sel.cons (by (repeat (first | exact Rm.here | apply Rm.there))) ?_)))) ?_; refine xa_br 11 [] (by kernel_rfl) ?_; refine br_cons rfl rfl ?_ ?_; (focus refine esa ?_ (hk := by exact byS_sz _ _ _) (ho := allOne_u8L _) (hoff := by rfl); refine xa_k (by (repeat (first | exact Sel.nil | (refine Sel.cons (by (repeat (first | exact Rm.here | apply Rm.there))) ?_)))) ?_; refine xa_nil (by kernel_rfl) rfl ?_; refine n_then ?_; refine c_joinedS (⟨_, _⟩ : Nat × Nat) ⟨rfl, rfl, rfl, rfl, rfl, trivial⟩ (by rfl) (by (repeat (first | exact Sel.nil | (refine Sel.cons (by (repeat (first | exact Rm.here | apply Rm.there))) ?_)))) ⟨by dsimp only; omega, by dsimp only; omega⟩); exact br_nil); exact br_nil); exact br_nil); refine br_cons rfl rfl ?_ ?_; (focus refine ea ?_; refine xa_k (by (repeat (first | exact Sel.nil | (refine Sel.cons (by (repeat (first | exact Rm.here | apply Rm.there))) ?_)))) ?_; refine xa_br 8 [] (by kernel_rfl) ?_; refine br_cons rfl rfl ?_ ?_; (focus refine ea ?_; refine xa_k (by (repeat (first | exact Sel.nil | (refine Sel.cons (by (repeat (first | exact Rm.here | apply Rm.there))) ?_)))) ?_; refine xa_br 10 [] (by kernel_rfl) ?_; refine br_cons rfl rfl ?_ ?_; (focus refine esa ?_ (hk := by exact byS_sz _ _ _) (ho := allOne_u8L _) (hoff := by rfl); refine xa_k (by (repeat (first | exact Sel.nil | (refine Sel.cons (by (repeat (first | exact Rm.here | apply Rm.there))) ?_)))) ?_; refine xa_br 11 [] (by kernel_rfl) ?_; refine br_cons rfl rfl ?_ ?_; (focus refine esa ?_ (hk := by exact byS_sz _ _ _) (ho := allOne_u8L _) (hoff := by rfl); refine xa_k (by (repeat (first | exact Sel.nil | (refine Sel.cons (by (repeat (first | exact Rm.here | apply Rm.there))) ?_)))) ?_; refine xa_nil (by kernel_rfl) rfl ?_; refine n_then ?_; refine c_joinedS (⟨_, _⟩ : Nat × Nat) ⟨rfl, rfl, rfl, rfl, rfl, trivial⟩ (by rfl) (by (repeat (first | exact Sel.nil | (refine Sel.cons (by (repeat (first | exact Rm.here | apply Rm.there))) ?_)))) ⟨by dsimp only; omega, by dsimp only; omega⟩); exact br_nil); exact br_nil); exact br_nil); exact br_nil
    · rintro z ⟨hz1, hz2⟩
      repeat (first | refine c_seq ?_ | (refine c_region (id := 2) ?_; refine sq (by exact qlb (hl := byS_sz _ _ _)) ?_; refine sq (by exact qlb (hl := byS_sz _ _ _)) ?_; refine sq (by exact Qt.cast (congrArg Value.bool hb) (q_neq_ints (xs := byI F 0 32) (ys := byI F 32 32) rfl rfl rfl rfl Tryz.eqGuardType124 (byI_len _ _ _) (byI_len _ _ _))) ?_; refine l_nil ?_) | (refine c_region (id := 3) ?_; refine sq qbs ?_; refine se ?_; refine esa ?_ (hk := by rfl) (ho := by rfl) (hoff := by rfl); refine sq qa ?_; refine l_nil ?_) | refine n_then ?_ | refine c_block ?_ | refine c_skip ?_ | refine n_block ?_ | refine c_exit ?_ | refine n_then_exit ?_ | refine n_block_eq ?_ | refine n_block_ne rfl ?_ | refine c_ret ?_ | refine n_then_ret ?_ | refine n_block_ret ?_ | refine c_cond_t rfl ?_ | refine c_cond_f rfl ?_ | refine r_succ ?_ )
      (first | apply r_ret () | apply r_end ()); exact rfl; exact rfl; exact (.row rfl (by (repeat (first | exact List.Mem.head _ | apply List.Mem.tail))) (by rfl) (.tmp rfl .nil)); exact rfl; exact (List.nil_sublist _); exact new_nil; exact trivial
end Go.Proofs.YtgmghkakiocmjaaGreatDoor
namespace Go.Proofs.YtgmghkakiocmjaaGreatDoor
open Go Go.RowKit
set_option linter.unusedVariables false
set_option linter.unusedSimpArgs false
def tornF (a b : Nat → Int) (k : Int) (j : Nat) : Int := if k < 128 then (if j < (min k 64).toNat then b j else a j) else (if j < (64 - min (k - 128) 64).toNat then a j else b j)
theorem secE_get (f : Nat → Int) (q : Nat) (h : q < 64) : (secE f)[q]? = some ((Value.int .u8) (f q)) := by
  simp [secE, h]
theorem torn_lo (a b : Nat → Int) (k : Int) (n : Nat) (hk : k < 128) (hn : (n : Int) = min k 64) : setA (secE a).toArray 0 ((secE b).take n) = (secE (tornF a b k)).toArray := by
  have hn6 : n ≤ 64 := by omega
  have ha := secE_len a
  have hb := secE_len b
  apply Array.ext'
  rw [setA_toList _ _ _ (by simp only [List.length_take, List.size_toArray]; omega)]
  apply List.ext_getElem?
  intro q
  simp only [List.take_zero, List.nil_append, Nat.zero_add, List.length_take]
  by_cases h : q < n
  · rw [List.getElem?_append_left (by simp only [List.length_take]; omega), List.getElem?_take, if_pos h, secE_get _ _ (by omega), secE_get _ _ (by omega)]
    simp only [tornF, if_pos hk]
    rw [if_pos (by omega)]
  · rw [List.getElem?_append_right (by simp only [List.length_take]; omega), List.length_take, List.getElem?_drop]
    by_cases h6 : q < 64
    · rw [show min n (secE b).length + (q - min n (secE b).length) = q by omega, secE_get _ _ h6, secE_get _ _ h6]
      simp only [tornF, if_pos hk]
      rw [if_neg (by omega)]
    · rw [List.getElem?_eq_none (by omega), List.getElem?_eq_none (by rw [secE_len]; omega)]
theorem torn_hi (a b : Nat → Int) (k : Int) (n : Nat) (hk : ¬ k < 128) (hn : (n : Int) = 64 - min (k - 128) 64) : setA (secE a).toArray n ((secE b).drop n) = (secE (tornF a b k)).toArray := by
  have hn6 : n ≤ 64 := by omega
  have ha := secE_len a
  have hb := secE_len b
  apply Array.ext'
  rw [setA_toList _ _ _ (by simp only [List.length_drop, List.size_toArray]; omega)]
  apply List.ext_getElem?
  intro q
  simp only [List.length_drop]
  rw [show (secE a).drop (n + ((secE b).length - n)) = [] by rw [List.drop_eq_nil_iff]; omega, List.append_nil]
  by_cases h : q < n
  · rw [List.getElem?_append_left (by simp only [List.length_take]; omega), List.getElem?_take, if_pos h, secE_get _ _ (by omega), secE_get _ _ (by omega)]
    simp only [tornF, if_neg hk]
    rw [if_pos (by omega)]
  · rw [List.getElem?_append_right (by simp only [List.length_take]; omega), List.length_take, List.getElem?_drop, ha]
    by_cases h6 : q < 64
    · rw [show n + (q - min n 64) = q by omega, secE_get _ _ h6, secE_get _ _ h6]
      simp only [tornF, if_neg hk]
      rw [if_neg (by omega)]
    · rw [List.getElem?_eq_none (by omega), List.getElem?_eq_none (by rw [secE_len]; omega)]
theorem allOne_sub {l l' : List Value} (hs : l'.Sublist l) (h : allOne l = true) : allOne l' = true := by
  induction hs with
  | slnil => rfl
  | cons x _ ih => simp only [allOne, Bool.and_eq_true] at h; exact ih h.2
  | cons_cons x _ ih => simp only [allOne, Bool.and_eq_true] at h ⊢; exact ⟨h.1, ih h.2⟩
theorem allOne_part (f : Nat → Int) (l : List Value) (h : l.Sublist (secE f)) : allOne l = true := allOne_sub h (secE_one f)
set_option maxRecDepth 100000 in
set_option maxHeartbeats 4000000 in
theorem torn_c (a b : Nat → Int) (kv : Int) (hk : 0 ≤ kv ∧ kv ≤ 255) (w : World) :
    CA Tryz.prog 37 [secV a, secV b, .int .u8 kv] w (RV (secV (tornF a b kv)) w) := by
  unfold secV
  have ha := secE_len a
  have hb := secE_len b
  by_cases h1 : kv < 128
  · obtain ⟨n, hn⟩ : ∃ n : Nat, (n : Int) = min kv 64 := ⟨(min kv 64).toNat, by omega⟩
    refine enter (L := []) (X := []) Tryz.func37 rfl Tryz.ntmps37 rfl rfl (Has.nil _) ?_
    repeat (first | refine c_seq ?_ | (refine c_region (id := 0) ?_; refine se ?_; refine eb ?_; refine se ?_; refine eb ?_; refine se ?_; refine ea ?_; refine l_nil ?_) | (refine c_region (id := 1) ?_; refine sq qm ?_; refine sq (by first | exact dlsst | exact dlssf) ?_; refine l_nil ?_) | (refine x_region (id := 2) (some 5) [(0, .n), (1, .n), (2, .n), (3, .n), (4, .n), (5, .b)] _ mixed (by kernel_rfl) (List.Sublist.refl _) ?_; refine xn rfl qsa ?_; refine xn rfl qm ?_; refine xn rfl qci ?_; refine xn rfl (by exact Qt.cast (v' := .int .i64 ((n : Nat) : Int)) (congrArg (Value.int .i64) (by split <;> omega)) (q_min rfl rfl)) ?_; refine xn rfl qsa ?_; refine x_b rfl ?_; refine e_copy (cs := (secE a).toArray) (news := (secE b).take n) (k := n) rfl rfl rfl (RdN.blk (cs := (secE b).toArray) (by (repeat (first | exact List.Mem.head _ | apply List.Mem.tail))) (by simp only [List.drop_zero, List.length_take]; rw [← List.take_take]; simp)) (by simp only [List.length_take]; omega) (allOne_part b _ (List.take_sublist _ _)) (by rw [torn_lo a b kv n h1 hn]; (repeat (first | exact Pl.here | apply Pl.there))) (by simp only [List.length_take, List.size_toArray]; omega) (by first | (left; simp; done) | (right; omega)) (by simp only [List.length_take]; omega) ?_; refine x_k (List.nil_sublist _) ?_; refine x_nil ?_) | (refine c_region (id := 5) ?_; refine sq (by exact qlb (hl := by simp [secE_len])) ?_; refine se ?_; refine esa ?_ (hk := by simp [secE_len]) (ho := secE_one _) (hoff := by rfl); refine l_nil ?_) | refine n_then ?_ | refine c_block ?_ | refine c_skip ?_ | refine n_block ?_ | refine c_exit ?_ | refine n_then_exit ?_ | refine n_block_eq ?_ | refine n_block_ne rfl ?_ | refine c_ret ?_ | refine n_then_ret ?_ | refine n_block_ret ?_ | refine c_cond_t rfl ?_ | refine c_cond_f rfl ?_ | refine r_succ ?_ )
    (first | apply r_ret () | apply r_end ()); exact rfl; exact rfl; exact (.row rfl (by (repeat (first | exact List.Mem.head _ | apply List.Mem.tail))) (by simp [secE_len]) .nil); exact rfl; exact (List.nil_sublist _); exact new_nil; exact trivial
  · obtain ⟨n, hn⟩ : ∃ n : Nat, (n : Int) = 64 - min (kv - 128) 64 := ⟨(64 - min (kv - 128) 64).toNat, by omega⟩
    have OVM : True := trivial
    by_cases h6 : n = 64
    · have e9 : (secE a).toArray = (secE (tornF a b kv)).toArray := by
        rw [← torn_hi a b kv n h1 hn, h6, show (secE b).drop 64 = [] by rw [List.drop_eq_nil_iff]; omega]
        rfl
      refine enter (L := []) (X := []) Tryz.func37 rfl Tryz.ntmps37 rfl rfl (Has.nil _) ?_
      repeat (first | refine c_seq ?_ | (refine c_region (id := 0) ?_; refine se ?_; refine eb ?_; refine se ?_; refine eb ?_; refine se ?_; refine ea ?_; refine l_nil ?_) | (refine c_region (id := 1) ?_; refine sq qm ?_; refine sq (by first | exact dlsst | exact dlssf) ?_; refine l_nil ?_) | (refine c_region (id := 3) ?_; refine sq qm ?_; refine sq qci ?_; refine sq qsub64 ?_; refine sq (by exact Qt.cast (v' := .int .i64 ((64 : Int) - (n : Int))) (congrArg (Value.int .i64) (by split <;> omega)) (q_min rfl rfl)) ?_; refine sq (by exact Qt.cast (v' := .int .i64 ((n : Nat) : Int)) (congrArg (Value.int .i64) (by omega)) (q_sub64 rfl rfl ⟨by omega, by omega⟩ rfl)) ?_; refine sq qa ?_; refine l_nil ?_) | (refine x_region (id := 4) (some 4) [(0, .n), (1, .n), (2, .n), (3, .n), (4, .b)] _ mixed (by kernel_rfl) (List.Sublist.refl _) ?_; refine xn rfl qm ?_; refine xn rfl qsa ?_; refine xn rfl qm ?_; refine xn rfl qsa ?_; refine x_b rfl ?_; refine e_copy_none rfl rfl rfl (by omega) ?_; refine x_k (List.nil_sublist _) ?_; refine x_nil ?_) | refine n_then ?_ | refine c_block ?_ | refine c_skip ?_ | refine n_block ?_ | refine c_exit ?_ | refine n_then_exit ?_ | refine n_block_eq ?_ | refine n_block_ne rfl ?_ | refine c_ret ?_ | refine n_then_ret ?_ | refine n_block_ret ?_ | refine c_cond_t rfl ?_ | refine c_cond_f rfl ?_ | refine r_succ ?_ )
      rw [e9]
      repeat (first | refine c_seq ?_ | (refine c_region (id := 5) ?_; refine sq (by exact qlb (hl := by simp [secE_len])) ?_; refine se ?_; refine esa ?_ (hk := by simp [secE_len]) (ho := secE_one _) (hoff := by rfl); refine l_nil ?_) | refine n_then ?_ | refine c_block ?_ | refine c_skip ?_ | refine n_block ?_ | refine c_exit ?_ | refine n_then_exit ?_ | refine n_block_eq ?_ | refine n_block_ne rfl ?_ | refine c_ret ?_ | refine n_then_ret ?_ | refine n_block_ret ?_ | refine c_cond_t rfl ?_ | refine c_cond_f rfl ?_ | refine r_succ ?_ )
      (first | apply r_ret () | apply r_end ()); exact rfl; exact rfl; exact (.row rfl (by (repeat (first | exact List.Mem.head _ | apply List.Mem.tail))) (by simp [secE_len]) .nil); exact rfl; exact (List.nil_sublist _); exact new_nil; exact trivial
    · have e64 : (if 64 = n then 0 else n) = n := if_neg (by omega)
      refine enter (L := []) (X := []) Tryz.func37 rfl Tryz.ntmps37 rfl rfl (Has.nil _) ?_
      repeat (first | refine c_seq ?_ | (refine c_region (id := 0) ?_; refine se ?_; refine eb ?_; refine se ?_; refine eb ?_; refine se ?_; refine ea ?_; refine l_nil ?_) | (refine c_region (id := 1) ?_; refine sq qm ?_; refine sq (by first | exact dlsst | exact dlssf) ?_; refine l_nil ?_) | (refine c_region (id := 3) ?_; refine sq qm ?_; refine sq qci ?_; refine sq qsub64 ?_; refine sq (by exact Qt.cast (v' := .int .i64 ((64 : Int) - (n : Int))) (congrArg (Value.int .i64) (by split <;> omega)) (q_min rfl rfl)) ?_; refine sq (by exact Qt.cast (v' := .int .i64 ((n : Nat) : Int)) (congrArg (Value.int .i64) (by omega)) (q_sub64 rfl rfl ⟨by omega, by omega⟩ rfl)) ?_; refine sq qa ?_; refine l_nil ?_) | (refine x_region (id := 4) (some 4) [(0, .n), (1, .n), (2, .n), (3, .n), (4, .b)] _ mixed (by kernel_rfl) (List.Sublist.refl _) ?_; refine xn rfl qm ?_; refine xn rfl qsa ?_; refine xn rfl qm ?_; refine xn rfl qsa ?_; refine x_b rfl ?_; refine e_copy (g := w.heap.size) (o := n) (p := ⟨w.heap.size + 1, n, none⟩) (dl := 64 - n) (dc := 64 - n) (sl := 64 - n) (sc := 64 - n) (cs := (secE a).toArray) (news := (secE b).drop n) (k := 64 - n) (by simp only [e64]; rfl) (by simp only [e64]; rfl) rfl (RdN.blk (cs := (secE b).toArray) (by (repeat (first | exact List.Mem.head _ | apply List.Mem.tail))) List.take_length) (by simp only [List.length_drop]; omega) (allOne_part b _ (List.drop_sublist _ _)) (by rw [torn_hi a b kv n h1 hn]; (repeat (first | exact Pl.here | apply Pl.there))) (by simp only [List.length_drop, List.size_toArray]; omega) (by first | (left; simp; done) | (right; omega)) (by simp only [List.length_drop]; omega) ?_; refine x_k (List.nil_sublist _) ?_; refine x_nil ?_) | (refine c_region (id := 5) ?_; refine sq (by exact qlb (hl := by simp [secE_len])) ?_; refine se ?_; refine esa ?_ (hk := by simp [secE_len]) (ho := secE_one _) (hoff := by rfl); refine l_nil ?_) | refine n_then ?_ | refine c_block ?_ | refine c_skip ?_ | refine n_block ?_ | refine c_exit ?_ | refine n_then_exit ?_ | refine n_block_eq ?_ | refine n_block_ne rfl ?_ | refine c_ret ?_ | refine n_then_ret ?_ | refine n_block_ret ?_ | refine c_cond_t rfl ?_ | refine c_cond_f rfl ?_ | refine r_succ ?_ )
      (first | apply r_ret () | apply r_end ()); exact rfl; exact rfl; exact (.row rfl (by (repeat (first | exact List.Mem.head _ | apply List.Mem.tail))) (by simp [secE_len]) .nil); exact rfl; exact (List.nil_sublist _); exact new_nil; exact trivial
end Go.Proofs.YtgmghkakiocmjaaGreatDoor
namespace Go.Proofs.YtgmghkakiocmjaaGreatDoor
open Go Go.RowKit
set_option linter.unusedVariables false
set_option linter.unusedSimpArgs false
def Dk.still (D : Dk) : Dk := { D with M := [] }
set_option maxRecDepth 100000 in
set_option maxHeartbeats 4000000 in
theorem fuse_c (gd gw gm n : Nat) (fu go : Bool) (fz : Int) (k : Int) (w : World) (hL0 : Has [.blk gd (.cells #[.slice (some ⟨gw, 0, none⟩) n n, .map (some gm), .bool fu, .int .i64 fz, .bool go] 52 (0, 0))] w) :
    CA Tryz.prog 19 [.pointer (some ⟨gd, 0, none⟩), .int .i64 k] w (RU (.tuple #[]) gd (.cells #[.slice (some ⟨gw, 0, none⟩) n n, .map (some gm), .bool (decide (0 ≤ k)), .int .i64 (max k 0), .bool go] 52 (0, 0)) w) := by
  refine enter (L := [.blk gd (.cells #[.slice (some ⟨gw, 0, none⟩) n n, .map (some gm), .bool fu, .int .i64 fz, .bool go] 52 (0, 0))]) (X := [gd]) Tryz.func19 rfl Tryz.ntmps19 rfl rfl hL0 ?_
  repeat (first | refine c_seq ?_ | (refine c_region (id := 0) ?_; refine sq qm ?_; refine sq qm ?_; refine sq (by exact q_geq rfl rfl) ?_; refine sq qn ?_; refine sq qf ?_; refine se ?_; refine es1 ?_ (hg := .inl (by simp)); refine l_nil ?_) | (refine c_region (id := 1) ?_; refine sq qm ?_; refine sq qm ?_; refine sq (by exact Qt.cast (v' := .int .i64 (max k 0)) (congrArg (Value.int .i64) (by split <;> omega)) (q_max rfl rfl)) ?_; refine sq qn ?_; refine sq qf ?_; refine se ?_; refine es1 ?_ (hg := .inl (by simp)); refine l_nil ?_) | refine n_then ?_ | refine c_block ?_ | refine c_skip ?_ | refine n_block ?_ | refine c_exit ?_ | refine n_then_exit ?_ | refine n_block_eq ?_ | refine n_block_ne rfl ?_ | refine c_ret ?_ | refine n_then_ret ?_ | refine n_block_ret ?_ | refine c_cond_t rfl ?_ | refine c_cond_f rfl ?_ | refine r_succ ?_ )
  (first | apply r_ret () | apply r_end ()); exact rfl; exact rfl; exact .nil; exact rfl; exact (by exact (by (repeat (first | exact List.nil_sublist _ | exact List.Sublist.slnil | apply List.Sublist.cons_cons | exact List.Sublist.refl _ | apply List.Sublist.cons)))); exact (by intro g hg; simp [feet, Chunk.foot] at hg; exact .inl (by simp [hg])); exact trivial
set_option maxRecDepth 100000 in
set_option maxHeartbeats 4000000 in
theorem sync_ok (gd gw gm : Nat) (D : Dk) (hf : 0 ≤ D.fuse ∧ D.fuse ≤ 9223372036854775807) (hp : D.pgone = false) (w : World) (hD : Has (DskL gd gw gm D) w) :
    CA Tryz.prog 71 [.pointer (some ⟨gd, 0, none⟩)] w (Ret (fun _ : Unit => .int .i64 0) [gd, gw, gm] (fun _ => DskL gd gw gm D.lit.still) (fun _ => True) w) := by
  refine enter (L := DskL gd gw gm D) (X := [gd, gw, gm]) Tryz.func71 rfl Tryz.ntmps71 rfl rfl hD ?_
  repeat (first | refine c_seq ?_ | (refine c_region (id := 0) ?_; refine sq qa ?_; refine l_nil ?_) | (refine c_region (id := 1) ?_; refine sq qm ?_; refine se ?_; refine e_call_upd rfl rfl (by kernel_rfl) rfl (fun w hC hm hL => by exact pow_yes gd gw gm D hf hp w (hL.sub (by (repeat (first | exact List.nil_sublist _ | exact List.Sublist.slnil | apply List.Sublist.cons_cons | exact List.Sublist.refl _ | apply List.Sublist.cons))))) (by (repeat (first | exact Pl.here | apply Pl.there))) (.inl (by simp)) ?_; intro m' hm'; refine sq qnt ?_; refine l_nil ?_) | (refine c_region (id := 3) ?_; refine sq qm ?_; refine sq qn ?_; refine sq qf ?_; refine sq ql ?_; refine se ?_; refine e_clearMap secV D.M rfl (by (repeat (first | exact Pl.here | apply Pl.there))) (.inl (by simp)) ?_; refine l_nil ?_) | (refine c_region (id := 4) ?_; refine sq qa ?_; refine l_nil ?_) | refine n_then ?_ | refine c_block ?_ | refine c_skip ?_ | refine n_block ?_ | refine c_exit ?_ | refine n_then_exit ?_ | refine n_block_eq ?_ | refine n_block_ne rfl ?_ | refine c_ret ?_ | refine n_then_ret ?_ | refine n_block_ret ?_ | refine c_cond_t rfl ?_ | refine c_cond_f rfl ?_ | refine r_succ ?_ )
  (first | apply r_ret () | apply r_end ()); exact rfl; exact rfl; exact (.tmp rfl .nil); exact rfl; exact (List.Sublist.refl _); exact (by intro g hg; rw [feetD] at hg; exact .inl hg); exact trivial
set_option maxRecDepth 100000 in
set_option maxHeartbeats 4000000 in
theorem sync_lost (gd gw gm : Nat) (D : Dk) (hf : 0 ≤ D.fuse ∧ D.fuse ≤ 9223372036854775807) (hp : D.pgone = true) (w : World) (hD : Has (DskL gd gw gm D) w) :
    CA Tryz.prog 71 [.pointer (some ⟨gd, 0, none⟩)] w (Ret (fun _ : Unit => .int .i64 5) [gd, gw, gm] (fun _ => DskL gd gw gm D.dead) (fun _ => True) w) := by
  refine enter (L := DskL gd gw gm D) (X := [gd, gw, gm]) Tryz.func71 rfl Tryz.ntmps71 rfl rfl hD ?_
  repeat (first | refine c_seq ?_ | (refine c_region (id := 0) ?_; refine sq qa ?_; refine l_nil ?_) | (refine c_region (id := 1) ?_; refine sq qm ?_; refine se ?_; refine e_call_upd rfl rfl (by kernel_rfl) rfl (fun w hC hm hL => by exact pow_no gd gw gm D hf hp w (hL.sub (by (repeat (first | exact List.nil_sublist _ | exact List.Sublist.slnil | apply List.Sublist.cons_cons | exact List.Sublist.refl _ | apply List.Sublist.cons))))) (by (repeat (first | exact Pl.here | apply Pl.there))) (.inl (by simp)) ?_; intro m' hm'; refine sq qnt ?_; refine l_nil ?_) | (refine c_region (id := 2) ?_; refine sq qa ?_; refine l_nil ?_) | refine n_then ?_ | refine c_block ?_ | refine c_skip ?_ | refine n_block ?_ | refine c_exit ?_ | refine n_then_exit ?_ | refine n_block_eq ?_ | refine n_block_ne rfl ?_ | refine c_ret ?_ | refine n_then_ret ?_ | refine n_block_ret ?_ | refine c_cond_t rfl ?_ | refine c_cond_f rfl ?_ | refine r_succ ?_ )
  (first | apply r_ret () | apply r_end ()); exact rfl; exact rfl; exact (.tmp rfl .nil); exact rfl; exact (List.Sublist.refl _); exact (by intro g hg; rw [feetD] at hg; exact .inl hg); exact trivial
set_option maxRecDepth 100000 in
set_option maxHeartbeats 4000000 in
theorem keys_c (gm : Nat) (w : World) :
    CA Tryz.prog 36 [.map (some gm)] w (Ret (fun z : Nat => .func (.func 58) #[] #[.pointer (some ⟨z, 0, none⟩)]) [] (fun z => [.blk z (.cells #[.map (some gm)] 50 (0, 0))]) (fun _ => True) w) := by
  refine enter (L := []) (X := []) Tryz.func36 rfl Tryz.ntmps36 rfl rfl (Has.nil _) ?_
  repeat (first | refine c_seq ?_ | (refine c_region (id := 0) ?_; refine se ?_; refine eb1 ?_; refine sq qa ?_; refine l_nil ?_) | (refine c_region (id := 1) ?_; refine sq (by exact q_makeFunc rfl rfl) ?_; refine sq qa ?_; refine l_nil ?_) | refine n_then ?_ | refine c_block ?_ | refine c_skip ?_ | refine n_block ?_ | refine c_exit ?_ | refine n_then_exit ?_ | refine n_block_eq ?_ | refine n_block_ne rfl ?_ | refine c_ret ?_ | refine n_then_ret ?_ | refine n_block_ret ?_ | refine c_cond_t rfl ?_ | refine c_cond_f rfl ?_ | refine r_succ ?_ )
  (first | apply r_ret w.heap.size | apply r_end w.heap.size); exact rfl; exact rfl; exact (.tmp rfl .nil); exact rfl; exact (List.Sublist.refl _); exact (by intro g hg; simp [feet, Chunk.foot] at hg; exact .inr (by omega)); exact trivial
def keysOf (M : List (ME (Nat → Int))) : List Int := (M.map (·.1)).mergeSort fun x y => decide (x ≤ y)
def SortOK : Prop := ∀ (gm z cl : Nat) (M : List (ME (Nat → Int))) (w : World), (M.map (·.1)).Nodup → (∀ e ∈ M, 0 ≤ e.1 ∧ e.1 < 16384) → M.length ≤ 16384 → (∀ e ∈ M, e.2.2 < cl) → (M.map (·.2.2)).Nodup → Has [.blk z (.cells #[.map (some gm)] 50 (0, 0)), .blk gm (.map (mEs secV M) cl)] w →
  CA Tryz.prog 35 [.func (.func 58) #[] #[.pointer (some ⟨z, 0, none⟩)]] w (RLe (Value.int .i64) 3 (fun zs => zs = keysOf M) w)
theorem mFind_mem {M : List (ME (Nat → Int))} {e : ME (Nat → Int)} (he : e ∈ M) {i : Int} (hi : e.1 = i) : ∃ f, mFind M i = some f := by
  unfold mFind
  cases h : M.find? fun e => e.1 == i with
  | none => rw [List.find?_eq_none] at h; exact absurd (by simp [hi]) (h e he)
  | some x => exact ⟨x.2.1, rfl⟩
def fateN (fate : List Int) (t : Nat) : Int := if fate.length = 0 then 0 else (fate[t % fate.length]?).getD 0
def crashK (M : List (ME (Nat → Int))) (fate : List Int) : Nat → List Int → List (Nat → Int) → List (Nat → Int)
  | _, [], secs => secs
  | t, i :: is, secs => crashK M fate (t + 1) is (secs.set i.toNat (tornF ((mFind M i).getD fun _ => 0) ((secs[i.toNat]?).getD fun _ => 0) (fateN fate t)))
def Dk.crash (D : Dk) (fate : List Int) : Dk := ⟨crashK D.M fate 0 (keysOf D.M) D.secs, [], D.cl, false, 0, false⟩
set_option maxRecDepth 100000 in
set_option maxHeartbeats 4000000 in
theorem crash_c (hSK : SortOK) (gd gw gm : Nat) (D : Dk) (hn : D.secs.length ≤ 16384) (hnd : (D.M.map (·.1)).Nodup) (hbd : ∀ e ∈ D.M, 0 ≤ e.1 ∧ e.1 < D.secs.length) (hcl : ∀ e ∈ D.M, e.2.2 < D.cl) (hml : D.M.length ≤ 16384) (hbn : (D.M.map (·.2.2)).Nodup) (a : Option Addr) (fl cap0 : Nat) (fate : List Int) (hfl : fate.length = fl) (hfr : ∀ x ∈ fate, 0 ≤ x ∧ x ≤ 255) (hfc : fl ≤ 9223372036854775807) (w : World) (hs : SlE (Value.int .u8) w a fate) (hx : 0 < fl → ∀ g o, a = some ⟨g, o, none⟩ → g ∉ [gd, gw, gm]) (hD : Has (DskL gd gw gm D) w) :
    CA Tryz.prog 13 [.pointer (some ⟨gd, 0, none⟩), .slice a fl cap0] w (Ret (fun _ : Unit => .tuple #[]) [gd, gw, gm] (fun _ => DskL gd gw gm (D.crash fate)) (fun _ => True) w) := by
  have hkp : (keysOf D.M).Perm (D.M.map (·.1)) := List.mergeSort_perm _ _
  have hkl : (keysOf D.M).length ≤ 16384 := by rw [hkp.length_eq]; simpa using hml
  refine enter (L := DskL gd gw gm D) (X := [gd, gw, gm]) Tryz.func13 rfl Tryz.ntmps13 rfl rfl hD ?_
  repeat (first | refine c_seq ?_ | (refine c_region (id := 0) ?_; refine sq qm ?_; refine sq qn ?_; refine sq qf ?_; refine sq ql ?_; refine se ?_; refine ecl rfl rfl (fun w hC hm hL => by exact keys_c gm w) ?_; intro z m1 _ hn1 hm1; refine se ?_; refine e_callL (enc := (Value.int .i64)) (e := 3) rfl rfl (by kernel_rfl) rfl (fun w hC hm hL => by exact hSK gm z D.cl D.M w hnd (fun e he => ⟨(hbd e he).1, by have := (hbd e he).2; omega⟩) hml hcl hbn (hL.sub (by (repeat (first | exact List.nil_sublist _ | exact List.Sublist.slnil | apply List.Sublist.cons_cons | exact List.Sublist.refl _ | apply List.Sublist.cons))))) ?_; intro b cap zs m2 hz ho hm2; subst hz; refine sq qls ?_; refine sq qm ?_; refine l_nil ?_) | refine n_then ?_ | refine c_block ?_ | refine c_skip ?_ | refine n_block ?_ | refine c_exit ?_ | refine n_then_exit ?_ | refine n_block_eq ?_ | refine n_block_ne rfl ?_ | refine c_ret ?_ | refine n_then_ret ?_ | refine n_block_ret ?_ | refine c_cond_t rfl ?_ | refine c_cond_f rfl ?_ | refine r_succ ?_ )
  refine fgs (A := [.blk gd (.cells #[.slice (some ⟨gw, 0, none⟩) D.secs.length D.secs.length, .map (some gm), .bool D.fused, .int .i64 D.fuse, .bool D.gone] 52 (0, 0)), .blk gw (.cells ((D.secs).flatMap secE).toArray 80 (0, 0)), .blk gm (.map (mEs secV D.M) D.cl), .sl b cap 3 1 ((keysOf D.M).map (Value.int .i64))]) (R := [.blk z (.cells #[.map (some gm)] 50 (0, 0))]) (by exact Sp.cons (by (repeat (first | exact Rm.here | apply Rm.there))) (Sp.cons (by (repeat (first | exact Rm.here | apply Rm.there))) (Sp.cons (by (repeat (first | exact Rm.here | apply Rm.there))) (Sp.cons (by (repeat (first | exact Rm.here | apply Rm.there))) Sp.nil)))) ?_
  refine c_loop (γ := Nat × List (Nat → Int) × Nat) (fun z => [(14, .int .i64 z.1), (13, .int .i64 (keysOf D.M).length), (12, .slice b (keysOf D.M).length cap), (0, .pointer (some ⟨gd, 0, none⟩)), (1, .slice a fl cap0)]) (fun z => z.2.2) (fun z => [.blk gd (.cells #[.slice (some ⟨gw, 0, none⟩) D.secs.length D.secs.length, .map (some gm), .bool D.fused, .int .i64 D.fuse, .bool D.gone] 52 (0, 0)), .blk gw (.cells ((z.2.1).flatMap secE).toArray 80 (0, 0)), .blk gm (.map (mEs secV D.M) D.cl), .sl b cap 3 1 ((keysOf D.M).map (Value.int .i64))]) (fun z => z.1 ≤ (keysOf D.M).length ∧ z.2.1.length = D.secs.length ∧ crashK D.M fate z.1 ((keysOf D.M).drop z.1) z.2.1 = crashK D.M fate 0 (keysOf D.M) D.secs ∧ m2 ≤ z.2.2) (fun z => (keysOf D.M).length - z.1) ⟨0, D.secs, m2⟩ ⟨by simp, rfl, by simp, Nat.le_refl _⟩ ⟨rfl, rfl, rfl, rfl, rfl, trivial⟩ rfl (List.Sublist.refl _) ?_
  rintro ⟨j, secs, mm⟩ ⟨hj, hsl, hR, hmm⟩
  dsimp only at hj hsl hR hmm ⊢
  by_cases hjl : j < (keysOf D.M).length
  · obtain ⟨gs, rfl⟩ := ho.some (by omega)
    obtain ⟨i, hi⟩ : ∃ i, (keysOf D.M)[j]? = some i := ⟨_, List.getElem?_eq_getElem hjl⟩
    have hn9 := nth_map (enc := (Value.int .i64)) hi
    have him : i ∈ D.M.map (·.1) := hkp.mem_iff.1 (List.mem_of_getElem? hi)
    obtain ⟨e9, he9, hei⟩ := List.mem_map.1 him
    have hib := hbd e9 he9
    rw [hei] at hib
    obtain ⟨i0, rfl⟩ : ∃ i0 : Nat, i = (i0 : Int) := ⟨i.toNat, by omega⟩
    have hi0 : i0 < secs.length := by omega
    obtain ⟨si, hsi⟩ : ∃ si, secs[i0]? = some si := ⟨_, List.getElem?_eq_getElem hi0⟩
    obtain ⟨fi, hfi⟩ : ∃ fi, mFind D.M (i0 : Int) = some fi := mFind_mem he9 hei
    have hat := flat_at secE_len hsi
    have hstep : crashK D.M fate (j + 1) ((keysOf D.M).drop (j + 1)) (secs.set i0 (tornF fi si (fateN fate j))) = crashK D.M fate 0 (keysOf D.M) D.secs := by
      rw [← hR, List.drop_eq_getElem_cons hjl]
      have h9 : (keysOf D.M)[j] = (i0 : Int) := by rw [List.getElem?_eq_getElem hjl] at hi; exact Option.some.inj hi
      rw [h9, crashK, hfi, Int.toNat_natCast, hsi]
      rfl
    have hfb : 0 ≤ fateN fate j ∧ fateN fate j ≤ 255 := by
      unfold fateN
      by_cases hz : fate.length = 0
      · rw [if_pos hz]; omega
      · rw [if_neg hz, List.getElem?_eq_getElem (Nat.mod_lt _ (by omega))]
        exact hfr _ (List.getElem_mem _)
    by_cases hz : fl = 0
    · have hf0 : fateN fate j = 0 := by unfold fateN; rw [if_pos (by omega)]
      rw [hf0] at hfb hstep
      repeat (first | refine c_seq ?_ | (refine c_region (id := 1) ?_; refine sq (by first | exact dlsst | exact dlssf) ?_; refine l_nil ?_) | (refine c_region (id := 2) ?_; refine sq qm ?_; refine sq (by exact qis (h1 := by exact_mod_cast hjl)) ?_; refine sq (by exact ql (hr := Rd.sln (by (repeat (first | exact List.Mem.head _ | apply List.Mem.tail))) hn9)) ?_; refine sq qa ?_; refine sq qa ?_; refine l_nil ?_) | (refine c_region (id := 3) ?_; refine sq qa ?_; refine l_nil ?_) | (refine c_region (id := 4) ?_; refine sq qm ?_; refine sq qls ?_; refine sq (by first | exact dgtrt | exact dgtrf) ?_; refine l_nil ?_) | (refine x_region (id := 6) (some 21) [(0, .n), (1, .n), (2, .n), (3, .q), (4, .n), (5, .n), (6, .n), (7, .n), (8, .q), (9, .n), (10, .q), (11, .n), (12, .n), (13, .n), (14, .q), (15, .n), (16, .n), (17, .q), (18, .n), (19, .e), (20, .n), (21, .b)] _ mixed (by kernel_rfl) (List.Sublist.refl _) ?_; refine xn rfl qm ?_; refine xn rfl qn ?_; refine xn rfl qf ?_; refine xq rfl ql ?_; refine xn rfl qm ?_; refine xn rfl qm ?_; refine xn rfl qn ?_; refine xn rfl qf ?_; refine xq rfl ql ?_; refine xn rfl qm ?_; refine xq rfl (by exact q_lookup_at secV D.M rfl rfl (by (repeat (first | exact List.Mem.head _ | apply List.Mem.tail))) hfi) ?_; refine xn rfl qm ?_; refine xn rfl qn ?_; refine xn rfl qf ?_; refine xq rfl ql ?_; refine xn rfl qm ?_; refine xn rfl qis ?_; refine xq rfl (by exact qlr (vs := secE si) (by rfl) (RdN.blk (by (repeat (first | exact List.Mem.head _ | apply List.Mem.tail))) (by rw [secE_len]; exact hat)) (secE_len si)) ?_; refine xn rfl qm ?_; refine x_e rfl ?_; refine ecp rfl rfl (fun w hC hm hL => by exact torn_c fi si 0 hfb w) ?_; intro m' hm'; refine xk ?_; refine xn rfl qis ?_; refine x_b rfl ?_; refine e_store_row (vs := (secE (tornF fi si 0)).toArray) rfl rfl (by simp [secE_len]) (secE_one _) (by rw [setSec _ hsi]; (repeat (first | exact Pl.here | apply Pl.there))) (by simp [flat_len secE_len]; omega) (.inl (by simp)) ?_; refine x_k (List.nil_sublist _) ?_; refine x_nil ?_) | (refine c_region (id := 7) ?_; refine sq qadd64 ?_; refine sq qm ?_; refine l_nil ?_) | refine n_then ?_ | refine c_block ?_ | refine c_skip ?_ | refine n_block ?_ | refine c_exit ?_ | refine n_then_exit ?_ | refine n_block_eq ?_ | refine n_block_ne rfl ?_ | refine c_ret ?_ | refine n_then_ret ?_ | refine n_block_ret ?_ | refine c_cond_t rfl ?_ | refine c_cond_f rfl ?_ | refine r_succ ?_ )
      refine c_round ⟨j + 1, secs.set i0 (tornF fi si 0), m'⟩ ⟨by dsimp only; omega, by dsimp only; rw [List.length_set]; exact hsl, by dsimp only; exact hstep, by dsimp only; omega⟩ (by dsimp only; omega) ⟨rfl, rfl, rfl, rfl, rfl, trivial⟩ (by rfl) (by (repeat (first | exact List.nil_sublist _ | exact List.Sublist.slnil | apply List.Sublist.cons_cons | exact List.Sublist.refl _ | apply List.Sublist.cons)))
    · obtain ⟨kv, hkv⟩ : ∃ kv, fate[j % fl]? = some kv := ⟨_, List.getElem?_eq_getElem (by rw [hfl]; exact Nat.mod_lt _ (by omega))⟩
      have hf0 : fateN fate j = kv := by unfold fateN; rw [if_neg (by omega), hfl, hkv]; rfl
      rw [hf0] at hfb hstep
      obtain ⟨gf, of, rfl, hO⟩ := hs.get (i := j % fl) (by rw [hfl]; exact Nat.mod_lt _ (by omega))
      have hx2 := hx (by omega) gf of rfl
      have hnk := nth_map (enc := (Value.int .u8)) hkv
      obtain ⟨q, hq⟩ : ∃ q, q = j % fl := ⟨_, rfl⟩
      have hql : q < fl := by rw [hq]; exact Nat.mod_lt _ (by omega)
      have hqi : (j : Int) % (fl : Int) = (q : Int) := by rw [hq]; rfl
      rw [← hq] at hnk
      repeat (first | refine c_seq ?_ | (refine c_region (id := 1) ?_; refine sq (by first | exact dlsst | exact dlssf) ?_; refine l_nil ?_) | (refine c_region (id := 2) ?_; refine sq qm ?_; refine sq (by exact qis (h1 := by exact_mod_cast hjl)) ?_; refine sq (by exact ql (hr := Rd.sln (by (repeat (first | exact List.Mem.head _ | apply List.Mem.tail))) hn9)) ?_; refine sq qa ?_; refine sq qa ?_; refine l_nil ?_) | (refine c_region (id := 3) ?_; refine sq qa ?_; refine l_nil ?_) | (refine c_region (id := 4) ?_; refine sq qm ?_; refine sq qls ?_; refine sq (by first | exact dgtrt | exact dgtrf) ?_; refine l_nil ?_) | (refine c_region (id := 5) ?_; refine sq qm ?_; refine sq qm ?_; refine sq qm ?_; refine sq qls ?_; refine sq (by exact Qt.cast (congrArg (Value.int .i64) hqi) (q_rem rfl rfl (by omega) (by omega))) ?_; refine sq qis ?_; refine sq (by exact ql (hr := Rd.oldn hO hnk hx2)) ?_; refine sq qa ?_; refine l_nil ?_) | (refine x_region (id := 6) (some 21) [(0, .n), (1, .n), (2, .n), (3, .q), (4, .n), (5, .n), (6, .n), (7, .n), (8, .q), (9, .n), (10, .q), (11, .n), (12, .n), (13, .n), (14, .q), (15, .n), (16, .n), (17, .q), (18, .n), (19, .e), (20, .n), (21, .b)] _ mixed (by kernel_rfl) (List.Sublist.refl _) ?_; refine xn rfl qm ?_; refine xn rfl qn ?_; refine xn rfl qf ?_; refine xq rfl ql ?_; refine xn rfl qm ?_; refine xn rfl qm ?_; refine xn rfl qn ?_; refine xn rfl qf ?_; refine xq rfl ql ?_; refine xn rfl qm ?_; refine xq rfl (by exact q_lookup_at secV D.M rfl rfl (by (repeat (first | exact List.Mem.head _ | apply List.Mem.tail))) hfi) ?_; refine xn rfl qm ?_; refine xn rfl qn ?_; refine xn rfl qf ?_; refine xq rfl ql ?_; refine xn rfl qm ?_; refine xn rfl qis ?_; refine xq rfl (by exact qlr (vs := secE si) (by rfl) (RdN.blk (by (repeat (first | exact List.Mem.head _ | apply List.Mem.tail))) (by rw [secE_len]; exact hat)) (secE_len si)) ?_; refine xn rfl qm ?_; refine x_e rfl ?_; refine ecp rfl rfl (fun w hC hm hL => by exact torn_c fi si kv hfb w) ?_; intro m' hm'; refine xk ?_; refine xn rfl qis ?_; refine x_b rfl ?_; refine e_store_row (vs := (secE (tornF fi si kv)).toArray) rfl rfl (by simp [secE_len]) (secE_one _) (by rw [setSec _ hsi]; (repeat (first | exact Pl.here | apply Pl.there))) (by simp [flat_len secE_len]; omega) (.inl (by simp)) ?_; refine x_k (List.nil_sublist _) ?_; refine x_nil ?_) | (refine c_region (id := 7) ?_; refine sq qadd64 ?_; refine sq qm ?_; refine l_nil ?_) | refine n_then ?_ | refine c_block ?_ | refine c_skip ?_ | refine n_block ?_ | refine c_exit ?_ | refine n_then_exit ?_ | refine n_block_eq ?_ | refine n_block_ne rfl ?_ | refine c_ret ?_ | refine n_then_ret ?_ | refine n_block_ret ?_ | refine c_cond_t rfl ?_ | refine c_cond_f rfl ?_ | refine r_succ ?_ )
      refine c_round ⟨j + 1, secs.set i0 (tornF fi si kv), m'⟩ ⟨by dsimp only; omega, by dsimp only; rw [List.length_set]; exact hsl, by dsimp only; exact hstep, by dsimp only; omega⟩ (by dsimp only; omega) ⟨rfl, rfl, rfl, rfl, rfl, trivial⟩ (by rfl) (by (repeat (first | exact List.nil_sublist _ | exact List.Sublist.slnil | apply List.Sublist.cons_cons | exact List.Sublist.refl _ | apply List.Sublist.cons)))
  · obtain rfl : j = (keysOf D.M).length := by omega
    rw [List.drop_eq_nil_of_le (Nat.le_refl _), crashK] at hR
    have hq : D.crash fate = ⟨secs, [], D.cl, false, 0, false⟩ := by unfold Dk.crash; rw [← hR]
    rw [hq]
    repeat (first | refine c_seq ?_ | (refine c_region (id := 1) ?_; refine sq (by first | exact dlsst | exact dlssf) ?_; refine l_nil ?_) | (refine c_region (id := 8) ?_; refine sq qm ?_; refine sq qn ?_; refine sq qf ?_; refine sq ql ?_; refine se ?_; refine e_clearMap secV D.M rfl (by (repeat (first | exact Pl.here | apply Pl.there))) (.inl (by simp)) ?_; refine l_nil ?_) | (refine c_region (id := 9) ?_; refine sq qm ?_; refine sq qn ?_; refine sq qf ?_; refine se ?_; refine es1 ?_ (hg := .inl (by simp)); refine l_nil ?_) | (refine c_region (id := 10) ?_; refine sq qm ?_; refine se ?_; refine e_call_upd rfl rfl (by kernel_rfl) rfl (fun w hC hm hL => by have h9 := fuse_c gd gw gm D.secs.length D.fused false D.fuse (-1) w (hL.sub (by (repeat (first | exact List.nil_sublist _ | exact List.Sublist.slnil | apply List.Sublist.cons_cons | exact List.Sublist.refl _ | apply List.Sublist.cons)))); exact h9) (by (repeat (first | exact Pl.here | apply Pl.there))) (.inl (by simp)) ?_; intro m' hm'; refine l_nil ?_) | refine n_then ?_ | refine c_block ?_ | refine c_skip ?_ | refine n_block ?_ | refine c_exit ?_ | refine n_then_exit ?_ | refine n_block_eq ?_ | refine n_block_ne rfl ?_ | refine c_ret ?_ | refine n_then_ret ?_ | refine n_block_ret ?_ | refine c_cond_t rfl ?_ | refine c_cond_f rfl ?_ | refine r_succ ?_ )
    (first | apply r_ret () | apply r_end ()); exact rfl; exact rfl; exact .nil; exact rfl; exact (by unfold DskL; simp only [hsl]; exact (by (repeat (first | exact List.nil_sublist _ | exact List.Sublist.slnil | apply List.Sublist.cons_cons | exact List.Sublist.refl _ | apply List.Sublist.cons)))); exact (by intro g hg; rw [feetD] at hg; exact .inl hg); exact trivial
end Go.Proofs.YtgmghkakiocmjaaGreatDoor
namespace Go.Proofs.YtgmghkakiocmjaaGreatDoor
open Go Go.RowKit Go.Shelf Go.Maps Go.Sort Go.WideElems Go.MapKept Go.WideShapes
set_option linter.unusedVariables false
set_option linter.unusedSimpArgs false
def skKeys_ren : Go.Shelf.Ren := ⟨fun | 7 => 36 | 10 => 58 | n => n, fun | 23 => 50 | 26 => 3 | 3 => 80 | 28 => 77 | 0 => 0 | 27 => 76 | 33 => 105 | 4 => 4 | n => n, fun | n => n⟩
theorem skKeys : Go.Proofs.SlLaysZI.n7 Tryz.prog skKeys_ren := {
  mixed := by kernel_rfl
  f7 := ⟨Tryz.f36.name, by decide, Tryz.func36.trans (congrArg some (by kernel_rfl))⟩
  f10 := ⟨Tryz.f58.name, by decide, Tryz.func58.trans (congrArg some (by kernel_rfl))⟩
  t0 := Tryz.underlying0
  a0 := Tryz.isAgg0
  z0 := Tryz.sizeOf0
  v0 := Tryz.zeroValue0
  t4 := Tryz.underlying4
  a4 := Tryz.isAgg4
  z4 := Tryz.sizeOf4
  v4 := Tryz.zeroValue4
  t23 := Tryz.underlying50
  a23 := Tryz.isAgg50
  z23 := Tryz.sizeOf50
  v23 := Tryz.zeroValue50
  t26 := Tryz.underlying3
  a26 := Tryz.isAgg3
  z26 := Tryz.sizeOf3
  v26 := Tryz.zeroValue3
  t27 := Tryz.underlying76
  a27 := Tryz.isAgg76
  z27 := Tryz.sizeOf76
  v27 := Tryz.zeroValue76
  t28 := Tryz.underlying77
  a28 := Tryz.isAgg77
  z28 := Tryz.sizeOf77
  v28 := Tryz.zeroValue77
  t33 := Tryz.underlying105
  a33 := Tryz.isAgg105
  z33 := Tryz.sizeOf105
  v33 := Tryz.zeroValue105 }
def skSorted_ren : Go.Shelf.Ren := ⟨fun | 6 => 35 | 8 => 56 | 9 => 57 | 11 => 72 | 13 => 74 | 12 => 73 | 23 => 89 | 24 => 90 | 14 => 80 | 15 => 81 | 16 => 82 | 17 => 83 | 18 => 84 | 19 => 85 | 20 => 86 | 21 => 87 | 22 => 88 | 25 => 93 | 26 => 94 | 27 => 95 | 28 => 96 | 29 => 97 | 30 => 98 | 31 => 100 | n => n, fun | 26 => 3 | 28 => 77 | 24 => 74 | 0 => 0 | 3 => 3 | 37 => 93 | 48 => 150 | 50 => 32 | 4 => 4 | 40 => 143 | 39 => 142 | 45 => 35 | 5 => 5 | 9 => 9 | 51 => 153 | 55 => 156 | 57 => 160 | 58 => 161 | 33 => 105 | n => n, fun | n => n⟩
theorem skSorted : Go.Proofs.SlLaysZI.n6 Tryz.prog skSorted_ren := {
  mixed := by kernel_rfl
  f6 := ⟨Tryz.f35.name, by decide, Tryz.func35.trans (congrArg some (by kernel_rfl))⟩
  f8 := ⟨Tryz.f56.name, by decide, Tryz.func56.trans (congrArg some (by kernel_rfl))⟩
  f11 := ⟨Tryz.f72.name, by decide, Tryz.func72.trans (congrArg some (by kernel_rfl))⟩
  t0 := Tryz.underlying0
  a0 := Tryz.isAgg0
  z0 := Tryz.sizeOf0
  v0 := Tryz.zeroValue0
  t24 := Tryz.underlying74
  a24 := Tryz.isAgg74
  z24 := Tryz.sizeOf74
  v24 := Tryz.zeroValue74
  t26 := Tryz.underlying3
  a26 := Tryz.isAgg3
  z26 := Tryz.sizeOf3
  v26 := Tryz.zeroValue3
  t28 := Tryz.underlying77
  a28 := Tryz.isAgg77
  z28 := Tryz.sizeOf77
  v28 := Tryz.zeroValue77
  i26 := by kernel_rfl }
def skSort_ren : Go.Shelf.Ren := ⟨fun | 5 => 57 | 8 => 74 | 7 => 73 | 19 => 89 | 20 => 90 | 10 => 80 | 11 => 81 | 12 => 82 | 13 => 83 | 14 => 84 | 15 => 85 | 16 => 86 | 17 => 87 | 18 => 88 | 30 => 93 | 31 => 94 | 32 => 95 | 33 => 96 | 34 => 97 | 35 => 98 | 40 => 100 | n => n, fun | 23 => 74 | 25 => 3 | 3 => 3 | 32 => 93 | 22 => 74 | 0 => 0 | 44 => 150 | 46 => 32 | 4 => 4 | 36 => 143 | 35 => 142 | 41 => 35 | 5 => 5 | 9 => 9 | 53 => 153 | 57 => 156 | 63 => 160 | 64 => 161 | n => n, fun | n => n⟩
theorem skSort : Go.Proofs.SlLaysM.n5 Tryz.prog skSort_ren := {
  mixed := by kernel_rfl
  f5 := ⟨Tryz.f57.name, by decide, Tryz.func57.trans (congrArg some (by kernel_rfl))⟩
  f7 := ⟨Tryz.f73.name, by decide, Tryz.func73.trans (congrArg some (by kernel_rfl))⟩
  f8 := Tryz.func74.trans (congrArg some (by kernel_rfl))
  f10 := ⟨Tryz.f80.name, by decide, Tryz.func80.trans (congrArg some (by kernel_rfl))⟩
  f11 := ⟨Tryz.f81.name, by decide, Tryz.func81.trans (congrArg some (by kernel_rfl))⟩
  f12 := ⟨Tryz.f82.name, by decide, Tryz.func82.trans (congrArg some (by kernel_rfl))⟩
  f13 := ⟨Tryz.f83.name, by decide, Tryz.func83.trans (congrArg some (by kernel_rfl))⟩
  f14 := ⟨Tryz.f84.name, by decide, Tryz.func84.trans (congrArg some (by kernel_rfl))⟩
  f15 := ⟨Tryz.f85.name, by decide, Tryz.func85.trans (congrArg some (by kernel_rfl))⟩
  f16 := ⟨Tryz.f86.name, by decide, Tryz.func86.trans (congrArg some (by kernel_rfl))⟩
  f17 := ⟨Tryz.f87.name, by decide, Tryz.func87.trans (congrArg some (by kernel_rfl))⟩
  f18 := ⟨Tryz.f88.name, by decide, Tryz.func88.trans (congrArg some (by kernel_rfl))⟩
  f19 := Tryz.func89.trans (congrArg some (by kernel_rfl))
  f20 := Tryz.func90.trans (congrArg some (by kernel_rfl))
  f30 := ⟨Tryz.f93.name, by decide, Tryz.func93.trans (congrArg some (by kernel_rfl))⟩
  f31 := Tryz.func94.trans (congrArg some (by kernel_rfl))
  f32 := Tryz.func95.trans (congrArg some (by kernel_rfl))
  f33 := ⟨Tryz.f96.name, by decide, Tryz.func96.trans (congrArg some (by kernel_rfl))⟩
  f34 := ⟨Tryz.f97.name, by decide, Tryz.func97.trans (congrArg some (by kernel_rfl))⟩
  f35 := ⟨Tryz.f98.name, by decide, Tryz.func98.trans (congrArg some (by kernel_rfl))⟩
  f40 := ⟨Tryz.f100.name, by decide, Tryz.func100.trans (congrArg some (by kernel_rfl))⟩
  t0 := Tryz.underlying0
  a0 := Tryz.isAgg0
  z0 := Tryz.sizeOf0
  v0 := Tryz.zeroValue0
  t3 := Tryz.underlying3
  a3 := Tryz.isAgg3
  z3 := Tryz.sizeOf3
  v3 := Tryz.zeroValue3
  t4 := Tryz.underlying4
  a4 := Tryz.isAgg4
  z4 := Tryz.sizeOf4
  v4 := Tryz.zeroValue4
  t5 := Tryz.underlying5
  a5 := Tryz.isAgg5
  z5 := Tryz.sizeOf5
  v5 := Tryz.zeroValue5
  t9 := Tryz.underlying9
  a9 := Tryz.isAgg9
  z9 := Tryz.sizeOf9
  v9 := Tryz.zeroValue9
  t22 := Tryz.underlying74
  a22 := Tryz.isAgg74
  z22 := Tryz.sizeOf74
  v22 := Tryz.zeroValue74
  t23 := Tryz.underlying74
  a23 := Tryz.isAgg74
  z23 := Tryz.sizeOf74
  v23 := Tryz.zeroValue74
  t25 := Tryz.underlying3
  a25 := Tryz.isAgg3
  z25 := Tryz.sizeOf3
  v25 := Tryz.zeroValue3
  t32 := Tryz.underlying93
  a32 := Tryz.isAgg93
  z32 := Tryz.sizeOf93
  v32 := Tryz.zeroValue93
  t35 := Tryz.underlying142
  a35 := Tryz.isAgg142
  z35 := Tryz.sizeOf142
  v35 := Tryz.zeroValue142
  t36 := Tryz.underlying143
  a36 := Tryz.isAgg143
  z36 := Tryz.sizeOf143
  v36 := Tryz.zeroValue143
  t41 := Tryz.underlying35
  a41 := Tryz.isAgg35
  z41 := Tryz.sizeOf35
  v41 := Tryz.zeroValue35
  t44 := Tryz.underlying150
  a44 := Tryz.isAgg150
  z44 := Tryz.sizeOf150
  v44 := Tryz.zeroValue150
  t46 := Tryz.underlying32
  a46 := Tryz.isAgg32
  z46 := Tryz.sizeOf32
  v46 := Tryz.zeroValue32
  t53 := Tryz.underlying153
  a53 := Tryz.isAgg153
  z53 := Tryz.sizeOf153
  v53 := Tryz.zeroValue153
  t57 := Tryz.underlying156
  a57 := Tryz.isAgg156
  z57 := Tryz.sizeOf156
  v57 := Tryz.zeroValue156
  t63 := Tryz.underlying160
  a63 := Tryz.isAgg160
  z63 := Tryz.sizeOf160
  v63 := Tryz.zeroValue160
  t64 := Tryz.underlying161
  a64 := Tryz.isAgg161
  z64 := Tryz.sizeOf161
  v64 := Tryz.zeroValue161 }
theorem sk_sorts (m : Nat) : AnyZI.SortsIn Tryz.prog skSorted_ren Fence.wide m :=
  ⟨fun blk off cap ss W hH hblk hsz => callsIn_wide.2 (AnyM.slices_Sort_int skSort blk off cap ss W hH hblk hsz),
   fun p cap W => callsIn_wide.2 (AnyM.slices_Sort_int_none skSort p cap W)⟩
def skR (_ : Value) : Option (DataW Unit × List MemPlace) := some (.nil, [])
abbrev skE (e : ME (Nat → Int)) : Lit × DataW Unit := (.int .i64 e.1, .nil)
theorem sk_rd {P : Program} {kt : TypeId} (hk : P.underlying kt = some (.int .i64)) (e : ME (Nat → Int)) (hb : 0 ≤ e.1 ∧ e.1 < 16384) : Go.WideElems.rd P kt skR (mEnt secV e) = some (skE e) := by
  have hw : (Lit.int .i64 e.1).wf = true := by
    simp [Lit.wf, IntKind.min, IntKind.max, IntKind.bits, IntKind.signed]
    omega
  simp [Go.WideElems.rd, keyOf, hk, mapKey, mEnt, hw, skR]
abbrev skD (M : List (ME (Nat → Int))) : DataW Unit := .map ((M.map skE).foldr DataW.insert [])
theorem sk_owns {P : Program} {kt : TypeId} (hk : P.underlying kt = some (.int .i64)) (M : List (ME (Nat → Int))) (cl b : Nat) (w : World) (hnd : (M.map (·.1)).Nodup) (hbd : ∀ e ∈ M, 0 ≤ e.1 ∧ e.1 < 16384) (hml : M.length ≤ 16384) (hcl : ∀ e ∈ M, e.2.2 < cl) (hbn : (M.map (·.2.2)).Nodup)
    (hb : w.heap[b]? = some (.map (mEs secV M) cl)) : w.ownsMap P kt skR b M.length (skD M) := by
  refine ⟨_, _, hb, ⟨by simp [mEs, maxLen]; omega, ⟨?_, ?_, ?_⟩, ?_⟩, by simp [mEs], ?_⟩
  · intro x hx
    simp only [mEs, List.mem_map] at hx
    obtain ⟨e, he, rfl⟩ := hx
    exact hcl e he
  · simpa [mEs, Function.comp_def, mEnt] using hbn
  · have h1 : ((mEs secV M).toList.map (·.key)) = (M.map (·.1)).map encZ := by simp [mEs, Function.comp_def, mEnt]
    rw [h1]
    exact List.Pairwise.map _ (fun a b h h2 => h (encZ_inj h2)) hnd
  · intro x hx
    simp only [mEs, List.mem_map] at hx
    obtain ⟨e, he, rfl⟩ := hx
    exact ⟨_, sk_rd hk e (hbd e he)⟩
  · have h1 : (mEs secV M).toList.map (rg P kt skR) = M.map skE := by
      simp only [mEs, List.map_map]
      refine List.map_congr_left fun e he => ?_
      simp [rg, sk_rd hk e (hbd e he)]
    rw [h1]
theorem sk_keys (M : List (ME (Nat → Int))) : (intKeys (skD M)).Perm (M.map (·.1)) := by
  have h1 := (sorted_perm (M.map skE)).map (fun p => Go.intOf p.1)
  have h2 : (M.map skE).map (fun p => Go.intOf p.1) = M.map (·.1) := by simp [Function.comp_def, Go.intOf]
  rw [h2] at h1
  exact h1
theorem merge_eq {a b : List Int} (h : a.Perm b) : (a.mergeSort fun x y => decide (x ≤ y)) = b.mergeSort fun x y => decide (x ≤ y) := by
  have tr : ∀ x y z : Int, decide (x ≤ y) = true → decide (y ≤ z) = true → decide (x ≤ z) = true := by intro x y z; simp; omega
  have to : ∀ x y : Int, (decide (x ≤ y) || decide (y ≤ x)) = true := by intro x y; simp; omega
  refine List.Perm.eq_of_pairwise (le := fun x y : Int => x ≤ y) ?_ ?_ ?_ ?_
  · intro x y _ _ h1 h2; omega
  · exact (List.pairwise_mergeSort tr to a).imp (fun h => by simpa using h)
  · exact (List.pairwise_mergeSort tr to b).imp (fun h => by simpa using h)
  · exact (List.mergeSort_perm _ _).trans (h.trans (List.mergeSort_perm _ _).symm)
set_option maxRecDepth 100000 in
set_option maxHeartbeats 2000000 in
theorem sort_ok : SortOK := by
  intro gm z cl M w hnd hbd hml hcl hbn hL
  have hz := hL.ok (.blk z (.cells #[.map (some gm)] 50 (0, 0))) (by simp)
  have hm := hL.ok (.blk gm (.map (mEs secV M) cl)) (by simp)
  simp only [Chunk.ok] at hz hm
  have hown := sk_owns (P := Tryz.prog) (kt := 3) Tryz.underlying3 M cl gm w hnd hbd hml hcl hbn hm
  have hsz : Maps.size (skD M) = M.length := by
    show ((M.map skE).foldr DataW.insert []).length = _
    rw [length_sorted, List.length_map]
  have hcell : w.cell? ⟨z, 0, none⟩ = some (.map (some gm)) := by simp [World.cell?, hz]
  have hseq : SeqGives Fence.wide 2 Tryz.prog 58 #[.pointer (some ⟨z, 0, none⟩)] encZ (fun ss => ss.Perm (intKeys (skD M))) (Maps.size (skD M)) w :=
    AnyZI.keys_gives (ρ := skKeys_ren) { skKeys with } Fence.wide _ trivial rfl (by omega) z gm M.length (skD M) w (Array.getElem?_eq_some_iff.1 hz).1 hcell hown
  have cS := AnyZI.sorted_in skSorted Fence.wide 5 trivial trivial trivial trivial rfl (by omega) (sk_sorts _) (enters_of Tryz.func57 (by kernel_rfl) rfl) 58 #[.pointer (some ⟨z, 0, none⟩)] trivial (enters_of Tryz.func58 (by kernel_rfl) rfl) _ _ (by rw [hsz]; simp [maxLen]; omega) (by rw [hsz]; omega) _ hseq
  refine ⟨Calls.mono ((callsIn_wide (n := 5)).1 cS) ?_⟩
  rintro e w' ⟨v, ss, rfl, hS, ⟨hl1, hrow⟩, hnil, hb⟩
  have hk : (ss.mergeSort fun x y => decide (x ≤ y)) = keysOf M := merge_eq (hS.trans (sk_keys M))
  have hkl : (keysOf M).length = ss.length := by rw [← hk, List.length_mergeSort]
  rw [hk] at hl1 hrow
  rcases hrow with ⟨rfl, h0⟩ | ⟨g, cap, cur, rfl, hg, hh, hc1, hc2, hc3, hc4⟩
  · have h9 : keysOf M = [] := List.eq_nil_of_length_eq_zero (by omega)
    refine ⟨(none, 0, keysOf M), by rw [h9]; rfl, Ch.of_below hb, ?_, ?_, ⟨⟨by rw [h9]; exact Nat.le_refl _, Nat.zero_le _, .inl ⟨rfl, by rw [h9]; rfl⟩⟩, rfl⟩⟩
    · rw [h9]
      exact ⟨fun c hc => by simp at hc; subst hc; simp [Chunk.ok], by simp [feet, Chunk.foot]⟩
    · simp [feet, Chunk.foot]
  · refine ⟨(some ⟨g, 0, none⟩, cap, keysOf M), by dsimp only; rw [hkl], Ch.of_below hb, ?_, ?_, ⟨⟨by dsimp only; omega, hc2, .inr ⟨g, rfl⟩⟩, rfl⟩⟩
    · refine ⟨fun c hc => ?_, by simp [feet, Chunk.foot]⟩
      simp at hc
      subst hc
      refine .inr ⟨g, cur, rfl, hh, hc3, ?_⟩
      rw [List.length_map, hkl]
      simpa using hc4
    · intro g2 hg2
      simp [feet, Chunk.foot] at hg2
      subst hg2
      exact .inr hg
end Go.Proofs.YtgmghkakiocmjaaGreatDoor
namespace Go.Proofs.YtgmghkakiocmjaaGreatDoor
open Go Go.RowKit
set_option linter.unusedVariables false
set_option linter.unusedSimpArgs false
theorem apart_sl {L' A : List Chunk} {b : Option Addr} {cap e sz : Nat} {xs : List Value} (hm : Chunk.sl b cap e sz xs ∈ L') (h : ∀ g ∈ feet A, g ∉ feet L') : ∀ g o, b = some ⟨g, o, none⟩ → g ∉ feet A := by
  intro g o hb hg
  exact h g hg (List.mem_flatMap.2 ⟨_, hm, by rw [hb]; simp [Chunk.foot]⟩)
theorem Dk.new_len (n : Nat) : (Dk.new n).secs.length = n := by simp [Dk.new]
theorem Dk.put_gone (D : Dk) (i : Nat) (f : Nat → Int) : (D.lit.put i f).gone = false := by
  unfold Dk.put; split <;> rfl
set_option maxRecDepth 100000 in
set_option maxHeartbeats 4000000 in
theorem sect_c (gd gw gm : Nat) (D : Dk) (w : World) (hD : Has (DskL gd gw gm D) w) : CA Tryz.prog 20 [.pointer (some ⟨gd, 0, none⟩)] w (RV (.int .i64 D.secs.length) w) := by
  refine enter (L := DskL gd gw gm D) (X := []) Tryz.func20 rfl Tryz.ntmps20 rfl rfl hD ?_
  repeat (first | refine c_seq ?_ | (refine c_region (id := 0) ?_; refine sq qa ?_; refine l_nil ?_) | (refine c_region (id := 1) ?_; refine sq qm ?_; refine sq qn ?_; refine sq qf ?_; refine sq ql ?_; refine sq qls ?_; refine sq qa ?_; refine l_nil ?_) | refine n_then ?_ | refine c_block ?_ | refine c_skip ?_ | refine n_block ?_ | refine c_exit ?_ | refine n_then_exit ?_ | refine n_block_eq ?_ | refine n_block_ne rfl ?_ | refine c_ret ?_ | refine n_then_ret ?_ | refine n_block_ret ?_ | refine c_cond_t rfl ?_ | refine c_cond_f rfl ?_ | refine r_succ ?_ )
  (first | apply r_ret () | apply r_end ()); exact rfl; exact rfl; exact (.tmp rfl .nil); exact rfl; exact (List.nil_sublist _); exact new_nil; exact trivial
end Go.Proofs.YtgmghkakiocmjaaGreatDoor
namespace Go.Proofs.YtgmghkakiocmjaaGreatDoor
open Go Go.RowKit
set_option linter.unusedVariables false
set_option linter.unusedSimpArgs false
structure Dk.OK (n : Nat) (D : Dk) : Prop where
  len : D.secs.length = n
  n9 : n ≤ 16384
  ks : (D.M.map (·.1)).Nodup
  bd : ∀ e ∈ D.M, 0 ≤ e.1 ∧ e.1 < n
  cl : ∀ e ∈ D.M, e.2.2 < D.cl
  bs : (D.M.map (·.2.2)).Nodup
  ml : D.M.length ≤ D.cl
  hf : 0 ≤ D.fuse ∧ D.fuse ≤ 9223372036854775807
theorem Dk.OK.le {n : Nat} {D : Dk} (h : D.OK n) : D.secs.length ≤ 16384 := by rw [h.len]; exact h.n9
theorem Dk.OK.new (n : Nat) (hn : n ≤ 16384) : (Dk.new n).OK n := ⟨Dk.new_len n, hn, .nil, by simp [Dk.new], by simp [Dk.new], .nil, by simp [Dk.new], by simp [Dk.new]⟩
theorem Dk.OK.dead {n : Nat} {D : Dk} (h : D.OK n) : D.dead.OK n := ⟨h.len, h.n9, h.ks, h.bd, h.cl, h.bs, h.ml, h.hf⟩
theorem Dk.OK.lit {n : Nat} {D : Dk} (h : D.OK n) (hp : D.pgone = false) : D.lit.OK n := ⟨h.len, h.n9, h.ks, h.bd, h.cl, h.bs, h.ml, by
  have h1 := h.hf
  unfold Dk.pgone at hp
  simp only [Dk.lit]
  cases hfu : D.fused with
  | false => simpa using h1
  | true =>
    simp [hfu] at hp
    simp
    omega⟩
theorem mFind_none {M : List (ME (Nat → Int))} {i : Int} (h : mFind M i = none) : i ∉ M.map (·.1) := by
  intro hm
  obtain ⟨e, he, hi⟩ := List.mem_map.1 hm
  obtain ⟨f, hf⟩ := mFind_mem he hi
  rw [hf] at h
  cases h
theorem Dk.OK.put {n : Nat} {D : Dk} (h : D.OK n) (i : Nat) (hi : i < n) (f : Nat → Int) : (D.put i f).OK n := by
  unfold Dk.put
  split
  · next hm =>
    refine ⟨by simpa using h.len, h.n9, ?_, ?_, ?_, ?_, by simpa using h.ml, h.hf⟩
    · simp only [List.map_append, List.map_cons, List.map_nil]
      exact List.nodup_append.2 ⟨h.ks, by simp, fun a ha b hb => by simp at hb; subst hb; exact fun e => mFind_none hm (e ▸ ha)⟩
    · intro e he
      rcases List.mem_append.1 he with he | he
      · exact h.bd e he
      · simp at he; subst he; exact ⟨by simp, by simpa using hi⟩
    · intro e he
      rcases List.mem_append.1 he with he | he
      · exact Nat.lt_succ_of_lt (h.cl e he)
      · simp at he; subst he; simp
    · simp only [List.map_append, List.map_cons, List.map_nil]
      refine List.nodup_append.2 ⟨h.bs, by simp, fun a ha b hb => ?_⟩
      simp at hb
      subst hb
      obtain ⟨e, he, rfl⟩ := List.mem_map.1 ha
      have := h.cl e he
      omega
  · exact ⟨by simpa using h.len, h.n9, h.ks, h.bd, h.cl, h.bs, h.ml, h.hf⟩
theorem Dk.OK.still {n : Nat} {D : Dk} (h : D.OK n) : D.still.OK n := ⟨h.len, h.n9, .nil, by simp [Dk.still], by simp [Dk.still], .nil, by simp [Dk.still], h.hf⟩
theorem crashK_len (M : List (ME (Nat → Int))) (fate : List Int) : ∀ (is : List Int) (t : Nat) (secs : List (Nat → Int)), (crashK M fate t is secs).length = secs.length
  | [], _, _ => rfl
  | i :: is, t, secs => by rw [crashK, crashK_len M fate is, List.length_set]
theorem Dk.OK.crash {n : Nat} {D : Dk} (h : D.OK n) (fate : List Int) : (D.crash fate).OK n := ⟨by simp only [Dk.crash, crashK_len]; exact h.len, h.n9, .nil, by simp [Dk.crash], by simp [Dk.crash], .nil, by simp [Dk.crash], by simp [Dk.crash]⟩
theorem put_cl (D : Dk) (i : Nat) (f : Nat → Int) : (D.put i f).cl ≤ D.cl + 1 := by
  unfold Dk.put; split <;> simp
theorem put_fused (D : Dk) (i : Nat) (f : Nat → Int) : (D.put i f).fused = D.fused := by
  unfold Dk.put; split <;> rfl
theorem crash_k {n : Nat} (gd gw gm : Nat) (D : Dk) (h : D.OK n) (hcl : D.cl ≤ 16384) (a : Option Addr) (fl cap0 : Nat) (fate : List Int) (hfl : fate.length = fl) (hfr : ∀ x ∈ fate, 0 ≤ x ∧ x ≤ 255) (hfc : fl ≤ 9223372036854775807) (w : World) (hs : SlE (Value.int .u8) w a fate) (hx : 0 < fl → ∀ g o, a = some ⟨g, o, none⟩ → g ∉ [gd, gw, gm]) (hD : Has (DskL gd gw gm D) w) :
    CA Tryz.prog 13 [.pointer (some ⟨gd, 0, none⟩), .slice a fl cap0] w (Ret (fun _ : Unit => .tuple #[]) [gd, gw, gm] (fun _ => DskL gd gw gm (D.crash fate)) (fun _ => True) w) :=
  crash_c sort_ok gd gw gm D h.le h.ks (by rw [h.len]; exact h.bd) h.cl (Nat.le_trans h.ml hcl) h.bs a fl cap0 fate hfl hfr hfc w hs hx hD
end Go.Proofs.YtgmghkakiocmjaaGreatDoor
