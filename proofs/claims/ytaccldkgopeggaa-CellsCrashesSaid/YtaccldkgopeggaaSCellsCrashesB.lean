/- CellsCrashes: what it needs, part 2. -/
import Derived.Test.YtaccldkgopeggaaSCellsCrashesA
namespace Go.Proofs.Ytaccldkgopeggaa
open Go
instance : UT Try.prog 0 (TypeDesc.tuple #[]) := ⟨Try.underlying0⟩
instance : SzT Try.prog 0 1 := ⟨by kernel_rfl⟩
instance : ByT Try.prog 0 0 := ⟨by kernel_rfl⟩
instance : FlT Try.prog 0 := ⟨by kernel_rfl⟩
instance : UT Try.prog 1 (TypeDesc.func #[] #[] false) := ⟨Try.underlying1⟩
instance : SzT Try.prog 1 1 := ⟨by kernel_rfl⟩
instance : ByT Try.prog 1 8 := ⟨by kernel_rfl⟩
instance : ZrT Try.prog 1 (#[Value.nilFunc]) := ⟨by kernel_rfl⟩
instance : FlT Try.prog 1 := ⟨by kernel_rfl⟩
instance : UT Try.prog 2 (TypeDesc.int IntKind.i64) := ⟨Try.underlying2⟩
instance : SzT Try.prog 2 1 := ⟨by kernel_rfl⟩
instance : ByT Try.prog 2 8 := ⟨by kernel_rfl⟩
instance : ZrT Try.prog 2 (#[Value.int .i64 0]) := ⟨by kernel_rfl⟩
instance : FlT Try.prog 2 := ⟨by kernel_rfl⟩
instance : UT Try.prog 3 (TypeDesc.int IntKind.i64) := ⟨Try.underlying3⟩
instance : SzT Try.prog 3 1 := ⟨by kernel_rfl⟩
instance : ByT Try.prog 3 8 := ⟨by kernel_rfl⟩
instance : ZrT Try.prog 3 (#[Value.int .i64 0]) := ⟨by kernel_rfl⟩
instance : FlT Try.prog 3 := ⟨by kernel_rfl⟩
instance : UT Try.prog 4 TypeDesc.bool := ⟨Try.underlying4⟩
instance : SzT Try.prog 4 1 := ⟨by kernel_rfl⟩
instance : ByT Try.prog 4 1 := ⟨by kernel_rfl⟩
instance : ZrT Try.prog 4 (#[Value.bool false]) := ⟨by kernel_rfl⟩
instance : FlT Try.prog 4 := ⟨by kernel_rfl⟩
instance : UT Try.prog 5 (TypeDesc.int IntKind.u8) := ⟨Try.underlying5⟩
instance : SzT Try.prog 5 1 := ⟨by kernel_rfl⟩
instance : ByT Try.prog 5 1 := ⟨by kernel_rfl⟩
instance : ZrT Try.prog 5 (#[Value.int .u8 0]) := ⟨by kernel_rfl⟩
instance : FlT Try.prog 5 := ⟨by kernel_rfl⟩
instance : UT Try.prog 6 (TypeDesc.int IntKind.u8) := ⟨Try.underlying6⟩
instance : SzT Try.prog 6 1 := ⟨by kernel_rfl⟩
instance : ByT Try.prog 6 1 := ⟨by kernel_rfl⟩
instance : ZrT Try.prog 6 (#[Value.int .u8 0]) := ⟨by kernel_rfl⟩
instance : FlT Try.prog 6 := ⟨by kernel_rfl⟩
instance : UT Try.prog 7 (TypeDesc.struct #[{ name := "x", type := 2, offset := 0, embedded := false, tag := "", pkgPath := "runtime", byteOffset := 0 }, { name := "y", type := 3, offset := 1, embedded := false, tag := "", pkgPath := "runtime", byteOffset := 8 }, { name := "signed", type := 4, offset := 2, embedded := false, tag := "", pkgPath := "runtime", byteOffset := 16 }, { name := "code", type := 6, offset := 3, embedded := false, tag := "", pkgPath := "runtime", byteOffset := 17 }]) := ⟨Try.underlying7⟩
instance : SzT Try.prog 7 4 := ⟨by kernel_rfl⟩
instance : ByT Try.prog 7 24 := ⟨by kernel_rfl⟩
instance : ZrT Try.prog 7 (#[Value.int .i64 0, Value.int .i64 0, Value.bool false, Value.int .u8 0]) := ⟨by kernel_rfl⟩
instance : RwT Try.prog 7 4 := ⟨by kernel_rfl⟩
instance : PlT Try.prog 7 [(0, 1), (1, 1), (2, 1), (3, 1)] := ⟨by kernel_rfl⟩
instance : UT Try.prog 8 (TypeDesc.struct #[{ name := "x", type := 2, offset := 0, embedded := false, tag := "", pkgPath := "runtime", byteOffset := 0 }, { name := "y", type := 3, offset := 1, embedded := false, tag := "", pkgPath := "runtime", byteOffset := 8 }, { name := "signed", type := 4, offset := 2, embedded := false, tag := "", pkgPath := "runtime", byteOffset := 16 }, { name := "code", type := 6, offset := 3, embedded := false, tag := "", pkgPath := "runtime", byteOffset := 17 }]) := ⟨Try.underlying8⟩
instance : SzT Try.prog 8 4 := ⟨by kernel_rfl⟩
instance : ByT Try.prog 8 24 := ⟨by kernel_rfl⟩
instance : ZrT Try.prog 8 (#[Value.int .i64 0, Value.int .i64 0, Value.bool false, Value.int .u8 0]) := ⟨by kernel_rfl⟩
instance : RwT Try.prog 8 4 := ⟨by kernel_rfl⟩
instance : PlT Try.prog 8 [(0, 1), (1, 1), (2, 1), (3, 1)] := ⟨by kernel_rfl⟩
instance : UT Try.prog 9 TypeDesc.string := ⟨Try.underlying9⟩
instance : SzT Try.prog 9 1 := ⟨by kernel_rfl⟩
instance : ByT Try.prog 9 16 := ⟨by kernel_rfl⟩
instance : ZrT Try.prog 9 (#[Value.string ByteArray.empty]) := ⟨by kernel_rfl⟩
instance : FlT Try.prog 9 := ⟨by kernel_rfl⟩
instance : UT Try.prog 10 TypeDesc.string := ⟨Try.underlying10⟩
instance : SzT Try.prog 10 1 := ⟨by kernel_rfl⟩
instance : ByT Try.prog 10 16 := ⟨by kernel_rfl⟩
instance : ZrT Try.prog 10 (#[Value.string ByteArray.empty]) := ⟨by kernel_rfl⟩
instance : FlT Try.prog 10 := ⟨by kernel_rfl⟩
instance : UT Try.prog 11 TypeDesc.string := ⟨Try.underlying11⟩
instance : SzT Try.prog 11 1 := ⟨by kernel_rfl⟩
instance : ByT Try.prog 11 16 := ⟨by kernel_rfl⟩
instance : ZrT Try.prog 11 (#[Value.string ByteArray.empty]) := ⟨by kernel_rfl⟩
instance : FlT Try.prog 11 := ⟨by kernel_rfl⟩
instance : UT Try.prog 12 (TypeDesc.int IntKind.u64) := ⟨Try.underlying12⟩
instance : SzT Try.prog 12 1 := ⟨by kernel_rfl⟩
instance : ByT Try.prog 12 8 := ⟨by kernel_rfl⟩
instance : ZrT Try.prog 12 (#[Value.int .u64 0]) := ⟨by kernel_rfl⟩
instance : FlT Try.prog 12 := ⟨by kernel_rfl⟩
instance : UT Try.prog 13 (TypeDesc.struct #[{ name := "msg", type := 9, offset := 0, embedded := false, tag := "", pkgPath := "runtime", byteOffset := 0 }, { name := "addr", type := 12, offset := 1, embedded := false, tag := "", pkgPath := "runtime", byteOffset := 16 }]) := ⟨Try.underlying13⟩
instance : SzT Try.prog 13 2 := ⟨by kernel_rfl⟩
instance : ByT Try.prog 13 24 := ⟨by kernel_rfl⟩
instance : ZrT Try.prog 13 (#[Value.string ByteArray.empty, Value.int .u64 0]) := ⟨by kernel_rfl⟩
instance : RwT Try.prog 13 2 := ⟨by kernel_rfl⟩
instance : PlT Try.prog 13 [(0, 1), (1, 1)] := ⟨by kernel_rfl⟩
instance : UT Try.prog 14 (TypeDesc.struct #[{ name := "msg", type := 9, offset := 0, embedded := false, tag := "", pkgPath := "runtime", byteOffset := 0 }, { name := "addr", type := 12, offset := 1, embedded := false, tag := "", pkgPath := "runtime", byteOffset := 16 }]) := ⟨Try.underlying14⟩
instance : SzT Try.prog 14 2 := ⟨by kernel_rfl⟩
instance : ByT Try.prog 14 24 := ⟨by kernel_rfl⟩
instance : ZrT Try.prog 14 (#[Value.string ByteArray.empty, Value.int .u64 0]) := ⟨by kernel_rfl⟩
instance : RwT Try.prog 14 2 := ⟨by kernel_rfl⟩
instance : PlT Try.prog 14 [(0, 1), (1, 1)] := ⟨by kernel_rfl⟩
instance : UT Try.prog 15 (TypeDesc.pointer 116) := ⟨Try.underlying15⟩
instance : SzT Try.prog 15 1 := ⟨by kernel_rfl⟩
instance : ByT Try.prog 15 8 := ⟨by kernel_rfl⟩
instance : ZrT Try.prog 15 (#[Value.pointer none]) := ⟨by kernel_rfl⟩
instance : FlT Try.prog 15 := ⟨by kernel_rfl⟩
instance : UT Try.prog 16 (TypeDesc.pointer 119) := ⟨Try.underlying16⟩
instance : SzT Try.prog 16 1 := ⟨by kernel_rfl⟩
instance : ByT Try.prog 16 8 := ⟨by kernel_rfl⟩
instance : ZrT Try.prog 16 (#[Value.pointer none]) := ⟨by kernel_rfl⟩
instance : FlT Try.prog 16 := ⟨by kernel_rfl⟩
instance : UT Try.prog 17 (TypeDesc.pointer 127) := ⟨Try.underlying17⟩
instance : SzT Try.prog 17 1 := ⟨by kernel_rfl⟩
instance : ByT Try.prog 17 8 := ⟨by kernel_rfl⟩
instance : ZrT Try.prog 17 (#[Value.pointer none]) := ⟨by kernel_rfl⟩
instance : FlT Try.prog 17 := ⟨by kernel_rfl⟩
instance : UT Try.prog 18 (TypeDesc.struct #[{ name := "typ", type := 17, offset := 0, embedded := false, tag := "", pkgPath := "internal/runtime/maps", byteOffset := 0 }]) := ⟨Try.underlying18⟩
instance : SzT Try.prog 18 1 := ⟨by kernel_rfl⟩
instance : ByT Try.prog 18 8 := ⟨by kernel_rfl⟩
instance : ZrT Try.prog 18 (#[Value.pointer none]) := ⟨by kernel_rfl⟩
instance : RwT Try.prog 18 1 := ⟨by kernel_rfl⟩
instance : PlT Try.prog 18 [(0, 1)] := ⟨by kernel_rfl⟩
instance : UT Try.prog 19 (TypeDesc.struct #[{ name := "typ", type := 17, offset := 0, embedded := false, tag := "", pkgPath := "internal/runtime/maps", byteOffset := 0 }]) := ⟨Try.underlying19⟩
instance : SzT Try.prog 19 1 := ⟨by kernel_rfl⟩
instance : ByT Try.prog 19 8 := ⟨by kernel_rfl⟩
instance : ZrT Try.prog 19 (#[Value.pointer none]) := ⟨by kernel_rfl⟩
instance : RwT Try.prog 19 1 := ⟨by kernel_rfl⟩
instance : PlT Try.prog 19 [(0, 1)] := ⟨by kernel_rfl⟩
instance : UT Try.prog 20 (TypeDesc.interface #[]) := ⟨Try.underlying20⟩
instance : SzT Try.prog 20 1 := ⟨by kernel_rfl⟩
instance : ByT Try.prog 20 16 := ⟨by kernel_rfl⟩
instance : ZrT Try.prog 20 (#[Value.nilIface]) := ⟨by kernel_rfl⟩
instance : FlT Try.prog 20 := ⟨by kernel_rfl⟩
instance : UT Try.prog 21 (TypeDesc.int IntKind.i32) := ⟨Try.underlying21⟩
instance : SzT Try.prog 21 1 := ⟨by kernel_rfl⟩
instance : ByT Try.prog 21 4 := ⟨by kernel_rfl⟩
instance : ZrT Try.prog 21 (#[Value.int .i32 0]) := ⟨by kernel_rfl⟩
instance : FlT Try.prog 21 := ⟨by kernel_rfl⟩
instance : UT Try.prog 22 (TypeDesc.slice 26) := ⟨Try.underlying22⟩
instance : SzT Try.prog 22 1 := ⟨by kernel_rfl⟩
instance : ByT Try.prog 22 24 := ⟨by kernel_rfl⟩
instance : ZrT Try.prog 22 (#[Value.slice none 0 0]) := ⟨by kernel_rfl⟩
instance : FlT Try.prog 22 := ⟨by kernel_rfl⟩
instance : UT Try.prog 23 (TypeDesc.func #[] #[4] false) := ⟨Try.underlying23⟩
instance : SzT Try.prog 23 1 := ⟨by kernel_rfl⟩
instance : ByT Try.prog 23 8 := ⟨by kernel_rfl⟩
instance : ZrT Try.prog 23 (#[Value.nilFunc]) := ⟨by kernel_rfl⟩
instance : FlT Try.prog 23 := ⟨by kernel_rfl⟩
instance : UT Try.prog 24 (TypeDesc.pointer 61) := ⟨Try.underlying24⟩
instance : SzT Try.prog 24 1 := ⟨by kernel_rfl⟩
instance : ByT Try.prog 24 8 := ⟨by kernel_rfl⟩
instance : ZrT Try.prog 24 (#[Value.pointer none]) := ⟨by kernel_rfl⟩
instance : FlT Try.prog 24 := ⟨by kernel_rfl⟩
instance : UT Try.prog 25 (TypeDesc.func #[3] #[24] false) := ⟨Try.underlying25⟩
instance : SzT Try.prog 25 1 := ⟨by kernel_rfl⟩
instance : ByT Try.prog 25 8 := ⟨by kernel_rfl⟩
instance : ZrT Try.prog 25 (#[Value.nilFunc]) := ⟨by kernel_rfl⟩
instance : FlT Try.prog 25 := ⟨by kernel_rfl⟩
instance : UT Try.prog 26 (TypeDesc.slice 5) := ⟨Try.underlying26⟩
instance : SzT Try.prog 26 1 := ⟨by kernel_rfl⟩
instance : ByT Try.prog 26 24 := ⟨by kernel_rfl⟩
instance : ZrT Try.prog 26 (#[Value.slice none 0 0]) := ⟨by kernel_rfl⟩
instance : FlT Try.prog 26 := ⟨by kernel_rfl⟩
instance : UT Try.prog 27 (TypeDesc.pointer 65) := ⟨Try.underlying27⟩
instance : SzT Try.prog 27 1 := ⟨by kernel_rfl⟩
instance : ByT Try.prog 27 8 := ⟨by kernel_rfl⟩
instance : ZrT Try.prog 27 (#[Value.pointer none]) := ⟨by kernel_rfl⟩
instance : FlT Try.prog 27 := ⟨by kernel_rfl⟩
instance : UT Try.prog 28 (TypeDesc.int IntKind.i64) := ⟨Try.underlying28⟩
instance : SzT Try.prog 28 1 := ⟨by kernel_rfl⟩
instance : ByT Try.prog 28 8 := ⟨by kernel_rfl⟩
instance : ZrT Try.prog 28 (#[Value.int .i64 0]) := ⟨by kernel_rfl⟩
instance : FlT Try.prog 28 := ⟨by kernel_rfl⟩
instance : UT Try.prog 29 (TypeDesc.tuple #[27, 28]) := ⟨Try.underlying29⟩
instance : SzT Try.prog 29 1 := ⟨by kernel_rfl⟩
instance : ByT Try.prog 29 0 := ⟨by kernel_rfl⟩
instance : FlT Try.prog 29 := ⟨by kernel_rfl⟩
instance : UT Try.prog 30 (TypeDesc.func #[24, 3, 3] #[27, 28] false) := ⟨Try.underlying30⟩
instance : SzT Try.prog 30 1 := ⟨by kernel_rfl⟩
instance : ByT Try.prog 30 8 := ⟨by kernel_rfl⟩
instance : ZrT Try.prog 30 (#[Value.nilFunc]) := ⟨by kernel_rfl⟩
instance : FlT Try.prog 30 := ⟨by kernel_rfl⟩
instance : UT Try.prog 31 (TypeDesc.func #[26, 32] #[28] false) := ⟨Try.underlying31⟩
instance : SzT Try.prog 31 1 := ⟨by kernel_rfl⟩
instance : ByT Try.prog 31 8 := ⟨by kernel_rfl⟩
instance : ZrT Try.prog 31 (#[Value.nilFunc]) := ⟨by kernel_rfl⟩
instance : FlT Try.prog 31 := ⟨by kernel_rfl⟩
instance : UT Try.prog 32 (TypeDesc.array 16 5) := ⟨Try.underlying32⟩
instance : SzT Try.prog 32 16 := ⟨by kernel_rfl⟩
instance : ByT Try.prog 32 16 := ⟨by kernel_rfl⟩
instance : ZrT Try.prog 32 (#[Value.int .u8 0, Value.int .u8 0, Value.int .u8 0, Value.int .u8 0, Value.int .u8 0, Value.int .u8 0, Value.int .u8 0, Value.int .u8 0, Value.int .u8 0, Value.int .u8 0, Value.int .u8 0, Value.int .u8 0, Value.int .u8 0, Value.int .u8 0, Value.int .u8 0, Value.int .u8 0]) := ⟨by kernel_rfl⟩
instance : RwT Try.prog 32 16 := ⟨by kernel_rfl⟩
instance : UT Try.prog 33 (TypeDesc.func #[5] #[32] false) := ⟨Try.underlying33⟩
instance : SzT Try.prog 33 1 := ⟨by kernel_rfl⟩
instance : ByT Try.prog 33 8 := ⟨by kernel_rfl⟩
instance : ZrT Try.prog 33 (#[Value.nilFunc]) := ⟨by kernel_rfl⟩
instance : FlT Try.prog 33 := ⟨by kernel_rfl⟩
instance : UT Try.prog 34 (TypeDesc.func #[] #[26] false) := ⟨Try.underlying34⟩
instance : SzT Try.prog 34 1 := ⟨by kernel_rfl⟩
instance : ByT Try.prog 34 8 := ⟨by kernel_rfl⟩
instance : ZrT Try.prog 34 (#[Value.nilFunc]) := ⟨by kernel_rfl⟩
instance : FlT Try.prog 34 := ⟨by kernel_rfl⟩
instance : UT Try.prog 35 (TypeDesc.int IntKind.u64) := ⟨Try.underlying35⟩
instance : SzT Try.prog 35 1 := ⟨by kernel_rfl⟩
instance : ByT Try.prog 35 8 := ⟨by kernel_rfl⟩
instance : ZrT Try.prog 35 (#[Value.int .u64 0]) := ⟨by kernel_rfl⟩
instance : FlT Try.prog 35 := ⟨by kernel_rfl⟩
instance : UT Try.prog 36 (TypeDesc.func #[] #[35] false) := ⟨Try.underlying36⟩
instance : SzT Try.prog 36 1 := ⟨by kernel_rfl⟩
instance : ByT Try.prog 36 8 := ⟨by kernel_rfl⟩
instance : ZrT Try.prog 36 (#[Value.nilFunc]) := ⟨by kernel_rfl⟩
instance : FlT Try.prog 36 := ⟨by kernel_rfl⟩
instance : UT Try.prog 37 (TypeDesc.func #[] #[32] false) := ⟨Try.underlying37⟩
instance : SzT Try.prog 37 1 := ⟨by kernel_rfl⟩
instance : ByT Try.prog 37 8 := ⟨by kernel_rfl⟩
instance : ZrT Try.prog 37 (#[Value.nilFunc]) := ⟨by kernel_rfl⟩
instance : FlT Try.prog 37 := ⟨by kernel_rfl⟩
instance : UT Try.prog 38 (TypeDesc.func #[22, 5] #[4] false) := ⟨Try.underlying38⟩
instance : SzT Try.prog 38 1 := ⟨by kernel_rfl⟩
instance : ByT Try.prog 38 8 := ⟨by kernel_rfl⟩
instance : ZrT Try.prog 38 (#[Value.nilFunc]) := ⟨by kernel_rfl⟩
instance : FlT Try.prog 38 := ⟨by kernel_rfl⟩
instance : UT Try.prog 39 (TypeDesc.func #[3, 26] #[28] false) := ⟨Try.underlying39⟩
instance : SzT Try.prog 39 1 := ⟨by kernel_rfl⟩
instance : ByT Try.prog 39 8 := ⟨by kernel_rfl⟩
instance : ZrT Try.prog 39 (#[Value.nilFunc]) := ⟨by kernel_rfl⟩
instance : FlT Try.prog 39 := ⟨by kernel_rfl⟩
instance : UT Try.prog 40 (TypeDesc.func #[5, 26] #[26] false) := ⟨Try.underlying40⟩
instance : SzT Try.prog 40 1 := ⟨by kernel_rfl⟩
instance : ByT Try.prog 40 8 := ⟨by kernel_rfl⟩
instance : ZrT Try.prog 40 (#[Value.nilFunc]) := ⟨by kernel_rfl⟩
instance : FlT Try.prog 40 := ⟨by kernel_rfl⟩
instance : UT Try.prog 41 (TypeDesc.struct #[{ name := "Serial", type := 35, offset := 0, embedded := false, tag := "", pkgPath := "", byteOffset := 0 }, { name := "Note", type := 32, offset := 1, embedded := false, tag := "", pkgPath := "", byteOffset := 8 }, { name := "Bytes", type := 26, offset := 17, embedded := false, tag := "", pkgPath := "", byteOffset := 24 }]) := ⟨Try.underlying41⟩
instance : SzT Try.prog 41 18 := ⟨by kernel_rfl⟩
instance : ByT Try.prog 41 48 := ⟨by kernel_rfl⟩
instance : ZrT Try.prog 41 (#[Value.int .u64 0, Value.int .u8 0, Value.int .u8 0, Value.int .u8 0, Value.int .u8 0, Value.int .u8 0, Value.int .u8 0, Value.int .u8 0, Value.int .u8 0, Value.int .u8 0, Value.int .u8 0, Value.int .u8 0, Value.int .u8 0, Value.int .u8 0, Value.int .u8 0, Value.int .u8 0, Value.int .u8 0, Value.slice none 0 0]) := ⟨by kernel_rfl⟩
instance : RwT Try.prog 41 18 := ⟨by kernel_rfl⟩
instance : PlT Try.prog 41 [(0, 1), (1, 16), (17, 1)] := ⟨by kernel_rfl⟩
instance : UT Try.prog 42 (TypeDesc.struct #[{ name := "Serial", type := 35, offset := 0, embedded := false, tag := "", pkgPath := "", byteOffset := 0 }, { name := "Note", type := 32, offset := 1, embedded := false, tag := "", pkgPath := "", byteOffset := 8 }, { name := "Bytes", type := 26, offset := 17, embedded := false, tag := "", pkgPath := "", byteOffset := 24 }]) := ⟨Try.underlying42⟩
instance : SzT Try.prog 42 18 := ⟨by kernel_rfl⟩
instance : ByT Try.prog 42 48 := ⟨by kernel_rfl⟩
instance : ZrT Try.prog 42 (#[Value.int .u64 0, Value.int .u8 0, Value.int .u8 0, Value.int .u8 0, Value.int .u8 0, Value.int .u8 0, Value.int .u8 0, Value.int .u8 0, Value.int .u8 0, Value.int .u8 0, Value.int .u8 0, Value.int .u8 0, Value.int .u8 0, Value.int .u8 0, Value.int .u8 0, Value.int .u8 0, Value.int .u8 0, Value.slice none 0 0]) := ⟨by kernel_rfl⟩
instance : RwT Try.prog 42 18 := ⟨by kernel_rfl⟩
instance : PlT Try.prog 42 [(0, 1), (1, 16), (17, 1)] := ⟨by kernel_rfl⟩
instance : UT Try.prog 43 (TypeDesc.func #[22] #[42] false) := ⟨Try.underlying43⟩
instance : SzT Try.prog 43 1 := ⟨by kernel_rfl⟩
instance : ByT Try.prog 43 8 := ⟨by kernel_rfl⟩
instance : ZrT Try.prog 43 (#[Value.nilFunc]) := ⟨by kernel_rfl⟩
instance : FlT Try.prog 43 := ⟨by kernel_rfl⟩
instance : UT Try.prog 44 (TypeDesc.func #[24, 3] #[22] false) := ⟨Try.underlying44⟩
instance : SzT Try.prog 44 1 := ⟨by kernel_rfl⟩
instance : ByT Try.prog 44 8 := ⟨by kernel_rfl⟩
instance : ZrT Try.prog 44 (#[Value.nilFunc]) := ⟨by kernel_rfl⟩
instance : FlT Try.prog 44 := ⟨by kernel_rfl⟩
instance : UT Try.prog 45 (TypeDesc.func #[42, 42] #[4] false) := ⟨Try.underlying45⟩
instance : SzT Try.prog 45 1 := ⟨by kernel_rfl⟩
instance : ByT Try.prog 45 8 := ⟨by kernel_rfl⟩
instance : ZrT Try.prog 45 (#[Value.nilFunc]) := ⟨by kernel_rfl⟩
instance : FlT Try.prog 45 := ⟨by kernel_rfl⟩
instance : UT Try.prog 46 (TypeDesc.func #[27] #[42] false) := ⟨Try.underlying46⟩
instance : SzT Try.prog 46 1 := ⟨by kernel_rfl⟩
instance : ByT Try.prog 46 8 := ⟨by kernel_rfl⟩
instance : ZrT Try.prog 46 (#[Value.nilFunc]) := ⟨by kernel_rfl⟩
instance : FlT Try.prog 46 := ⟨by kernel_rfl⟩
instance : UT Try.prog 47 (TypeDesc.func #[] #[3] false) := ⟨Try.underlying47⟩
instance : SzT Try.prog 47 1 := ⟨by kernel_rfl⟩
instance : ByT Try.prog 47 8 := ⟨by kernel_rfl⟩
instance : ZrT Try.prog 47 (#[Value.nilFunc]) := ⟨by kernel_rfl⟩
instance : FlT Try.prog 47 := ⟨by kernel_rfl⟩
instance : UT Try.prog 48 (TypeDesc.func #[22, 3, 3] #[4] false) := ⟨Try.underlying48⟩
instance : SzT Try.prog 48 1 := ⟨by kernel_rfl⟩
instance : ByT Try.prog 48 8 := ⟨by kernel_rfl⟩
instance : ZrT Try.prog 48 (#[Value.nilFunc]) := ⟨by kernel_rfl⟩
instance : FlT Try.prog 48 := ⟨by kernel_rfl⟩
instance : UT Try.prog 49 (TypeDesc.slice 52) := ⟨Try.underlying49⟩
instance : SzT Try.prog 49 1 := ⟨by kernel_rfl⟩
instance : ByT Try.prog 49 24 := ⟨by kernel_rfl⟩
instance : ZrT Try.prog 49 (#[Value.slice none 0 0]) := ⟨by kernel_rfl⟩
instance : FlT Try.prog 49 := ⟨by kernel_rfl⟩
instance : UT Try.prog 50 (TypeDesc.func #[49] #[4] false) := ⟨Try.underlying50⟩
instance : SzT Try.prog 50 1 := ⟨by kernel_rfl⟩
instance : ByT Try.prog 50 8 := ⟨by kernel_rfl⟩
instance : ZrT Try.prog 50 (#[Value.nilFunc]) := ⟨by kernel_rfl⟩
instance : FlT Try.prog 50 := ⟨by kernel_rfl⟩
instance : UT Try.prog 51 (TypeDesc.struct #[{ name := "Kind", type := 5, offset := 0, embedded := false, tag := "", pkgPath := "", byteOffset := 0 }, { name := "N", type := 5, offset := 1, embedded := false, tag := "", pkgPath := "", byteOffset := 1 }, { name := "I", type := 3, offset := 2, embedded := false, tag := "", pkgPath := "", byteOffset := 8 }, { name := "B", type := 26, offset := 3, embedded := false, tag := "", pkgPath := "", byteOffset := 16 }]) := ⟨Try.underlying51⟩
instance : SzT Try.prog 51 4 := ⟨by kernel_rfl⟩
instance : ByT Try.prog 51 40 := ⟨by kernel_rfl⟩
instance : ZrT Try.prog 51 (#[Value.int .u8 0, Value.int .u8 0, Value.int .i64 0, Value.slice none 0 0]) := ⟨by kernel_rfl⟩
instance : RwT Try.prog 51 4 := ⟨by kernel_rfl⟩
instance : PlT Try.prog 51 [(0, 1), (1, 1), (2, 1), (3, 1)] := ⟨by kernel_rfl⟩
instance : UT Try.prog 52 (TypeDesc.struct #[{ name := "Kind", type := 5, offset := 0, embedded := false, tag := "", pkgPath := "", byteOffset := 0 }, { name := "N", type := 5, offset := 1, embedded := false, tag := "", pkgPath := "", byteOffset := 1 }, { name := "I", type := 3, offset := 2, embedded := false, tag := "", pkgPath := "", byteOffset := 8 }, { name := "B", type := 26, offset := 3, embedded := false, tag := "", pkgPath := "", byteOffset := 16 }]) := ⟨Try.underlying52⟩
instance : SzT Try.prog 52 4 := ⟨by kernel_rfl⟩
instance : ByT Try.prog 52 40 := ⟨by kernel_rfl⟩
instance : ZrT Try.prog 52 (#[Value.int .u8 0, Value.int .u8 0, Value.int .i64 0, Value.slice none 0 0]) := ⟨by kernel_rfl⟩
instance : RwT Try.prog 52 4 := ⟨by kernel_rfl⟩
instance : PlT Try.prog 52 [(0, 1), (1, 1), (2, 1), (3, 1)] := ⟨by kernel_rfl⟩
instance : UT Try.prog 53 (TypeDesc.func #[] #[28] false) := ⟨Try.underlying53⟩
instance : SzT Try.prog 53 1 := ⟨by kernel_rfl⟩
instance : ByT Try.prog 53 8 := ⟨by kernel_rfl⟩
instance : ZrT Try.prog 53 (#[Value.nilFunc]) := ⟨by kernel_rfl⟩
instance : FlT Try.prog 53 := ⟨by kernel_rfl⟩
instance : UT Try.prog 54 (TypeDesc.func #[26] #[] false) := ⟨Try.underlying54⟩
instance : SzT Try.prog 54 1 := ⟨by kernel_rfl⟩
instance : ByT Try.prog 54 8 := ⟨by kernel_rfl⟩
instance : ZrT Try.prog 54 (#[Value.nilFunc]) := ⟨by kernel_rfl⟩
instance : FlT Try.prog 54 := ⟨by kernel_rfl⟩
instance : UT Try.prog 55 (TypeDesc.func #[5, 49] #[4] false) := ⟨Try.underlying55⟩
instance : SzT Try.prog 55 1 := ⟨by kernel_rfl⟩
instance : ByT Try.prog 55 8 := ⟨by kernel_rfl⟩
instance : ZrT Try.prog 55 (#[Value.nilFunc]) := ⟨by kernel_rfl⟩
instance : FlT Try.prog 55 := ⟨by kernel_rfl⟩
instance : UT Try.prog 56 (TypeDesc.func #[3] #[] false) := ⟨Try.underlying56⟩
instance : SzT Try.prog 56 1 := ⟨by kernel_rfl⟩
instance : ByT Try.prog 56 8 := ⟨by kernel_rfl⟩
instance : ZrT Try.prog 56 (#[Value.nilFunc]) := ⟨by kernel_rfl⟩
instance : FlT Try.prog 56 := ⟨by kernel_rfl⟩
instance : UT Try.prog 57 (TypeDesc.func #[49, 26] #[4] false) := ⟨Try.underlying57⟩
instance : SzT Try.prog 57 1 := ⟨by kernel_rfl⟩
instance : ByT Try.prog 57 8 := ⟨by kernel_rfl⟩
instance : ZrT Try.prog 57 (#[Value.nilFunc]) := ⟨by kernel_rfl⟩
instance : FlT Try.prog 57 := ⟨by kernel_rfl⟩
instance : UT Try.prog 58 (TypeDesc.slice 70) := ⟨Try.underlying58⟩
instance : SzT Try.prog 58 1 := ⟨by kernel_rfl⟩
instance : ByT Try.prog 58 24 := ⟨by kernel_rfl⟩
instance : ZrT Try.prog 58 (#[Value.slice none 0 0]) := ⟨by kernel_rfl⟩
instance : FlT Try.prog 58 := ⟨by kernel_rfl⟩
instance : UT Try.prog 59 (TypeDesc.map 3 70) := ⟨Try.underlying59⟩
instance : SzT Try.prog 59 1 := ⟨by kernel_rfl⟩
instance : ByT Try.prog 59 8 := ⟨by kernel_rfl⟩
instance : ZrT Try.prog 59 (#[Value.map none]) := ⟨by kernel_rfl⟩
instance : FlT Try.prog 59 := ⟨by kernel_rfl⟩
instance : UT Try.prog 60 (TypeDesc.struct #[{ name := "written", type := 58, offset := 0, embedded := false, tag := "", pkgPath := "jalousie/disk", byteOffset := 0 }, { name := "loose", type := 59, offset := 1, embedded := false, tag := "", pkgPath := "jalousie/disk", byteOffset := 24 }, { name := "fused", type := 4, offset := 2, embedded := false, tag := "", pkgPath := "jalousie/disk", byteOffset := 32 }, { name := "fuse", type := 3, offset := 3, embedded := false, tag := "", pkgPath := "jalousie/disk", byteOffset := 40 }, { name := "gone", type := 4, offset := 4, embedded := false, tag := "", pkgPath := "jalousie/disk", byteOffset := 48 }]) := ⟨Try.underlying60⟩
instance : SzT Try.prog 60 5 := ⟨by kernel_rfl⟩
instance : ByT Try.prog 60 56 := ⟨by kernel_rfl⟩
instance : ZrT Try.prog 60 (#[Value.slice none 0 0, Value.map none, Value.bool false, Value.int .i64 0, Value.bool false]) := ⟨by kernel_rfl⟩
instance : RwT Try.prog 60 5 := ⟨by kernel_rfl⟩
instance : PlT Try.prog 60 [(0, 1), (1, 1), (2, 1), (3, 1), (4, 1)] := ⟨by kernel_rfl⟩
instance : UT Try.prog 61 (TypeDesc.struct #[{ name := "written", type := 58, offset := 0, embedded := false, tag := "", pkgPath := "jalousie/disk", byteOffset := 0 }, { name := "loose", type := 59, offset := 1, embedded := false, tag := "", pkgPath := "jalousie/disk", byteOffset := 24 }, { name := "fused", type := 4, offset := 2, embedded := false, tag := "", pkgPath := "jalousie/disk", byteOffset := 32 }, { name := "fuse", type := 3, offset := 3, embedded := false, tag := "", pkgPath := "jalousie/disk", byteOffset := 40 }, { name := "gone", type := 4, offset := 4, embedded := false, tag := "", pkgPath := "jalousie/disk", byteOffset := 48 }]) := ⟨Try.underlying61⟩
instance : SzT Try.prog 61 5 := ⟨by kernel_rfl⟩
instance : ByT Try.prog 61 56 := ⟨by kernel_rfl⟩
instance : ZrT Try.prog 61 (#[Value.slice none 0 0, Value.map none, Value.bool false, Value.int .i64 0, Value.bool false]) := ⟨by kernel_rfl⟩
instance : RwT Try.prog 61 5 := ⟨by kernel_rfl⟩
instance : PlT Try.prog 61 [(0, 1), (1, 1), (2, 1), (3, 1), (4, 1)] := ⟨by kernel_rfl⟩
instance : UT Try.prog 62 (TypeDesc.struct #[{ name := "serial", type := 35, offset := 0, embedded := false, tag := "", pkgPath := "jalousie/cells", byteOffset := 0 }, { name := "count", type := 35, offset := 1, embedded := false, tag := "", pkgPath := "jalousie/cells", byteOffset := 8 }, { name := "note", type := 32, offset := 2, embedded := false, tag := "", pkgPath := "jalousie/cells", byteOffset := 16 }]) := ⟨Try.underlying62⟩
instance : SzT Try.prog 62 18 := ⟨by kernel_rfl⟩
instance : ByT Try.prog 62 32 := ⟨by kernel_rfl⟩
instance : ZrT Try.prog 62 (#[Value.int .u64 0, Value.int .u64 0, Value.int .u8 0, Value.int .u8 0, Value.int .u8 0, Value.int .u8 0, Value.int .u8 0, Value.int .u8 0, Value.int .u8 0, Value.int .u8 0, Value.int .u8 0, Value.int .u8 0, Value.int .u8 0, Value.int .u8 0, Value.int .u8 0, Value.int .u8 0, Value.int .u8 0, Value.int .u8 0]) := ⟨by kernel_rfl⟩
instance : RwT Try.prog 62 18 := ⟨by kernel_rfl⟩
instance : PlT Try.prog 62 [(0, 1), (1, 1), (2, 16)] := ⟨by kernel_rfl⟩
instance : UT Try.prog 63 (TypeDesc.struct #[{ name := "serial", type := 35, offset := 0, embedded := false, tag := "", pkgPath := "jalousie/cells", byteOffset := 0 }, { name := "count", type := 35, offset := 1, embedded := false, tag := "", pkgPath := "jalousie/cells", byteOffset := 8 }, { name := "note", type := 32, offset := 2, embedded := false, tag := "", pkgPath := "jalousie/cells", byteOffset := 16 }]) := ⟨Try.underlying63⟩
instance : SzT Try.prog 63 18 := ⟨by kernel_rfl⟩
instance : ByT Try.prog 63 32 := ⟨by kernel_rfl⟩
instance : ZrT Try.prog 63 (#[Value.int .u64 0, Value.int .u64 0, Value.int .u8 0, Value.int .u8 0, Value.int .u8 0, Value.int .u8 0, Value.int .u8 0, Value.int .u8 0, Value.int .u8 0, Value.int .u8 0, Value.int .u8 0, Value.int .u8 0, Value.int .u8 0, Value.int .u8 0, Value.int .u8 0, Value.int .u8 0, Value.int .u8 0, Value.int .u8 0]) := ⟨by kernel_rfl⟩
instance : RwT Try.prog 63 18 := ⟨by kernel_rfl⟩
instance : PlT Try.prog 63 [(0, 1), (1, 1), (2, 16)] := ⟨by kernel_rfl⟩
instance : UT Try.prog 64 (TypeDesc.struct #[{ name := "disk", type := 24, offset := 0, embedded := false, tag := "", pkgPath := "jalousie/cells", byteOffset := 0 }, { name := "from", type := 3, offset := 1, embedded := false, tag := "", pkgPath := "jalousie/cells", byteOffset := 8 }, { name := "room", type := 3, offset := 2, embedded := false, tag := "", pkgPath := "jalousie/cells", byteOffset := 16 }, { name := "state", type := 63, offset := 3, embedded := false, tag := "", pkgPath := "jalousie/cells", byteOffset := 24 }, { name := "bytes", type := 26, offset := 21, embedded := false, tag := "", pkgPath := "jalousie/cells", byteOffset := 56 }, { name := "over", type := 4, offset := 22, embedded := false, tag := "", pkgPath := "jalousie/cells", byteOffset := 80 }]) := ⟨Try.underlying64⟩
instance : SzT Try.prog 64 23 := ⟨by kernel_rfl⟩
instance : ByT Try.prog 64 88 := ⟨by kernel_rfl⟩
instance : ZrT Try.prog 64 (#[Value.pointer none, Value.int .i64 0, Value.int .i64 0, Value.int .u64 0, Value.int .u64 0, Value.int .u8 0, Value.int .u8 0, Value.int .u8 0, Value.int .u8 0, Value.int .u8 0, Value.int .u8 0, Value.int .u8 0, Value.int .u8 0, Value.int .u8 0, Value.int .u8 0, Value.int .u8 0, Value.int .u8 0, Value.int .u8 0, Value.int .u8 0, Value.int .u8 0, Value.int .u8 0, Value.slice none 0 0, Value.bool false]) := ⟨by kernel_rfl⟩
instance : RwT Try.prog 64 23 := ⟨by kernel_rfl⟩
instance : PlT Try.prog 64 [(0, 1), (1, 1), (2, 1), (3, 18), (21, 1), (22, 1)] := ⟨by kernel_rfl⟩
instance : UT Try.prog 65 (TypeDesc.struct #[{ name := "disk", type := 24, offset := 0, embedded := false, tag := "", pkgPath := "jalousie/cells", byteOffset := 0 }, { name := "from", type := 3, offset := 1, embedded := false, tag := "", pkgPath := "jalousie/cells", byteOffset := 8 }, { name := "room", type := 3, offset := 2, embedded := false, tag := "", pkgPath := "jalousie/cells", byteOffset := 16 }, { name := "state", type := 63, offset := 3, embedded := false, tag := "", pkgPath := "jalousie/cells", byteOffset := 24 }, { name := "bytes", type := 26, offset := 21, embedded := false, tag := "", pkgPath := "jalousie/cells", byteOffset := 56 }, { name := "over", type := 4, offset := 22, embedded := false, tag := "", pkgPath := "jalousie/cells", byteOffset := 80 }]) := ⟨Try.underlying65⟩
instance : SzT Try.prog 65 23 := ⟨by kernel_rfl⟩
instance : ByT Try.prog 65 88 := ⟨by kernel_rfl⟩
instance : ZrT Try.prog 65 (#[Value.pointer none, Value.int .i64 0, Value.int .i64 0, Value.int .u64 0, Value.int .u64 0, Value.int .u8 0, Value.int .u8 0, Value.int .u8 0, Value.int .u8 0, Value.int .u8 0, Value.int .u8 0, Value.int .u8 0, Value.int .u8 0, Value.int .u8 0, Value.int .u8 0, Value.int .u8 0, Value.int .u8 0, Value.int .u8 0, Value.int .u8 0, Value.int .u8 0, Value.int .u8 0, Value.slice none 0 0, Value.bool false]) := ⟨by kernel_rfl⟩
instance : RwT Try.prog 65 23 := ⟨by kernel_rfl⟩
instance : PlT Try.prog 65 [(0, 1), (1, 1), (2, 1), (3, 18), (21, 1), (22, 1)] := ⟨by kernel_rfl⟩
instance : UT Try.prog 66 (TypeDesc.func #[26] #[28] false) := ⟨Try.underlying66⟩
instance : SzT Try.prog 66 1 := ⟨by kernel_rfl⟩
instance : ByT Try.prog 66 8 := ⟨by kernel_rfl⟩
instance : ZrT Try.prog 66 (#[Value.nilFunc]) := ⟨by kernel_rfl⟩
instance : FlT Try.prog 66 := ⟨by kernel_rfl⟩
instance : UT Try.prog 67 (TypeDesc.func #[26] #[26] false) := ⟨Try.underlying67⟩
instance : SzT Try.prog 67 1 := ⟨by kernel_rfl⟩
instance : ByT Try.prog 67 8 := ⟨by kernel_rfl⟩
instance : ZrT Try.prog 67 (#[Value.nilFunc]) := ⟨by kernel_rfl⟩
instance : FlT Try.prog 67 := ⟨by kernel_rfl⟩
instance : UT Try.prog 68 (TypeDesc.func #[3] #[4] false) := ⟨Try.underlying68⟩
instance : SzT Try.prog 68 1 := ⟨by kernel_rfl⟩
instance : ByT Try.prog 68 8 := ⟨by kernel_rfl⟩
instance : ZrT Try.prog 68 (#[Value.nilFunc]) := ⟨by kernel_rfl⟩
instance : FlT Try.prog 68 := ⟨by kernel_rfl⟩
instance : UT Try.prog 69 (TypeDesc.array 64 5) := ⟨Try.underlying69⟩
instance : SzT Try.prog 69 64 := ⟨by kernel_rfl⟩
instance : ByT Try.prog 69 64 := ⟨by kernel_rfl⟩
instance : ZrT Try.prog 69 ((List.replicate 64 (Value.int .u8 0)).toArray) := ⟨by kernel_rfl⟩
instance : RwT Try.prog 69 64 := ⟨by kernel_rfl⟩
instance : UT Try.prog 70 (TypeDesc.array 64 5) := ⟨Try.underlying70⟩
instance : SzT Try.prog 70 64 := ⟨by kernel_rfl⟩
instance : ByT Try.prog 70 64 := ⟨by kernel_rfl⟩
instance : ZrT Try.prog 70 ((List.replicate 64 (Value.int .u8 0)).toArray) := ⟨by kernel_rfl⟩
instance : RwT Try.prog 70 64 := ⟨by kernel_rfl⟩
instance : UT Try.prog 71 (TypeDesc.tuple #[70, 4]) := ⟨Try.underlying71⟩
instance : SzT Try.prog 71 1 := ⟨by kernel_rfl⟩
instance : ByT Try.prog 71 0 := ⟨by kernel_rfl⟩
instance : FlT Try.prog 71 := ⟨by kernel_rfl⟩
instance : UT Try.prog 72 (TypeDesc.tuple #[35, 35, 32, 4]) := ⟨Try.underlying72⟩
instance : SzT Try.prog 72 1 := ⟨by kernel_rfl⟩
instance : ByT Try.prog 72 0 := ⟨by kernel_rfl⟩
instance : FlT Try.prog 72 := ⟨by kernel_rfl⟩
instance : UT Try.prog 73 (TypeDesc.func #[26, 3, 3] #[35, 35, 32, 4] false) := ⟨Try.underlying73⟩
instance : SzT Try.prog 73 1 := ⟨by kernel_rfl⟩
instance : ByT Try.prog 73 8 := ⟨by kernel_rfl⟩
instance : ZrT Try.prog 73 (#[Value.nilFunc]) := ⟨by kernel_rfl⟩
instance : FlT Try.prog 73 := ⟨by kernel_rfl⟩
instance : UT Try.prog 74 (TypeDesc.tuple #[26, 28]) := ⟨Try.underlying74⟩
instance : SzT Try.prog 74 1 := ⟨by kernel_rfl⟩
instance : ByT Try.prog 74 0 := ⟨by kernel_rfl⟩
instance : FlT Try.prog 74 := ⟨by kernel_rfl⟩
instance : UT Try.prog 75 (TypeDesc.func #[3] #[26, 28] false) := ⟨Try.underlying75⟩
instance : SzT Try.prog 75 1 := ⟨by kernel_rfl⟩
instance : ByT Try.prog 75 8 := ⟨by kernel_rfl⟩
instance : ZrT Try.prog 75 (#[Value.nilFunc]) := ⟨by kernel_rfl⟩
instance : FlT Try.prog 75 := ⟨by kernel_rfl⟩
instance : UT Try.prog 76 (TypeDesc.slice 3) := ⟨Try.underlying76⟩
instance : SzT Try.prog 76 1 := ⟨by kernel_rfl⟩
instance : ByT Try.prog 76 24 := ⟨by kernel_rfl⟩
instance : ZrT Try.prog 76 (#[Value.slice none 0 0]) := ⟨by kernel_rfl⟩
instance : FlT Try.prog 76 := ⟨by kernel_rfl⟩
instance : UT Try.prog 77 (TypeDesc.func #[79] #[76] false) := ⟨Try.underlying77⟩
instance : SzT Try.prog 77 1 := ⟨by kernel_rfl⟩
instance : ByT Try.prog 77 8 := ⟨by kernel_rfl⟩
instance : ZrT Try.prog 77 (#[Value.nilFunc]) := ⟨by kernel_rfl⟩
instance : FlT Try.prog 77 := ⟨by kernel_rfl⟩
instance : UT Try.prog 78 (TypeDesc.func #[68] #[] false) := ⟨Try.underlying78⟩
instance : SzT Try.prog 78 1 := ⟨by kernel_rfl⟩
instance : ByT Try.prog 78 8 := ⟨by kernel_rfl⟩
instance : ZrT Try.prog 78 (#[Value.nilFunc]) := ⟨by kernel_rfl⟩
instance : FlT Try.prog 78 := ⟨by kernel_rfl⟩
instance : UT Try.prog 79 (TypeDesc.func #[68] #[] false) := ⟨Try.underlying79⟩
instance : SzT Try.prog 79 1 := ⟨by kernel_rfl⟩
instance : ByT Try.prog 79 8 := ⟨by kernel_rfl⟩
instance : ZrT Try.prog 79 (#[Value.nilFunc]) := ⟨by kernel_rfl⟩
instance : FlT Try.prog 79 := ⟨by kernel_rfl⟩
instance : UT Try.prog 80 (TypeDesc.func #[59] #[79] false) := ⟨Try.underlying80⟩
instance : SzT Try.prog 80 1 := ⟨by kernel_rfl⟩
instance : ByT Try.prog 80 8 := ⟨by kernel_rfl⟩
instance : ZrT Try.prog 80 (#[Value.nilFunc]) := ⟨by kernel_rfl⟩
instance : FlT Try.prog 80 := ⟨by kernel_rfl⟩
instance : UT Try.prog 81 (TypeDesc.func #[70, 70, 5] #[70] false) := ⟨Try.underlying81⟩
instance : SzT Try.prog 81 1 := ⟨by kernel_rfl⟩
instance : ByT Try.prog 81 8 := ⟨by kernel_rfl⟩
instance : ZrT Try.prog 81 (#[Value.nilFunc]) := ⟨by kernel_rfl⟩
instance : FlT Try.prog 81 := ⟨by kernel_rfl⟩
instance : UT Try.prog 82 (TypeDesc.tuple #[63, 4]) := ⟨Try.underlying82⟩
instance : SzT Try.prog 82 1 := ⟨by kernel_rfl⟩
instance : ByT Try.prog 82 0 := ⟨by kernel_rfl⟩
instance : FlT Try.prog 82 := ⟨by kernel_rfl⟩
instance : UT Try.prog 83 (TypeDesc.func #[26] #[63, 4] false) := ⟨Try.underlying83⟩
instance : SzT Try.prog 83 1 := ⟨by kernel_rfl⟩
instance : ByT Try.prog 83 8 := ⟨by kernel_rfl⟩
instance : ZrT Try.prog 83 (#[Value.nilFunc]) := ⟨by kernel_rfl⟩
instance : FlT Try.prog 83 := ⟨by kernel_rfl⟩
instance : UT Try.prog 84 (TypeDesc.func #[26] #[35] false) := ⟨Try.underlying84⟩
instance : SzT Try.prog 84 1 := ⟨by kernel_rfl⟩
instance : ByT Try.prog 84 8 := ⟨by kernel_rfl⟩
instance : ZrT Try.prog 84 (#[Value.nilFunc]) := ⟨by kernel_rfl⟩
instance : FlT Try.prog 84 := ⟨by kernel_rfl⟩
instance : UT Try.prog 85 (TypeDesc.func #[76] #[] false) := ⟨Try.underlying85⟩
instance : SzT Try.prog 85 1 := ⟨by kernel_rfl⟩
instance : ByT Try.prog 85 8 := ⟨by kernel_rfl⟩
instance : ZrT Try.prog 85 (#[Value.nilFunc]) := ⟨by kernel_rfl⟩
instance : FlT Try.prog 85 := ⟨by kernel_rfl⟩
instance : UT Try.prog 86 (TypeDesc.array 32 5) := ⟨Try.underlying86⟩
instance : SzT Try.prog 86 32 := ⟨by kernel_rfl⟩
instance : ByT Try.prog 86 32 := ⟨by kernel_rfl⟩
instance : ZrT Try.prog 86 ((List.replicate 32 (Value.int .u8 0)).toArray) := ⟨by kernel_rfl⟩
instance : RwT Try.prog 86 32 := ⟨by kernel_rfl⟩
instance : UT Try.prog 87 (TypeDesc.array 32 5) := ⟨Try.underlying87⟩
instance : SzT Try.prog 87 32 := ⟨by kernel_rfl⟩
instance : ByT Try.prog 87 32 := ⟨by kernel_rfl⟩
instance : ZrT Try.prog 87 ((List.replicate 32 (Value.int .u8 0)).toArray) := ⟨by kernel_rfl⟩
instance : RwT Try.prog 87 32 := ⟨by kernel_rfl⟩
instance : UT Try.prog 88 (TypeDesc.func #[] #[87] false) := ⟨Try.underlying88⟩
instance : SzT Try.prog 88 1 := ⟨by kernel_rfl⟩
instance : ByT Try.prog 88 8 := ⟨by kernel_rfl⟩
instance : ZrT Try.prog 88 (#[Value.nilFunc]) := ⟨by kernel_rfl⟩
instance : FlT Try.prog 88 := ⟨by kernel_rfl⟩
instance : UT Try.prog 89 (TypeDesc.func #[76, 79] #[76] false) := ⟨Try.underlying89⟩
instance : SzT Try.prog 89 1 := ⟨by kernel_rfl⟩
instance : ByT Try.prog 89 8 := ⟨by kernel_rfl⟩
instance : ZrT Try.prog 89 (#[Value.nilFunc]) := ⟨by kernel_rfl⟩
instance : FlT Try.prog 89 := ⟨by kernel_rfl⟩
instance : UT Try.prog 90 (TypeDesc.func #[76, 3, 3, 3] #[] false) := ⟨Try.underlying90⟩
instance : SzT Try.prog 90 1 := ⟨by kernel_rfl⟩
instance : ByT Try.prog 90 8 := ⟨by kernel_rfl⟩
instance : ZrT Try.prog 90 (#[Value.nilFunc]) := ⟨by kernel_rfl⟩
instance : FlT Try.prog 90 := ⟨by kernel_rfl⟩
instance : UT Try.prog 91 (TypeDesc.func #[92] #[3] false) := ⟨Try.underlying91⟩
instance : SzT Try.prog 91 1 := ⟨by kernel_rfl⟩
instance : ByT Try.prog 91 8 := ⟨by kernel_rfl⟩
instance : ZrT Try.prog 91 (#[Value.nilFunc]) := ⟨by kernel_rfl⟩
instance : FlT Try.prog 91 := ⟨by kernel_rfl⟩
instance : UT Try.prog 92 (TypeDesc.int IntKind.u64) := ⟨Try.underlying92⟩
instance : SzT Try.prog 92 1 := ⟨by kernel_rfl⟩
instance : ByT Try.prog 92 8 := ⟨by kernel_rfl⟩
instance : ZrT Try.prog 92 (#[Value.int .u64 0]) := ⟨by kernel_rfl⟩
instance : FlT Try.prog 92 := ⟨by kernel_rfl⟩
instance : UT Try.prog 93 (TypeDesc.func #[26, 35] #[] false) := ⟨Try.underlying93⟩
instance : SzT Try.prog 93 1 := ⟨by kernel_rfl⟩
instance : ByT Try.prog 93 8 := ⟨by kernel_rfl⟩
instance : ZrT Try.prog 93 (#[Value.nilFunc]) := ⟨by kernel_rfl⟩
instance : FlT Try.prog 93 := ⟨by kernel_rfl⟩
instance : UT Try.prog 94 (TypeDesc.func #[76, 3, 3] #[] false) := ⟨Try.underlying94⟩
instance : SzT Try.prog 94 1 := ⟨by kernel_rfl⟩
instance : ByT Try.prog 94 8 := ⟨by kernel_rfl⟩
instance : ZrT Try.prog 94 (#[Value.nilFunc]) := ⟨by kernel_rfl⟩
instance : FlT Try.prog 94 := ⟨by kernel_rfl⟩
instance : UT Try.prog 95 (TypeDesc.int IntKind.i64) := ⟨Try.underlying95⟩
instance : SzT Try.prog 95 1 := ⟨by kernel_rfl⟩
instance : ByT Try.prog 95 8 := ⟨by kernel_rfl⟩
instance : ZrT Try.prog 95 (#[Value.int .i64 0]) := ⟨by kernel_rfl⟩
instance : FlT Try.prog 95 := ⟨by kernel_rfl⟩
instance : UT Try.prog 96 (TypeDesc.tuple #[3, 95]) := ⟨Try.underlying96⟩
instance : SzT Try.prog 96 1 := ⟨by kernel_rfl⟩
instance : ByT Try.prog 96 0 := ⟨by kernel_rfl⟩
instance : FlT Try.prog 96 := ⟨by kernel_rfl⟩
instance : UT Try.prog 97 (TypeDesc.func #[76, 3, 3] #[3, 95] false) := ⟨Try.underlying97⟩
instance : SzT Try.prog 97 1 := ⟨by kernel_rfl⟩
instance : ByT Try.prog 97 8 := ⟨by kernel_rfl⟩
instance : ZrT Try.prog 97 (#[Value.nilFunc]) := ⟨by kernel_rfl⟩
instance : FlT Try.prog 97 := ⟨by kernel_rfl⟩
instance : UT Try.prog 98 (TypeDesc.func #[76, 3, 3] #[4] false) := ⟨Try.underlying98⟩
instance : SzT Try.prog 98 1 := ⟨by kernel_rfl⟩
instance : ByT Try.prog 98 8 := ⟨by kernel_rfl⟩
instance : ZrT Try.prog 98 (#[Value.nilFunc]) := ⟨by kernel_rfl⟩
instance : FlT Try.prog 98 := ⟨by kernel_rfl⟩
instance : UT Try.prog 99 (TypeDesc.func #[3, 3] #[4] false) := ⟨Try.underlying99⟩
instance : SzT Try.prog 99 1 := ⟨by kernel_rfl⟩
instance : ByT Try.prog 99 8 := ⟨by kernel_rfl⟩
instance : ZrT Try.prog 99 (#[Value.nilFunc]) := ⟨by kernel_rfl⟩
instance : FlT Try.prog 99 := ⟨by kernel_rfl⟩
instance : UT Try.prog 100 (TypeDesc.func #[76, 3, 3, 3] #[3] false) := ⟨Try.underlying100⟩
instance : SzT Try.prog 100 1 := ⟨by kernel_rfl⟩
instance : ByT Try.prog 100 8 := ⟨by kernel_rfl⟩
instance : ZrT Try.prog 100 (#[Value.nilFunc]) := ⟨by kernel_rfl⟩
instance : FlT Try.prog 100 := ⟨by kernel_rfl⟩
instance : UT Try.prog 101 (TypeDesc.tuple #[3, 4]) := ⟨Try.underlying101⟩
instance : SzT Try.prog 101 1 := ⟨by kernel_rfl⟩
instance : ByT Try.prog 101 0 := ⟨by kernel_rfl⟩
instance : FlT Try.prog 101 := ⟨by kernel_rfl⟩
instance : UT Try.prog 102 (TypeDesc.func #[76, 3, 3, 3] #[3, 4] false) := ⟨Try.underlying102⟩
instance : SzT Try.prog 102 1 := ⟨by kernel_rfl⟩
instance : ByT Try.prog 102 8 := ⟨by kernel_rfl⟩
instance : ZrT Try.prog 102 (#[Value.nilFunc]) := ⟨by kernel_rfl⟩
instance : FlT Try.prog 102 := ⟨by kernel_rfl⟩
instance : UT Try.prog 103 (TypeDesc.func #[104] #[3] false) := ⟨Try.underlying103⟩
instance : SzT Try.prog 103 1 := ⟨by kernel_rfl⟩
instance : ByT Try.prog 103 8 := ⟨by kernel_rfl⟩
instance : ZrT Try.prog 103 (#[Value.nilFunc]) := ⟨by kernel_rfl⟩
instance : FlT Try.prog 103 := ⟨by kernel_rfl⟩
instance : UT Try.prog 104 (TypeDesc.int IntKind.u32) := ⟨Try.underlying104⟩
instance : SzT Try.prog 104 1 := ⟨by kernel_rfl⟩
instance : ByT Try.prog 104 4 := ⟨by kernel_rfl⟩
instance : ZrT Try.prog 104 (#[Value.int .u32 0]) := ⟨by kernel_rfl⟩
instance : FlT Try.prog 104 := ⟨by kernel_rfl⟩
instance : UT Try.prog 105 (TypeDesc.func #[35] #[3] false) := ⟨Try.underlying105⟩
instance : SzT Try.prog 105 1 := ⟨by kernel_rfl⟩
instance : ByT Try.prog 105 8 := ⟨by kernel_rfl⟩
instance : ZrT Try.prog 105 (#[Value.nilFunc]) := ⟨by kernel_rfl⟩
instance : FlT Try.prog 105 := ⟨by kernel_rfl⟩
instance : UT Try.prog 106 (TypeDesc.int IntKind.u64) := ⟨Try.underlying106⟩
instance : SzT Try.prog 106 1 := ⟨by kernel_rfl⟩
instance : ByT Try.prog 106 8 := ⟨by kernel_rfl⟩
instance : ZrT Try.prog 106 (#[Value.int .u64 0]) := ⟨by kernel_rfl⟩
instance : FlT Try.prog 106 := ⟨by kernel_rfl⟩
instance : UT Try.prog 107 (TypeDesc.func #[3] #[92] false) := ⟨Try.underlying107⟩
instance : SzT Try.prog 107 1 := ⟨by kernel_rfl⟩
instance : ByT Try.prog 107 8 := ⟨by kernel_rfl⟩
instance : ZrT Try.prog 107 (#[Value.nilFunc]) := ⟨by kernel_rfl⟩
instance : FlT Try.prog 107 := ⟨by kernel_rfl⟩
instance : UT Try.prog 108 (TypeDesc.func #[76, 3, 109] #[3] false) := ⟨Try.underlying108⟩
instance : SzT Try.prog 108 1 := ⟨by kernel_rfl⟩
instance : ByT Try.prog 108 8 := ⟨by kernel_rfl⟩
instance : ZrT Try.prog 108 (#[Value.nilFunc]) := ⟨by kernel_rfl⟩
instance : FlT Try.prog 108 := ⟨by kernel_rfl⟩
instance : UT Try.prog 109 (TypeDesc.pointer 3) := ⟨Try.underlying109⟩
instance : SzT Try.prog 109 1 := ⟨by kernel_rfl⟩
instance : ByT Try.prog 109 8 := ⟨by kernel_rfl⟩
instance : ZrT Try.prog 109 (#[Value.pointer none]) := ⟨by kernel_rfl⟩
instance : FlT Try.prog 109 := ⟨by kernel_rfl⟩
instance : UT Try.prog 110 (TypeDesc.func #[76, 3, 3, 3, 109] #[3] false) := ⟨Try.underlying110⟩
instance : SzT Try.prog 110 1 := ⟨by kernel_rfl⟩
instance : ByT Try.prog 110 8 := ⟨by kernel_rfl⟩
instance : ZrT Try.prog 110 (#[Value.nilFunc]) := ⟨by kernel_rfl⟩
instance : FlT Try.prog 110 := ⟨by kernel_rfl⟩
instance : UT Try.prog 111 (TypeDesc.pointer 106) := ⟨Try.underlying111⟩
instance : SzT Try.prog 111 1 := ⟨by kernel_rfl⟩
instance : ByT Try.prog 111 8 := ⟨by kernel_rfl⟩
instance : ZrT Try.prog 111 (#[Value.pointer none]) := ⟨by kernel_rfl⟩
instance : FlT Try.prog 111 := ⟨by kernel_rfl⟩
instance : UT Try.prog 112 (TypeDesc.tuple #[3, 3]) := ⟨Try.underlying112⟩
instance : SzT Try.prog 112 1 := ⟨by kernel_rfl⟩
instance : ByT Try.prog 112 0 := ⟨by kernel_rfl⟩
instance : FlT Try.prog 112 := ⟨by kernel_rfl⟩
instance : UT Try.prog 113 (TypeDesc.func #[76, 3, 3, 109] #[3, 3] false) := ⟨Try.underlying113⟩
instance : SzT Try.prog 113 1 := ⟨by kernel_rfl⟩
instance : ByT Try.prog 113 8 := ⟨by kernel_rfl⟩
instance : ZrT Try.prog 113 (#[Value.nilFunc]) := ⟨by kernel_rfl⟩
instance : FlT Try.prog 113 := ⟨by kernel_rfl⟩
instance : UT Try.prog 114 (TypeDesc.func #[] #[9] false) := ⟨Try.underlying114⟩
instance : SzT Try.prog 114 1 := ⟨by kernel_rfl⟩
instance : ByT Try.prog 114 8 := ⟨by kernel_rfl⟩
instance : ZrT Try.prog 114 (#[Value.nilFunc]) := ⟨by kernel_rfl⟩
instance : FlT Try.prog 114 := ⟨by kernel_rfl⟩
instance : UT Try.prog 115 (TypeDesc.struct #[{ name := "_interface", type := 17, offset := 0, embedded := false, tag := "", pkgPath := "runtime", byteOffset := 0 }, { name := "concrete", type := 17, offset := 1, embedded := false, tag := "", pkgPath := "runtime", byteOffset := 8 }, { name := "asserted", type := 17, offset := 2, embedded := false, tag := "", pkgPath := "runtime", byteOffset := 16 }, { name := "missingMethod", type := 9, offset := 3, embedded := false, tag := "", pkgPath := "runtime", byteOffset := 24 }]) := ⟨Try.underlying115⟩
instance : SzT Try.prog 115 4 := ⟨by kernel_rfl⟩
instance : ByT Try.prog 115 40 := ⟨by kernel_rfl⟩
instance : ZrT Try.prog 115 (#[Value.pointer none, Value.pointer none, Value.pointer none, Value.string ByteArray.empty]) := ⟨by kernel_rfl⟩
instance : RwT Try.prog 115 4 := ⟨by kernel_rfl⟩
instance : PlT Try.prog 115 [(0, 1), (1, 1), (2, 1), (3, 1)] := ⟨by kernel_rfl⟩
instance : UT Try.prog 116 (TypeDesc.struct #[{ name := "_interface", type := 17, offset := 0, embedded := false, tag := "", pkgPath := "runtime", byteOffset := 0 }, { name := "concrete", type := 17, offset := 1, embedded := false, tag := "", pkgPath := "runtime", byteOffset := 8 }, { name := "asserted", type := 17, offset := 2, embedded := false, tag := "", pkgPath := "runtime", byteOffset := 16 }, { name := "missingMethod", type := 9, offset := 3, embedded := false, tag := "", pkgPath := "runtime", byteOffset := 24 }]) := ⟨Try.underlying116⟩
instance : SzT Try.prog 116 4 := ⟨by kernel_rfl⟩
instance : ByT Try.prog 116 40 := ⟨by kernel_rfl⟩
instance : ZrT Try.prog 116 (#[Value.pointer none, Value.pointer none, Value.pointer none, Value.string ByteArray.empty]) := ⟨by kernel_rfl⟩
instance : RwT Try.prog 116 4 := ⟨by kernel_rfl⟩
instance : PlT Try.prog 116 [(0, 1), (1, 1), (2, 1), (3, 1)] := ⟨by kernel_rfl⟩
instance : UT Try.prog 117 (TypeDesc.array 0 16) := ⟨Try.underlying117⟩
instance : SzT Try.prog 117 0 := ⟨by kernel_rfl⟩
instance : ByT Try.prog 117 0 := ⟨by kernel_rfl⟩
instance : ZrT Try.prog 117 (#[]) := ⟨by kernel_rfl⟩
instance : RwT Try.prog 117 0 := ⟨by kernel_rfl⟩
instance : UT Try.prog 118 (TypeDesc.struct #[{ name := "_", type := 117, offset := 0, embedded := false, tag := "", pkgPath := "runtime", byteOffset := 0 }]) := ⟨Try.underlying118⟩
instance : SzT Try.prog 118 0 := ⟨by kernel_rfl⟩
instance : ByT Try.prog 118 0 := ⟨by kernel_rfl⟩
instance : ZrT Try.prog 118 (#[]) := ⟨by kernel_rfl⟩
instance : RwT Try.prog 118 0 := ⟨by kernel_rfl⟩
instance : PlT Try.prog 118 [(0, 0)] := ⟨by kernel_rfl⟩
instance : UT Try.prog 119 (TypeDesc.struct #[{ name := "_", type := 117, offset := 0, embedded := false, tag := "", pkgPath := "runtime", byteOffset := 0 }]) := ⟨Try.underlying119⟩
instance : SzT Try.prog 119 0 := ⟨by kernel_rfl⟩
instance : ByT Try.prog 119 0 := ⟨by kernel_rfl⟩
instance : ZrT Try.prog 119 (#[]) := ⟨by kernel_rfl⟩
instance : RwT Try.prog 119 0 := ⟨by kernel_rfl⟩
instance : PlT Try.prog 119 [(0, 0)] := ⟨by kernel_rfl⟩
instance : UT Try.prog 120 (TypeDesc.int IntKind.u8) := ⟨Try.underlying120⟩
instance : SzT Try.prog 120 1 := ⟨by kernel_rfl⟩
instance : ByT Try.prog 120 1 := ⟨by kernel_rfl⟩
instance : ZrT Try.prog 120 (#[Value.int .u8 0]) := ⟨by kernel_rfl⟩
instance : FlT Try.prog 120 := ⟨by kernel_rfl⟩
instance : UT Try.prog 121 (TypeDesc.int IntKind.u8) := ⟨Try.underlying121⟩
instance : SzT Try.prog 121 1 := ⟨by kernel_rfl⟩
instance : ByT Try.prog 121 1 := ⟨by kernel_rfl⟩
instance : ZrT Try.prog 121 (#[Value.int .u8 0]) := ⟨by kernel_rfl⟩
instance : FlT Try.prog 121 := ⟨by kernel_rfl⟩
instance : UT Try.prog 122 (TypeDesc.func #[128, 128] #[4] false) := ⟨Try.underlying122⟩
instance : SzT Try.prog 122 1 := ⟨by kernel_rfl⟩
instance : ByT Try.prog 122 8 := ⟨by kernel_rfl⟩
instance : ZrT Try.prog 122 (#[Value.nilFunc]) := ⟨by kernel_rfl⟩
instance : FlT Try.prog 122 := ⟨by kernel_rfl⟩
instance : UT Try.prog 123 (TypeDesc.pointer 5) := ⟨Try.underlying123⟩
instance : SzT Try.prog 123 1 := ⟨by kernel_rfl⟩
instance : ByT Try.prog 123 8 := ⟨by kernel_rfl⟩
instance : ZrT Try.prog 123 (#[Value.pointer none]) := ⟨by kernel_rfl⟩
instance : FlT Try.prog 123 := ⟨by kernel_rfl⟩
instance : UT Try.prog 124 (TypeDesc.int IntKind.i32) := ⟨Try.underlying124⟩
instance : SzT Try.prog 124 1 := ⟨by kernel_rfl⟩
instance : ByT Try.prog 124 4 := ⟨by kernel_rfl⟩
instance : ZrT Try.prog 124 (#[Value.int .i32 0]) := ⟨by kernel_rfl⟩
instance : FlT Try.prog 124 := ⟨by kernel_rfl⟩
instance : UT Try.prog 125 (TypeDesc.int IntKind.i32) := ⟨Try.underlying125⟩
instance : SzT Try.prog 125 1 := ⟨by kernel_rfl⟩
instance : ByT Try.prog 125 4 := ⟨by kernel_rfl⟩
instance : ZrT Try.prog 125 (#[Value.int .i32 0]) := ⟨by kernel_rfl⟩
instance : FlT Try.prog 125 := ⟨by kernel_rfl⟩
instance : UT Try.prog 126 (TypeDesc.struct #[{ name := "Size_", type := 12, offset := 0, embedded := false, tag := "", pkgPath := "", byteOffset := 0 }, { name := "PtrBytes", type := 12, offset := 1, embedded := false, tag := "", pkgPath := "", byteOffset := 8 }, { name := "Hash", type := 104, offset := 2, embedded := false, tag := "", pkgPath := "", byteOffset := 16 }, { name := "TFlag", type := 120, offset := 3, embedded := false, tag := "", pkgPath := "", byteOffset := 20 }, { name := "Align_", type := 5, offset := 4, embedded := false, tag := "", pkgPath := "", byteOffset := 21 }, { name := "FieldAlign_", type := 5, offset := 5, embedded := false, tag := "", pkgPath := "", byteOffset := 22 }, { name := "Kind_", type := 121, offset := 6, embedded := false, tag := "", pkgPath := "", byteOffset := 23 }, { name := "Equal", type := 122, offset := 7, embedded := false, tag := "", pkgPath := "", byteOffset := 24 }, { name := "GCData", type := 123, offset := 8, embedded := false, tag := "", pkgPath := "", byteOffset := 32 }, { name := "Str", type := 124, offset := 9, embedded := false, tag := "", pkgPath := "", byteOffset := 40 }, { name := "PtrToThis", type := 125, offset := 10, embedded := false, tag := "", pkgPath := "", byteOffset := 44 }]) := ⟨Try.underlying126⟩
instance : SzT Try.prog 126 11 := ⟨by kernel_rfl⟩
instance : ByT Try.prog 126 48 := ⟨by kernel_rfl⟩
instance : ZrT Try.prog 126 (#[Value.int .u64 0, Value.int .u64 0, Value.int .u32 0, Value.int .u8 0, Value.int .u8 0, Value.int .u8 0, Value.int .u8 0, Value.nilFunc, Value.pointer none, Value.int .i32 0, Value.int .i32 0]) := ⟨by kernel_rfl⟩
instance : RwT Try.prog 126 11 := ⟨by kernel_rfl⟩
instance : PlT Try.prog 126 [(0, 1), (1, 1), (2, 1), (3, 1), (4, 1), (5, 1), (6, 1), (7, 1), (8, 1), (9, 1), (10, 1)] := ⟨by kernel_rfl⟩
instance : UT Try.prog 127 (TypeDesc.struct #[{ name := "Size_", type := 12, offset := 0, embedded := false, tag := "", pkgPath := "", byteOffset := 0 }, { name := "PtrBytes", type := 12, offset := 1, embedded := false, tag := "", pkgPath := "", byteOffset := 8 }, { name := "Hash", type := 104, offset := 2, embedded := false, tag := "", pkgPath := "", byteOffset := 16 }, { name := "TFlag", type := 120, offset := 3, embedded := false, tag := "", pkgPath := "", byteOffset := 20 }, { name := "Align_", type := 5, offset := 4, embedded := false, tag := "", pkgPath := "", byteOffset := 21 }, { name := "FieldAlign_", type := 5, offset := 5, embedded := false, tag := "", pkgPath := "", byteOffset := 22 }, { name := "Kind_", type := 121, offset := 6, embedded := false, tag := "", pkgPath := "", byteOffset := 23 }, { name := "Equal", type := 122, offset := 7, embedded := false, tag := "", pkgPath := "", byteOffset := 24 }, { name := "GCData", type := 123, offset := 8, embedded := false, tag := "", pkgPath := "", byteOffset := 32 }, { name := "Str", type := 124, offset := 9, embedded := false, tag := "", pkgPath := "", byteOffset := 40 }, { name := "PtrToThis", type := 125, offset := 10, embedded := false, tag := "", pkgPath := "", byteOffset := 44 }]) := ⟨Try.underlying127⟩
instance : SzT Try.prog 127 11 := ⟨by kernel_rfl⟩
instance : ByT Try.prog 127 48 := ⟨by kernel_rfl⟩
instance : ZrT Try.prog 127 (#[Value.int .u64 0, Value.int .u64 0, Value.int .u32 0, Value.int .u8 0, Value.int .u8 0, Value.int .u8 0, Value.int .u8 0, Value.nilFunc, Value.pointer none, Value.int .i32 0, Value.int .i32 0]) := ⟨by kernel_rfl⟩
instance : RwT Try.prog 127 11 := ⟨by kernel_rfl⟩
instance : PlT Try.prog 127 [(0, 1), (1, 1), (2, 1), (3, 1), (4, 1), (5, 1), (6, 1), (7, 1), (8, 1), (9, 1), (10, 1)] := ⟨by kernel_rfl⟩
instance : UT Try.prog 128 TypeDesc.unsafePointer := ⟨Try.underlying128⟩
instance : SzT Try.prog 128 1 := ⟨by kernel_rfl⟩
instance : ByT Try.prog 128 8 := ⟨by kernel_rfl⟩
instance : ZrT Try.prog 128 (#[Value.pointer none]) := ⟨by kernel_rfl⟩
instance : FlT Try.prog 128 := ⟨by kernel_rfl⟩
theorem mixed : Try.prog.follows .mixedOrders = true := by kernel_rfl
end Go.Proofs.Ytaccldkgopeggaa
namespace Go.Proofs.Ytaccldkgopeggaa
open Go Go.RowKit
set_option linter.unusedVariables false
set_option linter.unusedSimpArgs false
def secE (f : Nat → Int) : List Value := (List.range 64).map fun j => .int .u8 (f j)
def secV (f : Nat → Int) : Value := .agg (secE f).toArray
theorem secE_len (f : Nat → Int) : (secE f).length = 64 := by simp [secE]
theorem secE_one (f : Nat → Int) : allOne (secE f) = true := by
  unfold secE
  generalize List.range 64 = l
  induction l with
  | nil => rfl
  | cons x l ih => simpa [allOne, Value.oneCell'] using ih
structure Dk where
  secs : List (Nat → Int)
  M : List (ME (Nat → Int))
  cl : Nat
  fused : Bool
  fuse : Int
  gone : Bool
def Dk.new (n : Nat) : Dk := ⟨List.replicate n (fun _ => 0), [], 0, false, 0, false⟩
def Dk.pgone (D : Dk) : Bool := D.gone || (D.fused && D.fuse == 0)
abbrev DskL (gd gw gm : Nat) (D : Dk) : List Chunk := [.blk gd (.cells #[.slice (some ⟨gw, 0, none⟩) D.secs.length D.secs.length, .map (some gm), .bool D.fused, .int .i64 D.fuse, .bool D.gone] 61 (0, 0)), .blk gw (.cells (D.secs.flatMap secE).toArray 70 (0, 0)), .blk gm (.map (mEs secV D.M) D.cl)]
theorem feetD {gd gw gm : Nat} {D : Dk} : feet (DskL gd gw gm D) = [gd, gw, gm] := rfl
set_option maxRecDepth 100000 in
set_option maxHeartbeats 4000000 in
theorem has_t (gd : Nat) (n : Nat) (s : Option Addr) (c : Nat) (vs : List Value) (i : Int) (w : World) (hO : Old w gd 0 (.slice s n c :: vs)) (hi : 0 ≤ i ∧ i < n) : CA Try.prog 36 [.pointer (some ⟨gd, 0, none⟩), .int .i64 i] w (RV (.bool true) w) := by
  refine enter (L := []) (X := []) Try.func36 rfl Try.ntmps36 rfl rfl (Has.nil _) ?_
  repeat (first | refine c_seq ?_ | (refine c_region (id := 0) ?_; refine sq qa ?_; refine l_nil ?_) | (refine c_region (id := 1) ?_; refine sq qm ?_; refine sq (by first | exact dgeqt | exact dgeqf) ?_; refine sq qm ?_; (first | refine sk ?_ | refine skv ?_ | (refine st_want rfl rfl ?_; refine sq qm ?_)); (first | refine sk ?_ | refine skv ?_ | (refine st_want rfl rfl ?_; refine sq qm ?_)); (first | refine sk ?_ | refine skv ?_ | (refine st_want rfl rfl ?_; refine sq qn ?_)); (first | refine sk ?_ | refine skv ?_ | (refine st_want rfl rfl ?_; refine sq qf ?_)); (first | refine sk ?_ | refine skv ?_ | (refine st_want rfl rfl ?_; refine sq (by exact ql (hr := Rd.oldn (j := 0) hO (by rfl) (by simp))) ?_)); (first | refine sk ?_ | refine skv ?_ | (refine st_want rfl rfl ?_; refine sq qls ?_)); (first | refine sk ?_ | refine skv ?_ | (refine st_want rfl rfl ?_; refine sq (by first | exact dlsst | exact dlssf) ?_)); refine sq (by first | exact qpt | exact qpf) ?_; refine sq qa ?_; refine l_nil ?_) | refine n_then ?_ | refine c_block ?_ | refine c_skip ?_ | refine n_block ?_ | refine c_exit ?_ | refine n_then_exit ?_ | refine n_block_eq ?_ | refine n_block_ne rfl ?_ | refine c_ret ?_ | refine n_then_ret ?_ | refine n_block_ret ?_ | refine c_cond_t rfl ?_ | refine c_cond_f rfl ?_ | refine r_succ ?_ )
  (first | apply r_ret () | apply r_end ()); exact rfl; exact rfl; exact (.tmp rfl .nil); exact rfl; exact (List.nil_sublist _); exact new_nil; exact trivial
set_option maxRecDepth 100000 in
set_option maxHeartbeats 4000000 in
theorem pow_c (gd gm : Nat) (s : Value) (fu go : Bool) (fz : Int) (hf : 0 ≤ fz ∧ fz ≤ 9223372036854775807) (w : World) (hL0 : Has [.blk gd (.cells #[s, .map (some gm), .bool fu, .int .i64 fz, .bool go] 61 (0, 0))] w) :
    CA Try.prog 37 [.pointer (some ⟨gd, 0, none⟩)] w (RU (.bool (!(go || (fu && fz == 0)))) gd (.cells #[s, .map (some gm), .bool fu, .int .i64 (if go || (fu && fz == 0) then fz else if fu then fz - 1 else fz), .bool (go || (fu && fz == 0))] 61 (0, 0)) w) := by
  cases fu with
  | false =>
    simp only [Bool.false_and, Bool.or_false, Bool.false_eq_true, if_false, ite_self]
    cases go with
    | true =>
      refine enter (L := [.blk gd (.cells #[s, .map (some gm), .bool false, .int .i64 fz, .bool true] 61 (0, 0))]) (X := [gd]) Try.func37 rfl Try.ntmps37 rfl rfl hL0 ?_
      repeat (first | refine c_seq ?_ | (refine c_region (id := 0) ?_; refine sq qa ?_; refine l_nil ?_) | (refine c_region (id := 1) ?_; refine sq qm ?_; refine sq qn ?_; refine sq qf ?_; refine sq ql ?_; refine sq qm ?_; (first | refine sk ?_ | refine skv ?_ | (refine st_want rfl rfl ?_; refine sq qm ?_)); (first | refine sk ?_ | refine skv ?_ | (refine st_want rfl rfl ?_; refine sq qn ?_)); (first | refine sk ?_ | refine skv ?_ | (refine st_want rfl rfl ?_; refine sq qf ?_)); (first | refine sk ?_ | refine skv ?_ | (refine st_want rfl rfl ?_; refine sq ql ?_)); (first | refine sk ?_ | refine skv ?_ | (refine st_want rfl rfl ?_; refine sq (by first | exact deqlt | exact deqlf) ?_)); refine sq (by first | exact qpt | exact qpf) ?_; refine l_nil ?_) | (refine c_region (id := 3) ?_; refine sq qm ?_; refine sq qn ?_; refine sq qf ?_; refine sq ql ?_; refine l_nil ?_) | (refine c_region (id := 4) ?_; refine sq qa ?_; refine l_nil ?_) | refine n_then ?_ | refine c_block ?_ | refine c_skip ?_ | refine n_block ?_ | refine c_exit ?_ | refine n_then_exit ?_ | refine n_block_eq ?_ | refine n_block_ne rfl ?_ | refine c_ret ?_ | refine n_then_ret ?_ | refine n_block_ret ?_ | refine c_cond_t rfl ?_ | refine c_cond_f rfl ?_ | refine r_succ ?_ )
      (first | apply r_ret () | apply r_end ()); exact rfl; exact rfl; exact (.tmp rfl .nil); exact rfl; exact (by exact (by (repeat (first | exact List.nil_sublist _ | exact List.Sublist.slnil | apply List.Sublist.cons_cons | exact List.Sublist.refl _ | apply List.Sublist.cons)))); exact (by intro g hg; simp [feet, Chunk.foot] at hg; exact .inl (by simp [hg])); exact trivial
    | false =>
      refine enter (L := [.blk gd (.cells #[s, .map (some gm), .bool false, .int .i64 fz, .bool false] 61 (0, 0))]) (X := [gd]) Try.func37 rfl Try.ntmps37 rfl rfl hL0 ?_
      repeat (first | refine c_seq ?_ | (refine c_region (id := 0) ?_; refine sq qa ?_; refine l_nil ?_) | (refine c_region (id := 1) ?_; refine sq qm ?_; refine sq qn ?_; refine sq qf ?_; refine sq ql ?_; refine sq qm ?_; (first | refine sk ?_ | refine skv ?_ | (refine st_want rfl rfl ?_; refine sq qm ?_)); (first | refine sk ?_ | refine skv ?_ | (refine st_want rfl rfl ?_; refine sq qn ?_)); (first | refine sk ?_ | refine skv ?_ | (refine st_want rfl rfl ?_; refine sq qf ?_)); (first | refine sk ?_ | refine skv ?_ | (refine st_want rfl rfl ?_; refine sq ql ?_)); (first | refine sk ?_ | refine skv ?_ | (refine st_want rfl rfl ?_; refine sq (by first | exact deqlt | exact deqlf) ?_)); refine sq (by first | exact qpt | exact qpf) ?_; refine l_nil ?_) | (refine c_region (id := 3) ?_; refine sq qm ?_; refine sq qn ?_; refine sq qf ?_; refine sq ql ?_; refine l_nil ?_) | (refine c_region (id := 5) ?_; refine sq qm ?_; refine sq qn ?_; refine sq qf ?_; refine sq ql ?_; refine l_nil ?_) | (refine c_region (id := 7) ?_; refine sq qa ?_; refine l_nil ?_) | refine n_then ?_ | refine c_block ?_ | refine c_skip ?_ | refine n_block ?_ | refine c_exit ?_ | refine n_then_exit ?_ | refine n_block_eq ?_ | refine n_block_ne rfl ?_ | refine c_ret ?_ | refine n_then_ret ?_ | refine n_block_ret ?_ | refine c_cond_t rfl ?_ | refine c_cond_f rfl ?_ | refine r_succ ?_ )
      (first | apply r_ret () | apply r_end ()); exact rfl; exact rfl; exact (.tmp rfl .nil); exact rfl; exact (by exact (by (repeat (first | exact List.nil_sublist _ | exact List.Sublist.slnil | apply List.Sublist.cons_cons | exact List.Sublist.refl _ | apply List.Sublist.cons)))); exact (by intro g hg; simp [feet, Chunk.foot] at hg; exact .inl (by simp [hg])); exact trivial
  | true =>
    simp only [Bool.true_and, if_true]
    by_cases hz : fz = 0
    · have e : (fz == 0) = true := by simpa using hz
      rw [e]
      simp only [Bool.or_true, if_true, Bool.not_true]
      cases go with
      | true =>
        refine enter (L := [.blk gd (.cells #[s, .map (some gm), .bool true, .int .i64 fz, .bool true] 61 (0, 0))]) (X := [gd]) Try.func37 rfl Try.ntmps37 rfl rfl hL0 ?_
        repeat (first | refine c_seq ?_ | (refine c_region (id := 0) ?_; refine sq qa ?_; refine l_nil ?_) | (refine c_region (id := 1) ?_; refine sq qm ?_; refine sq qn ?_; refine sq qf ?_; refine sq ql ?_; refine sq qm ?_; (first | refine sk ?_ | refine skv ?_ | (refine st_want rfl rfl ?_; refine sq qm ?_)); (first | refine sk ?_ | refine skv ?_ | (refine st_want rfl rfl ?_; refine sq qn ?_)); (first | refine sk ?_ | refine skv ?_ | (refine st_want rfl rfl ?_; refine sq qf ?_)); (first | refine sk ?_ | refine skv ?_ | (refine st_want rfl rfl ?_; refine sq ql ?_)); (first | refine sk ?_ | refine skv ?_ | (refine st_want rfl rfl ?_; refine sq (by first | exact deqlt | exact deqlf) ?_)); refine sq (by first | exact qpt | exact qpf) ?_; refine l_nil ?_) | (refine c_region (id := 2) ?_; refine sq qm ?_; refine sq qn ?_; refine sq qf ?_; refine se ?_; refine es1 ?_ (hg := .inl (by simp)); refine l_nil ?_) | (refine c_region (id := 3) ?_; refine sq qm ?_; refine sq qn ?_; refine sq qf ?_; refine sq ql ?_; refine l_nil ?_) | (refine c_region (id := 4) ?_; refine sq qa ?_; refine l_nil ?_) | refine n_then ?_ | refine c_block ?_ | refine c_skip ?_ | refine n_block ?_ | refine c_exit ?_ | refine n_then_exit ?_ | refine n_block_eq ?_ | refine n_block_ne rfl ?_ | refine c_ret ?_ | refine n_then_ret ?_ | refine n_block_ret ?_ | refine c_cond_t rfl ?_ | refine c_cond_f rfl ?_ | refine r_succ ?_ )
        (first | apply r_ret () | apply r_end ()); exact rfl; exact rfl; exact (.tmp rfl .nil); exact rfl; exact (by exact (by (repeat (first | exact List.nil_sublist _ | exact List.Sublist.slnil | apply List.Sublist.cons_cons | exact List.Sublist.refl _ | apply List.Sublist.cons)))); exact (by intro g hg; simp [feet, Chunk.foot] at hg; exact .inl (by simp [hg])); exact trivial
      | false =>
        refine enter (L := [.blk gd (.cells #[s, .map (some gm), .bool true, .int .i64 fz, .bool false] 61 (0, 0))]) (X := [gd]) Try.func37 rfl Try.ntmps37 rfl rfl hL0 ?_
        repeat (first | refine c_seq ?_ | (refine c_region (id := 0) ?_; refine sq qa ?_; refine l_nil ?_) | (refine c_region (id := 1) ?_; refine sq qm ?_; refine sq qn ?_; refine sq qf ?_; refine sq ql ?_; refine sq qm ?_; (first | refine sk ?_ | refine skv ?_ | (refine st_want rfl rfl ?_; refine sq qm ?_)); (first | refine sk ?_ | refine skv ?_ | (refine st_want rfl rfl ?_; refine sq qn ?_)); (first | refine sk ?_ | refine skv ?_ | (refine st_want rfl rfl ?_; refine sq qf ?_)); (first | refine sk ?_ | refine skv ?_ | (refine st_want rfl rfl ?_; refine sq ql ?_)); (first | refine sk ?_ | refine skv ?_ | (refine st_want rfl rfl ?_; refine sq (by first | exact deqlt | exact deqlf) ?_)); refine sq (by first | exact qpt | exact qpf) ?_; refine l_nil ?_) | (refine c_region (id := 2) ?_; refine sq qm ?_; refine sq qn ?_; refine sq qf ?_; refine se ?_; refine es1 ?_ (hg := .inl (by simp)); refine l_nil ?_) | (refine c_region (id := 3) ?_; refine sq qm ?_; refine sq qn ?_; refine sq qf ?_; refine sq ql ?_; refine l_nil ?_) | (refine c_region (id := 4) ?_; refine sq qa ?_; refine l_nil ?_) | refine n_then ?_ | refine c_block ?_ | refine c_skip ?_ | refine n_block ?_ | refine c_exit ?_ | refine n_then_exit ?_ | refine n_block_eq ?_ | refine n_block_ne rfl ?_ | refine c_ret ?_ | refine n_then_ret ?_ | refine n_block_ret ?_ | refine c_cond_t rfl ?_ | refine c_cond_f rfl ?_ | refine r_succ ?_ )
        (first | apply r_ret () | apply r_end ()); exact rfl; exact rfl; exact (.tmp rfl .nil); exact rfl; exact (by exact (by (repeat (first | exact List.nil_sublist _ | exact List.Sublist.slnil | apply List.Sublist.cons_cons | exact List.Sublist.refl _ | apply List.Sublist.cons)))); exact (by intro g hg; simp [feet, Chunk.foot] at hg; exact .inl (by simp [hg])); exact trivial
    · have e : (fz == 0) = false := by simpa using hz
      rw [e]
      simp only [Bool.or_false]
      cases go with
      | true =>
        simp only [if_true, Bool.not_true]
        refine enter (L := [.blk gd (.cells #[s, .map (some gm), .bool true, .int .i64 fz, .bool true] 61 (0, 0))]) (X := [gd]) Try.func37 rfl Try.ntmps37 rfl rfl hL0 ?_
        repeat (first | refine c_seq ?_ | (refine c_region (id := 0) ?_; refine sq qa ?_; refine l_nil ?_) | (refine c_region (id := 1) ?_; refine sq qm ?_; refine sq qn ?_; refine sq qf ?_; refine sq ql ?_; refine sq qm ?_; (first | refine sk ?_ | refine skv ?_ | (refine st_want rfl rfl ?_; refine sq qm ?_)); (first | refine sk ?_ | refine skv ?_ | (refine st_want rfl rfl ?_; refine sq qn ?_)); (first | refine sk ?_ | refine skv ?_ | (refine st_want rfl rfl ?_; refine sq qf ?_)); (first | refine sk ?_ | refine skv ?_ | (refine st_want rfl rfl ?_; refine sq ql ?_)); (first | refine sk ?_ | refine skv ?_ | (refine st_want rfl rfl ?_; refine sq (by first | exact deqlt | exact deqlf) ?_)); refine sq (by first | exact qpt | exact qpf) ?_; refine l_nil ?_) | (refine c_region (id := 3) ?_; refine sq qm ?_; refine sq qn ?_; refine sq qf ?_; refine sq ql ?_; refine l_nil ?_) | (refine c_region (id := 4) ?_; refine sq qa ?_; refine l_nil ?_) | refine n_then ?_ | refine c_block ?_ | refine c_skip ?_ | refine n_block ?_ | refine c_exit ?_ | refine n_then_exit ?_ | refine n_block_eq ?_ | refine n_block_ne rfl ?_ | refine c_ret ?_ | refine n_then_ret ?_ | refine n_block_ret ?_ | refine c_cond_t rfl ?_ | refine c_cond_f rfl ?_ | refine r_succ ?_ )
        (first | apply r_ret () | apply r_end ()); exact rfl; exact rfl; exact (.tmp rfl .nil); exact rfl; exact (by exact (by (repeat (first | exact List.nil_sublist _ | exact List.Sublist.slnil | apply List.Sublist.cons_cons | exact List.Sublist.refl _ | apply List.Sublist.cons)))); exact (by intro g hg; simp [feet, Chunk.foot] at hg; exact .inl (by simp [hg])); exact trivial
      | false =>
        simp only [Bool.false_eq_true, if_false, Bool.not_false]
        refine enter (L := [.blk gd (.cells #[s, .map (some gm), .bool true, .int .i64 fz, .bool false] 61 (0, 0))]) (X := [gd]) Try.func37 rfl Try.ntmps37 rfl rfl hL0 ?_
        repeat (first | refine c_seq ?_ | (refine c_region (id := 0) ?_; refine sq qa ?_; refine l_nil ?_) | (refine c_region (id := 1) ?_; refine sq qm ?_; refine sq qn ?_; refine sq qf ?_; refine sq ql ?_; refine sq qm ?_; (first | refine sk ?_ | refine skv ?_ | (refine st_want rfl rfl ?_; refine sq qm ?_)); (first | refine sk ?_ | refine skv ?_ | (refine st_want rfl rfl ?_; refine sq qn ?_)); (first | refine sk ?_ | refine skv ?_ | (refine st_want rfl rfl ?_; refine sq qf ?_)); (first | refine sk ?_ | refine skv ?_ | (refine st_want rfl rfl ?_; refine sq ql ?_)); (first | refine sk ?_ | refine skv ?_ | (refine st_want rfl rfl ?_; refine sq (by first | exact deqlt | exact deqlf) ?_)); refine sq (by first | exact qpt | exact qpf) ?_; refine l_nil ?_) | (refine c_region (id := 3) ?_; refine sq qm ?_; refine sq qn ?_; refine sq qf ?_; refine sq ql ?_; refine l_nil ?_) | (refine c_region (id := 5) ?_; refine sq qm ?_; refine sq qn ?_; refine sq qf ?_; refine sq ql ?_; refine l_nil ?_) | (refine c_region (id := 6) ?_; refine sq qm ?_; refine sq qn ?_; refine sq qf ?_; refine sq ql ?_; refine sq qsub64 ?_; refine sq qn ?_; refine sq qf ?_; refine se ?_; refine es1 ?_ (hg := .inl (by simp)); refine l_nil ?_) | (refine c_region (id := 7) ?_; refine sq qa ?_; refine l_nil ?_) | refine n_then ?_ | refine c_block ?_ | refine c_skip ?_ | refine n_block ?_ | refine c_exit ?_ | refine n_then_exit ?_ | refine n_block_eq ?_ | refine n_block_ne rfl ?_ | refine c_ret ?_ | refine n_then_ret ?_ | refine n_block_ret ?_ | refine c_cond_t rfl ?_ | refine c_cond_f rfl ?_ | refine r_succ ?_ )
        (first | apply r_ret () | apply r_end ()); exact rfl; exact rfl; exact (.tmp rfl .nil); exact rfl; exact (by exact (by (repeat (first | exact List.nil_sublist _ | exact List.Sublist.slnil | apply List.Sublist.cons_cons | exact List.Sublist.refl _ | apply List.Sublist.cons)))); exact (by intro g hg; simp [feet, Chunk.foot] at hg; exact .inl (by simp [hg])); exact trivial
theorem slblkZ {n m : Nat} {T : List (Nat × Value)} {X : List Nat} {w0 : World} {L L' : List Chunk} {F : Act → World → Prop} {e : TypeId} {g cap sz : Nat} {xs : List Value} (hc : xs.length = cap * sz) (hp : Pl (.sl (some ⟨g, 0, none⟩) cap e sz xs) (.blk g (.cells xs.toArray e (0, 0))) L L') (h : ∀ a w, SS n T X w0 m L' a w → F a w) : ∀ a w, SS n T X w0 m L a w → F a w := by
  intro a w hs
  have hk := hs.has.ok _ hp.mem
  refine h a w ⟨hs.agr, hs.ch, hs.size, Has.repl hp hs.has (fun g hg => .inl (by simpa [Chunk.foot] using hg)) ?_ (fun _ _ _ => rfl)⟩
  simp only [Chunk.ok] at hk ⊢
  rcases hk with ⟨h1, _⟩ | ⟨g', cs, h1, h2, h3, h4⟩
  · cases h1
  · simp only [Option.some.injEq, Addr.mk.injEq, and_true] at h1
    subst h1
    rw [h2]
    congr 2
    have h5 : cs.toList = xs := by
      rw [← h4, List.take_of_length_le (by simp; omega)]
    rw [← h5, Array.toArray_toList]
theorem zsec : secE (fun _ => 0) = List.replicate 64 (.int .u8 0) := rfl
theorem madeSec (n : Nat) : (madeCells (List.replicate 64 (Value.int .u8 0)).toArray (n * 64)).toList = (List.replicate n (fun _ : Nat => (0 : Int))).flatMap secE := by
  have h1 : (madeCells (List.replicate 64 (Value.int .u8 0)).toArray (n * 64)).toList = List.replicate (n * 64) (.int .u8 0) := by
    rw [List.eq_replicate_iff]
    refine ⟨by simp [madeCells], fun b hb => ?_⟩
    simp only [madeCells, Array.toList_map, List.mem_map] at hb
    obtain ⟨i, _, rfl⟩ := hb
    have hlt : i % (List.replicate 64 (Value.int .u8 0)).toArray.size < (List.replicate 64 (Value.int .u8 0)).toArray.size := Nat.mod_lt _ (by simp)
    rw [getElem!_pos (List.replicate 64 (Value.int .u8 0)).toArray (i % _) hlt]
    simp only [List.getElem_toArray, List.getElem_replicate]
  rw [h1]
  symm
  rw [List.eq_replicate_iff]
  refine ⟨by rw [flat_len secE_len]; simp, fun b hb => ?_⟩
  obtain ⟨f, hf, hb⟩ := List.mem_flatMap.1 hb
  rw [List.eq_of_mem_replicate hf, zsec] at hb
  exact List.eq_of_mem_replicate hb
set_option maxRecDepth 100000 in
set_option maxHeartbeats 4000000 in
theorem newd_c (n : Nat) (hn : n ≤ 16384) (w : World) :
    CA Try.prog 8 [.int .i64 (n : Int)] w (Ret (fun z : Nat × Nat × Nat => .pointer (some ⟨z.1, 0, none⟩)) [] (fun z => DskL z.1 z.2.1 z.2.2 (Dk.new n)) (fun _ => True) w) := by
  refine enter (L := []) (X := []) Try.func8 rfl Try.ntmps8 rfl rfl (Has.nil _) ?_
  repeat (first | refine c_seq ?_ | (refine c_region (id := 0) ?_; refine sq qa ?_; refine l_nil ?_) | (refine c_region (id := 1) ?_; refine sq qm ?_; refine sq (by exact Qt.cast (v' := .int .i64 ((n : Nat) : Int)) (congrArg (Value.int .i64) (by split <;> omega)) (q_max rfl rfl)) ?_; refine sq (by exact Qt.cast (v' := .int .i64 ((n : Nat) : Int)) (congrArg (Value.int .i64) (by split <;> omega)) (q_min rfl rfl)) ?_; refine se ?_; refine e_make (zs := (List.replicate 64 (Value.int .u8 0)).toArray) rfl rfl rfl (by omega) (by omega) (by omega) (by omega) ?_; refine se ?_; refine e_makeMap secV rfl ?_; refine sq qbs ?_; refine se ?_; refine eb ?_; refine sq qa ?_; refine l_nil ?_) | refine n_then ?_ | refine c_block ?_ | refine c_skip ?_ | refine n_block ?_ | refine c_exit ?_ | refine n_then_exit ?_ | refine n_block_eq ?_ | refine n_block_ne rfl ?_ | refine c_ret ?_ | refine n_then_ret ?_ | refine n_block_ret ?_ | refine c_cond_t rfl ?_ | refine c_cond_f rfl ?_ | refine r_succ ?_ )
  refine chg (L' := [.blk (w.heap.size + 1 + 1) (.cells #[.slice (some ⟨w.heap.size, 0, none⟩) n n, .map (some (w.heap.size + 1)), .bool false, .int .i64 0, .bool false] 61 (0, 0)), .blk (w.heap.size + 1) (.map (mEs secV []) 0), .sl (some ⟨w.heap.size, 0, none⟩) n 70 64 ((List.replicate n (fun _ : Nat => (0 : Int))).flatMap secE)]) (by rw [← madeSec]; rfl) ?_
  refine slblkZ (g := w.heap.size) (cap := n) (sz := 64) (xs := (List.replicate n (fun _ : Nat => (0 : Int))).flatMap secE) (by rw [flat_len secE_len]; simp) (by (repeat (first | exact Pl.here | apply Pl.there))) ?_
  refine fgs (A := DskL (w.heap.size + 1 + 1) w.heap.size (w.heap.size + 1) (Dk.new n)) (R := []) (by unfold Dk.new DskL; simp only [List.length_replicate]; exact Sp.cons (by (repeat (first | exact Rm.here | apply Rm.there))) (Sp.cons (by (repeat (first | exact Rm.here | apply Rm.there))) (Sp.cons (by (repeat (first | exact Rm.here | apply Rm.there))) Sp.nil))) ?_
  (first | apply r_ret (w.heap.size + 1 + 1, w.heap.size, w.heap.size + 1) | apply r_end (w.heap.size + 1 + 1, w.heap.size, w.heap.size + 1)); exact rfl; exact rfl; exact (.tmp rfl .nil); exact rfl; exact (List.Sublist.refl _); exact (by intro g hg; rw [feetD] at hg; simp at hg; rcases hg with hg | hg | hg <;> exact .inr (by omega)); exact trivial
end Go.Proofs.Ytaccldkgopeggaa
namespace Go.Proofs.Ytaccldkgopeggaa
open Go Go.RowKit
set_option linter.unusedVariables false
set_option linter.unusedSimpArgs false
theorem allOne_u8c (l : List Int) : allOne (l.map (Value.int .u8)) = true := by
  induction l with
  | nil => rfl
  | cons x l ih => simpa [allOne, Value.oneCell'] using ih
set_option maxRecDepth 100000 in
set_option maxHeartbeats 4000000 in
theorem clone_c (a : Option Addr) (len cap : Nat) (xs : List Int) (hxl : xs.length = len) (hbig : len ≤ 100000000) (w : World) (hs : SlE (Value.int .u8) w a xs) :
    CA Try.prog 35 [.slice a len cap] w (RLe (Value.int .u8) 5 (fun zs => zs = xs) w) := by
  rcases a with _ | p
  · have hx0 : xs = [] := by
      rcases hs.h with h9 | ⟨g, o, e, _⟩
      · exact h9
      · cases e
    refine enter (L := []) (X := []) Try.func35 rfl Try.ntmps35 rfl rfl (Has.nil _) ?_
    repeat (first | refine c_seq ?_ | (refine c_region (id := 0) ?_; refine sq qa ?_; refine l_nil ?_) | (refine c_region (id := 1) ?_; refine sq qm ?_; refine sq (by exact q_eql_nil rfl rfl) ?_; refine l_nil ?_) | (refine c_region (id := 2) ?_; refine sq qa ?_; refine l_nil ?_) | refine n_then ?_ | refine c_block ?_ | refine c_skip ?_ | refine n_block ?_ | refine c_exit ?_ | refine n_then_exit ?_ | refine n_block_eq ?_ | refine n_block_ne rfl ?_ | refine c_ret ?_ | refine n_then_ret ?_ | refine n_block_ret ?_ | refine c_cond_t rfl ?_ | refine c_cond_f rfl ?_ | refine r_succ ?_ )
    refine add_nil 5 1 ?_
    (first | apply r_ret (none, 0, []) | apply r_end (none, 0, [])); exact rfl; exact rfl; exact (.tmp rfl .nil); exact rfl; exact (by exact (by (repeat (first | exact List.nil_sublist _ | exact List.Sublist.slnil | apply List.Sublist.cons_cons | exact List.Sublist.refl _ | apply List.Sublist.cons)))); exact (new_sl (OS.nil [] w.heap.size).newc new_nil); exact ⟨by simp, hx0.symm⟩
  · refine enter (L := []) (X := []) Try.func35 rfl Try.ntmps35 rfl rfl (Has.nil _) ?_
    repeat (first | refine c_seq ?_ | (refine c_region (id := 0) ?_; refine sq qa ?_; refine l_nil ?_) | (refine c_region (id := 1) ?_; refine sq qm ?_; refine sq (by exact q_eql_nil rfl rfl) ?_; refine l_nil ?_) | (refine c_region (id := 3) ?_; refine se ?_; refine e_buildSlice0 rfl ?_; refine sq qm ?_; refine se ?_; refine e_appL (Value.int .u8) [] xs rfl rfl rfl (by (repeat (first | exact Rm.here | apply Rm.there))) hs.rdN rfl hxl ⟨Nat.le_refl _, by omega, .inr ⟨_, rfl⟩, by simp [Chunk.foot]⟩ (allOne_u8c _) (by omega) (by omega) ?_; intro b1 cap1 m1 ho1 hm1; refine sq qa ?_; refine l_nil ?_) | refine n_then ?_ | refine c_block ?_ | refine c_skip ?_ | refine n_block ?_ | refine c_exit ?_ | refine n_then_exit ?_ | refine n_block_eq ?_ | refine n_block_ne rfl ?_ | refine c_ret ?_ | refine n_then_ret ?_ | refine n_block_ret ?_ | refine c_cond_t rfl ?_ | refine c_cond_f rfl ?_ | refine r_succ ?_ )
    rw [Nat.zero_add, ← hxl] at ho1 ⊢
    (first | apply r_ret (b1, cap1, xs) | apply r_end (b1, cap1, xs)); exact rfl; exact rfl; exact (.tmp rfl .nil); exact rfl; exact (by exact (by (repeat (first | exact List.nil_sublist _ | exact List.Sublist.slnil | apply List.Sublist.cons_cons | exact List.Sublist.refl _ | apply List.Sublist.cons)))); exact (new_sl ho1.newc new_nil); exact ⟨by have h9 := ho1.ret; exact h9, rfl⟩
def secL (f : Nat → Int) (i : Nat) : List Int := (List.range i).map f
theorem secL_len (f : Nat → Int) (i : Nat) : (secL f i).length = i := by simp [secL]
theorem secE_eq (f : Nat → Int) : secE f = (secL f 64).map (Value.int .u8) := by simp [secE, secL]
end Go.Proofs.Ytaccldkgopeggaa
namespace Go.Proofs.Ytaccldkgopeggaa
open Go Go.RowKit
set_option linter.unusedVariables false
section
variable {P : Program} {n m d : Nat} {T : List (Nat × Value)} {X : List Nat} {w0 : World} {L L' : List Chunk} {K : Act → World → Prop} {Q : Exit → Act → World → Prop} {x y : Operand} {ty t e src : TypeId} {pos : String} {af : Array Edge} {gu : Option (Nat × Bool)}
theorem q_s2ap {k : Nat} {b : Option Addr} {len cap : Nat} {dst : Option Tmp} (hx : ev T x = some (.slice b len cap)) [hu : UT P t (.array k e)] (hk : k ≤ len) : Qt P X w0 ⟨dst, .sliceToArrayPointer t x, ty, pos, af, gu⟩ T L (.pointer b) := by
  refine ⟨?_⟩
  intro n a w hA hC hL
  simp [execOp, hA.eval hx, run_arrayAt (P := P) w t e k b len cap hu.h hk]
end
end Go.Proofs.Ytaccldkgopeggaa
namespace Go.Proofs.Ytaccldkgopeggaa
open Go Go.RowKit
set_option linter.unusedVariables false
set_option linter.unusedSimpArgs false
def Dk.dead (D : Dk) : Dk := { D with gone := true }
def Dk.lit (D : Dk) : Dk := { D with fuse := if D.fused then D.fuse - 1 else D.fuse, gone := false }
def Dk.put (D : Dk) (i : Nat) (f : Nat → Int) : Dk := match mFind D.M i with
  | none => { D with secs := D.secs.set i f, M := D.M ++ [((i : Int), (D.secs[i]?).getD (fun _ => 0), D.cl)], cl := D.cl + 1 }
  | some _ => { D with secs := D.secs.set i f }
theorem setSec (f : Nat → Int) {secs : List (Nat → Int)} {i : Nat} {g : Nat → Int} (h : secs[i]? = some g) : setA (secs.flatMap secE).toArray (i * 64) (secE f) = ((secs.set i f).flatMap secE).toArray := by
  have hi := (List.getElem?_eq_some_iff.1 h).1
  apply Array.ext'
  rw [setA_toList _ _ _ (by simp only [List.size_toArray, secE_len, flat_len secE_len]; omega)]
  simp only [secE_len]
  rw [List.set_eq_take_append_cons_drop, if_pos hi, List.flatMap_append, List.flatMap_cons, flat_take secE_len, flat_drop secE_len]
  simp only [Nat.add_mul, Nat.one_mul, List.append_assoc]
theorem pow_no (gd gw gm : Nat) (D : Dk) (hf : 0 ≤ D.fuse ∧ D.fuse ≤ 9223372036854775807) (hp : D.pgone = true) (w : World) (h : Has [.blk gd (.cells #[.slice (some ⟨gw, 0, none⟩) D.secs.length D.secs.length, .map (some gm), .bool D.fused, .int .i64 D.fuse, .bool D.gone] 61 (0, 0))] w) :
    CA Try.prog 37 [.pointer (some ⟨gd, 0, none⟩)] w (RU (.bool false) gd (.cells #[.slice (some ⟨gw, 0, none⟩) D.secs.length D.secs.length, .map (some gm), .bool D.fused, .int .i64 D.fuse, .bool true] 61 (0, 0)) w) := by
  have h1 := pow_c gd gm (.slice (some ⟨gw, 0, none⟩) D.secs.length D.secs.length) D.fused D.gone D.fuse hf w h
  unfold Dk.pgone at hp
  rw [hp] at h1
  exact h1
theorem pow_yes (gd gw gm : Nat) (D : Dk) (hf : 0 ≤ D.fuse ∧ D.fuse ≤ 9223372036854775807) (hp : D.pgone = false) (w : World) (h : Has [.blk gd (.cells #[.slice (some ⟨gw, 0, none⟩) D.secs.length D.secs.length, .map (some gm), .bool D.fused, .int .i64 D.fuse, .bool D.gone] 61 (0, 0))] w) :
    CA Try.prog 37 [.pointer (some ⟨gd, 0, none⟩)] w (RU (.bool true) gd (.cells #[.slice (some ⟨gw, 0, none⟩) D.secs.length D.secs.length, .map (some gm), .bool D.fused, .int .i64 (if D.fused then D.fuse - 1 else D.fuse), .bool false] 61 (0, 0)) w) := by
  have h1 := pow_c gd gm (.slice (some ⟨gw, 0, none⟩) D.secs.length D.secs.length) D.fused D.gone D.fuse hf w h
  unfold Dk.pgone at hp
  rw [hp] at h1
  exact h1
set_option maxRecDepth 100000 in
set_option maxHeartbeats 4000000 in
theorem rd_ok (gd gw gm : Nat) (D : Dk) (i : Nat) (f : Nat → Int) (hs : D.secs[i]? = some f) (hg : D.gone = false) (hn : D.secs.length ≤ 16384) (w : World) (hD : Has (DskL gd gw gm D) w) :
    CA Try.prog 39 [.pointer (some ⟨gd, 0, none⟩), .int .i64 (i : Int)] w (Ret (fun z : Option Addr × Nat => .tuple #[.slice z.1 64 z.2, .int .i64 0]) [] (fun z => [.sl z.1 z.2 5 1 ((secL f 64).map (Value.int .u8))]) (fun z => 64 ≤ z.2 ∧ z.2 ≤ 9223372036854775807 ∧ ∃ g, z.1 = some ⟨g, 0, none⟩) w) := by
  have hi := (List.getElem?_eq_some_iff.1 hs).1
  obtain ⟨secs, M, cl, fu, fz, go⟩ := D
  dsimp only at hg hs hn hi
  subst hg
  have hat := flat_at secE_len hs
  rw [secE_eq] at hat
  refine enter (L := [.blk gd (.cells #[.slice (some ⟨gw, 0, none⟩) secs.length secs.length, .map (some gm), .bool fu, .int .i64 fz, .bool false] 61 (0, 0)), .blk gw (.cells (secs.flatMap secE).toArray 70 (0, 0))]) (X := []) Try.func39 rfl Try.ntmps39 rfl rfl (hD.sub (by (repeat (first | exact List.nil_sublist _ | exact List.Sublist.slnil | apply List.Sublist.cons_cons | exact List.Sublist.refl _ | apply List.Sublist.cons)))) ?_
  repeat (first | refine c_seq ?_ | (refine c_region (id := 0) ?_; refine sq qa ?_; refine sq qa ?_; refine l_nil ?_) | (refine c_region (id := 1) ?_; refine sq qm ?_; refine sq qm ?_; refine se ?_; refine ecp rfl rfl (fun w hC hm hL => by exact has_t gd secs.length _ _ _ (i : Int) w (hL.old (k := 5) (by (repeat (first | exact List.Mem.head _ | apply List.Mem.tail))) (o := 0) rfl) ⟨by omega, by omega⟩) ?_; intro m' hm'; refine sq qnt ?_; refine l_nil ?_) | (refine c_region (id := 3) ?_; refine sq qm ?_; refine sq qn ?_; refine sq qf ?_; refine sq ql ?_; refine l_nil ?_) | (refine c_region (id := 5) ?_; refine sq qm ?_; refine sq qn ?_; refine sq qf ?_; refine sq ql ?_; refine sq qm ?_; refine sq qis ?_; refine sq qsa ?_; refine se ?_; refine e_callL (enc := (Value.int .u8)) (e := 5) rfl rfl (by kernel_rfl) rfl (fun w hC hm hL => by exact clone_c _ 64 64 (secL f 64) (secL_len _ _) (by omega) w (SlE.blk hL (by (repeat (first | exact List.Mem.head _ | apply List.Mem.tail))) (i * 64) 64 hat)) ?_; intro b cap zs m2 hz ho hm2; subst hz; refine sq qa ?_; refine sq qa ?_; refine l_nil ?_) | refine n_then ?_ | refine c_block ?_ | refine c_skip ?_ | refine n_block ?_ | refine c_exit ?_ | refine n_then_exit ?_ | refine n_block_eq ?_ | refine n_block_ne rfl ?_ | refine c_ret ?_ | refine n_then_ret ?_ | refine n_block_ret ?_ | refine c_cond_t rfl ?_ | refine c_cond_f rfl ?_ | refine r_succ ?_ )
  rw [secL_len] at ho
  refine chg (L' := [.sl b cap 5 1 ((secL f 64).map (Value.int .u8)), .blk gd (.cells #[.slice (some ⟨gw, 0, none⟩) secs.length secs.length, .map (some gm), .bool fu, .int .i64 fz, .bool false] 61 (0, 0)), .blk gw (.cells (secs.flatMap secE).toArray 70 (0, 0))]) (by rfl) ?_
  (first | apply r_ret (b, cap) | apply r_end (b, cap)); exact rfl; exact rfl; exact (.tmp rfl (.tmp rfl .nil)); exact (by simp only [secL_len]; rfl); exact (by exact (by (repeat (first | exact List.nil_sublist _ | exact List.Sublist.slnil | apply List.Sublist.cons_cons | exact List.Sublist.refl _ | apply List.Sublist.cons)))); exact (new_sl ho.newc new_nil); exact ⟨ho.le, ho.max, ho.some (by omega)⟩
set_option maxRecDepth 100000 in
set_option maxHeartbeats 4000000 in
theorem wr_lost (gd gw gm : Nat) (D : Dk) (hf : 0 ≤ D.fuse ∧ D.fuse ≤ 9223372036854775807) (hp : D.pgone = true) (i : Int) (hi : 0 ≤ i ∧ i < D.secs.length) (a : Option Addr) (cap : Nat) (w : World) (hD : Has (DskL gd gw gm D) w) :
    CA Try.prog 15 [.pointer (some ⟨gd, 0, none⟩), .int .i64 i, .slice a 64 cap] w (Ret (fun _ : Unit => .int .i64 5) [gd, gw, gm] (fun _ => DskL gd gw gm D.dead) (fun _ => True) w) := by
  refine enter (L := DskL gd gw gm D) (X := [gd, gw, gm]) Try.func15 rfl Try.ntmps15 rfl rfl hD ?_
  repeat (first | refine c_seq ?_ | (refine c_region (id := 0) ?_; refine sq qa ?_; refine l_nil ?_) | (refine c_region (id := 1) ?_; refine sq qm ?_; refine sq qm ?_; refine se ?_; refine ecp rfl rfl (fun w hC hm hL => by exact has_t gd D.secs.length _ _ _ i w (hL.old (k := 5) (by (repeat (first | exact List.Mem.head _ | apply List.Mem.tail))) (o := 0) rfl) ⟨by omega, by omega⟩) ?_; intro m' hm'; refine sq qnt ?_; refine sq qm ?_; (first | refine sk ?_ | refine skv ?_ | (refine st_want rfl rfl ?_; refine sq qm ?_)); (first | refine sk ?_ | refine skv ?_ | (refine st_want rfl rfl ?_; refine sq qls ?_)); (first | refine sk ?_ | refine skv ?_ | (refine st_want rfl rfl ?_; refine sq (by first | exact dneqt | exact dneqf) ?_)); refine sq (by first | exact qpt | exact qpf) ?_; refine l_nil ?_) | (refine c_region (id := 3) ?_; refine sq qm ?_; refine se ?_; refine e_call_upd rfl rfl (by kernel_rfl) rfl (fun w hC hm hL => by exact pow_no gd gw gm D hf hp w (hL.sub (by (repeat (first | exact List.nil_sublist _ | exact List.Sublist.slnil | apply List.Sublist.cons_cons | exact List.Sublist.refl _ | apply List.Sublist.cons))))) (by (repeat (first | exact Pl.here | apply Pl.there))) (.inl (by simp)) ?_; intro m' hm'; refine sq qnt ?_; refine l_nil ?_) | (refine c_region (id := 4) ?_; refine sq qa ?_; refine l_nil ?_) | refine n_then ?_ | refine c_block ?_ | refine c_skip ?_ | refine n_block ?_ | refine c_exit ?_ | refine n_then_exit ?_ | refine n_block_eq ?_ | refine n_block_ne rfl ?_ | refine c_ret ?_ | refine n_then_ret ?_ | refine n_block_ret ?_ | refine c_cond_t rfl ?_ | refine c_cond_f rfl ?_ | refine r_succ ?_ )
  (first | apply r_ret () | apply r_end ()); exact rfl; exact rfl; exact (.tmp rfl .nil); exact rfl; exact (List.Sublist.refl _); exact (by intro g hg; rw [feetD] at hg; exact .inl hg); exact trivial
set_option maxRecDepth 100000 in
set_option maxHeartbeats 4000000 in
theorem wr_ok (gd gw gm : Nat) (D : Dk) (hf : 0 ≤ D.fuse ∧ D.fuse ≤ 9223372036854775807) (hp : D.pgone = false) (hn : D.secs.length ≤ 16384) (i : Nat) (hi : i < D.secs.length) (f : Nat → Int) (a : Option Addr) (cap : Nat) (w : World) (hb : SlE (Value.int .u8) w a (secL f 64)) (hx : ∀ g o, a = some ⟨g, o, none⟩ → g ∉ [gd, gw, gm]) (hD : Has (DskL gd gw gm D) w) :
    CA Try.prog 15 [.pointer (some ⟨gd, 0, none⟩), .int .i64 (i : Int), .slice a 64 cap] w (Ret (fun _ : Unit => .int .i64 0) [gd, gw, gm] (fun _ => DskL gd gw gm (D.lit.put i f)) (fun _ => True) w) := by
  obtain ⟨s0, hs⟩ : ∃ s0, D.secs[i]? = some s0 := ⟨_, List.getElem?_eq_getElem hi⟩
  obtain ⟨g, o, rfl, hO⟩ := hb.get (i := 0) (by rw [secL_len]; omega)
  replace hx := hx g o rfl
  rw [← secE_eq] at hO
  have hl2 : (secE f).length = 64 := secE_len f
  have hl0 : (secE s0).length = 64 := secE_len s0
  have hat := flat_at secE_len hs
  cases hm : mFind D.M (i : Int) with
  | none =>
    have hq : D.lit.put i f = { D.lit with secs := D.secs.set i f, M := D.M ++ [((i : Int), s0, D.cl)], cl := D.cl + 1 } := by
      show (match mFind D.M (i : Int) with | none => _ | some _ => _) = _
      rw [hm]
      simp only [Dk.lit, hs, Option.getD_some]
    rw [hq]
    refine enter (L := DskL gd gw gm D) (X := [gd, gw, gm]) Try.func15 rfl Try.ntmps15 rfl rfl hD ?_
    repeat (first | refine c_seq ?_ | (refine c_region (id := 0) ?_; refine sq qa ?_; refine l_nil ?_) | (refine c_region (id := 1) ?_; refine sq qm ?_; refine sq qm ?_; refine se ?_; refine ecp rfl rfl (fun w hC hm hL => by exact has_t gd D.secs.length _ _ _ (i : Int) w (hL.old (k := 5) (by (repeat (first | exact List.Mem.head _ | apply List.Mem.tail))) (o := 0) rfl) ⟨by omega, by omega⟩) ?_; intro m' hm'; refine sq qnt ?_; refine sq qm ?_; (first | refine sk ?_ | refine skv ?_ | (refine st_want rfl rfl ?_; refine sq qm ?_)); (first | refine sk ?_ | refine skv ?_ | (refine st_want rfl rfl ?_; refine sq qls ?_)); (first | refine sk ?_ | refine skv ?_ | (refine st_want rfl rfl ?_; refine sq (by first | exact dneqt | exact dneqf) ?_)); refine sq (by first | exact qpt | exact qpf) ?_; refine l_nil ?_) | (refine c_region (id := 3) ?_; refine sq qm ?_; refine se ?_; refine e_call_upd rfl rfl (by kernel_rfl) rfl (fun w hC hm hL => by exact pow_yes gd gw gm D hf hp w (hL.sub (by (repeat (first | exact List.nil_sublist _ | exact List.Sublist.slnil | apply List.Sublist.cons_cons | exact List.Sublist.refl _ | apply List.Sublist.cons))))) (by (repeat (first | exact Pl.here | apply Pl.there))) (.inl (by simp)) ?_; intro m' hm'; refine sq qnt ?_; refine l_nil ?_) | (refine c_region (id := 5) ?_; refine sq qm ?_; refine sq qn ?_; refine sq qf ?_; refine sq ql ?_; refine sq qm ?_; refine sq (by exact q_lookup_ok (v := .tuple #[.agg (secE (fun _ => 0)).toArray, .bool false]) secV D.M rfl rfl (zs := (secE (fun _ => 0)).toArray) (by simp [secE]) (by (repeat (first | exact List.Mem.head _ | apply List.Mem.tail))) hm rfl) ?_; refine sq qm ?_; refine sq qe ?_; refine sq qe ?_; refine se ?_; refine ea ?_; refine se ?_; refine esa ?_; refine sq qa ?_; refine l_nil ?_) | (refine c_region (id := 6) ?_; refine sq qm ?_; refine sq qnt ?_; refine l_nil ?_) | (refine x_region (id := 7) none [(0, .n), (1, .n), (2, .n), (3, .q), (4, .n), (5, .n), (6, .n), (7, .n), (8, .q), (9, .n), (10, .n), (11, .q), (12, .e)] (List.eraseIdx _ 3) mixed (by kernel_rfl) (List.eraseIdx_sublist _ _) ?_; refine xn rfl qm ?_; refine xn rfl qn ?_; refine xn rfl qf ?_; refine xq rfl ql ?_; refine xn rfl qm ?_; refine xn rfl qm ?_; refine xn rfl qn ?_; refine xn rfl qf ?_; refine xq rfl ql ?_; refine xn rfl qm ?_; refine xn rfl qis ?_; refine xq rfl (by exact qlr (vs := secE s0) (by rfl) (RdN.blk (by (repeat (first | exact List.Mem.head _ | apply List.Mem.tail))) (by rw [hl0]; exact hat)) hl0) ?_; refine x_e rfl ?_; refine e_mapNew secV D.M s0 rfl rfl rfl hm (by (repeat (first | exact Pl.here | apply Pl.there))) (.inl (by simp)) ?_; refine xk ?_; refine x_nil ?_) | (refine x_region (id := 8) (some 9) [(0, .n), (1, .n), (2, .n), (3, .q), (4, .n), (5, .n), (6, .n), (7, .q), (8, .n), (9, .b)] (List.eraseIdx _ 2) mixed (by kernel_rfl) (List.eraseIdx_sublist _ _) ?_; refine xn rfl qm ?_; refine xn rfl qn ?_; refine xn rfl qf ?_; refine xq rfl ql ?_; refine xn rfl qm ?_; refine xn rfl qm ?_; refine xn rfl (by exact q_s2ap rfl (by decide)) ?_; refine xq rfl (by exact qlr (vs := secE f) (by rfl) (RdN.old hO hx) hl2) ?_; refine xn rfl qis ?_; refine x_b rfl ?_; refine e_store_row (vs := (secE f).toArray) rfl rfl (by simp [secE_len]) (secE_one f) (by rw [setSec f hs]; (repeat (first | exact Pl.here | apply Pl.there))) (by simp [flat_len secE_len]; omega) (.inl (by simp)) ?_; refine x_k (List.nil_sublist _) ?_; refine x_nil ?_) | (refine c_region (id := 9) ?_; refine sq qa ?_; refine l_nil ?_) | refine n_then ?_ | refine c_block ?_ | refine c_skip ?_ | refine n_block ?_ | refine c_exit ?_ | refine n_then_exit ?_ | refine n_block_eq ?_ | refine n_block_ne rfl ?_ | refine c_ret ?_ | refine n_then_ret ?_ | refine n_block_ret ?_ | refine c_cond_t rfl ?_ | refine c_cond_f rfl ?_ | refine r_succ ?_ )
    (first | apply r_ret () | apply r_end ()); exact rfl; exact rfl; exact (.tmp rfl .nil); exact rfl; exact (by have e9 : (D.secs.set i f).length = D.secs.length := List.length_set; refine List.Sublist.trans (l₂ := [.blk gd (.cells #[.slice (some ⟨gw, 0, none⟩) D.secs.length D.secs.length, .map (some gm), .bool D.fused, .int .i64 (if D.fused then D.fuse - 1 else D.fuse), .bool false] 61 (0, 0)), .blk gw (.cells ((D.secs.set i f).flatMap secE).toArray 70 (0, 0)), .blk gm (.map (mEs secV (D.M ++ [((i : Int), s0, D.cl)])) (D.cl + 1))]) (by unfold DskL; simp only [e9]; exact List.Sublist.refl _) (by exact (by (repeat (first | exact List.nil_sublist _ | exact List.Sublist.slnil | apply List.Sublist.cons_cons | exact List.Sublist.refl _ | apply List.Sublist.cons))))); exact (by intro g hg; rw [feetD] at hg; exact .inl hg); exact trivial
  | some s9 =>
    have hq : D.lit.put i f = { D.lit with secs := D.secs.set i f } := by
      show (match mFind D.M (i : Int) with | none => _ | some _ => _) = _
      rw [hm]
      rfl
    rw [hq]
    refine enter (L := DskL gd gw gm D) (X := [gd, gw, gm]) Try.func15 rfl Try.ntmps15 rfl rfl hD ?_
    repeat (first | refine c_seq ?_ | (refine c_region (id := 0) ?_; refine sq qa ?_; refine l_nil ?_) | (refine c_region (id := 1) ?_; refine sq qm ?_; refine sq qm ?_; refine se ?_; refine ecp rfl rfl (fun w hC hm hL => by exact has_t gd D.secs.length _ _ _ (i : Int) w (hL.old (k := 5) (by (repeat (first | exact List.Mem.head _ | apply List.Mem.tail))) (o := 0) rfl) ⟨by omega, by omega⟩) ?_; intro m' hm'; refine sq qnt ?_; refine sq qm ?_; (first | refine sk ?_ | refine skv ?_ | (refine st_want rfl rfl ?_; refine sq qm ?_)); (first | refine sk ?_ | refine skv ?_ | (refine st_want rfl rfl ?_; refine sq qls ?_)); (first | refine sk ?_ | refine skv ?_ | (refine st_want rfl rfl ?_; refine sq (by first | exact dneqt | exact dneqf) ?_)); refine sq (by first | exact qpt | exact qpf) ?_; refine l_nil ?_) | (refine c_region (id := 3) ?_; refine sq qm ?_; refine se ?_; refine e_call_upd rfl rfl (by kernel_rfl) rfl (fun w hC hm hL => by exact pow_yes gd gw gm D hf hp w (hL.sub (by (repeat (first | exact List.nil_sublist _ | exact List.Sublist.slnil | apply List.Sublist.cons_cons | exact List.Sublist.refl _ | apply List.Sublist.cons))))) (by (repeat (first | exact Pl.here | apply Pl.there))) (.inl (by simp)) ?_; intro m' hm'; refine sq qnt ?_; refine l_nil ?_) | (refine c_region (id := 5) ?_; refine sq qm ?_; refine sq qn ?_; refine sq qf ?_; refine sq ql ?_; refine sq qm ?_; refine sq (by exact q_lookup_ok (v := .tuple #[secV s9, .bool true]) secV D.M rfl rfl (zs := (secE (fun _ => 0)).toArray) (by simp [secE]) (by (repeat (first | exact List.Mem.head _ | apply List.Mem.tail))) hm rfl) ?_; refine sq qm ?_; refine sq qe ?_; refine sq qe ?_; refine se ?_; refine ea ?_; refine se ?_; refine esa ?_; refine sq qa ?_; refine l_nil ?_) | (refine c_region (id := 6) ?_; refine sq qm ?_; refine sq qnt ?_; refine l_nil ?_) | (refine x_region (id := 8) (some 9) [(0, .n), (1, .n), (2, .n), (3, .q), (4, .n), (5, .n), (6, .n), (7, .q), (8, .n), (9, .b)] (List.eraseIdx _ 2) mixed (by kernel_rfl) (List.eraseIdx_sublist _ _) ?_; refine xn rfl qm ?_; refine xn rfl qn ?_; refine xn rfl qf ?_; refine xq rfl ql ?_; refine xn rfl qm ?_; refine xn rfl qm ?_; refine xn rfl (by exact q_s2ap rfl (by decide)) ?_; refine xq rfl (by exact qlr (vs := secE f) (by rfl) (RdN.old hO hx) hl2) ?_; refine xn rfl qis ?_; refine x_b rfl ?_; refine e_store_row (vs := (secE f).toArray) rfl rfl (by simp [secE_len]) (secE_one f) (by rw [setSec f hs]; (repeat (first | exact Pl.here | apply Pl.there))) (by simp [flat_len secE_len]; omega) (.inl (by simp)) ?_; refine x_k (List.nil_sublist _) ?_; refine x_nil ?_) | (refine c_region (id := 9) ?_; refine sq qa ?_; refine l_nil ?_) | refine n_then ?_ | refine c_block ?_ | refine c_skip ?_ | refine n_block ?_ | refine c_exit ?_ | refine n_then_exit ?_ | refine n_block_eq ?_ | refine n_block_ne rfl ?_ | refine c_ret ?_ | refine n_then_ret ?_ | refine n_block_ret ?_ | refine c_cond_t rfl ?_ | refine c_cond_f rfl ?_ | refine r_succ ?_ )
    (first | apply r_ret () | apply r_end ()); exact rfl; exact rfl; exact (.tmp rfl .nil); exact rfl; exact (by have e9 : (D.secs.set i f).length = D.secs.length := List.length_set; refine List.Sublist.trans (l₂ := [.blk gd (.cells #[.slice (some ⟨gw, 0, none⟩) D.secs.length D.secs.length, .map (some gm), .bool D.fused, .int .i64 (if D.fused then D.fuse - 1 else D.fuse), .bool false] 61 (0, 0)), .blk gw (.cells ((D.secs.set i f).flatMap secE).toArray 70 (0, 0)), .blk gm (.map (mEs secV D.M) D.cl)]) (by unfold DskL; simp only [e9]; exact List.Sublist.refl _) (by exact (by (repeat (first | exact List.nil_sublist _ | exact List.Sublist.slnil | apply List.Sublist.cons_cons | exact List.Sublist.refl _ | apply List.Sublist.cons))))); exact (by intro g hg; rw [feetD] at hg; exact .inl hg); exact trivial
end Go.Proofs.Ytaccldkgopeggaa
namespace Go.Proofs.Ytaccldkgopeggaa
open Go Go.RowKit
set_option linter.unusedVariables false
section
variable {P : Program} {n m d : Nat} {T : List (Nat × Value)} {X : List Nat} {w0 : World} {L L' : List Chunk} {K : Act → World → Prop} {Q : Exit → Act → World → Prop} {x y : Operand} {ty t e : TypeId} {pos : String} {af : Array Edge} {gu : Option (Nat × Bool)}
theorem e_appG {α : Type} (enc : α → Value) (zs ys : List α) {p q : Addr} {len cap bytes len2 cap2 : Nat} {zz : Value} (hx : ev T x = some (.slice (some p) len cap)) (hy : ev T y = some (.slice (some q) len2 cap2)) (hd : Nat.blt d n = true)
    [hu : UT P t (.slice e)] [hs : SzT P e 1] [hb : ByT P e bytes] [hz : ZrT P e #[zz]] (hv1 : RdN X w0 L p (zs.map enc)) (hv : RdN X w0 L q (ys.map enc))
    (hlen : zs.length = len) (hlen2 : ys.length = len2) (hone : allOne (ys.map enc) = true) (hfull : cap < len + len2) (hby : (len + len2) * bytes ≤ 140737488355328) (hl9 : len + len2 ≤ 9223372036854775807)
    (h : ∀ cap', len + len2 ≤ cap' → cap' ≤ 9223372036854775807 → ∀ a w, SS n ((d, .slice (some ⟨m, 0, none⟩) (len + len2) cap') :: T) X w0 (m + 1) (.sl (some ⟨m, 0, none⟩) cap' e 1 ((zs ++ ys).map enc) :: L) a w → K a w) :
    ∀ a w, SS n T X w0 m L a w → OW P ⟨some d, .call { callee := .builtin .append, args := #[x, y], argTypes := #[t, t] }, ty, pos, af, gu⟩ K Q a w := by
  intro a w hs'
  obtain ⟨hA, hC, rfl, hL⟩ := hs'
  obtain ⟨it, z, h1, h2, h3⟩ := zeroOf_spec hz.h
  have hs1 := hs.h
  have hb1 := hb.h
  simp only [h1, Option.map_some, Option.some.injEq] at hs1 hb1
  have hL0 : Has L w.drew := hL.drew _
  have hC0 : Ch X w0 w.drew := hC.drew _
  have hold := run_firstCells_some (P := P) w.drew it.size len p len cap (zs.map enc) (by rw [hs1]; simp [hlen]) (hv1.cells hC0 hL0)
  have hsrc : Src P it.size t (.slice (some q) len2 cap2) len2 (ys.map enc) w := by
    rw [hs1]
    exact Src.ofVw hu.h (.inr ⟨q, rfl, hv⟩) (by simp [hlen2]) (fun h => by cases h) (allOne_mem hone) hC hL
  have hr := run_append_grow_src (P := P) w t t ty e it z hu.h h1 h2 (some p) len cap (zs.map enc) hold (.slice (some q) len2 cap2) len2 (ys.map enc) hsrc hfull (by omega) (growslice_fits (by omega) (by rw [hb1]; exact hby))
  have hge := grownCap_ge w (len + len2) cap e
  have hle := grownCap_le_maxLen w (len + len2) cap e (by simp only [maxLen]; omega)
  obtain ⟨G, hG⟩ : ∃ G, G = grownCap w (len + len2) cap e := ⟨_, rfl⟩
  rw [← hG] at hr hge hle
  have hcz : ((zs.map enc ++ ys.map enc).toArray ++ Builtin.zeroCells z.cells (G - (len + len2))).size = G := by
    simp [size_zeroCells, h3, hlen, hlen2]; omega
  have hct : ((zs.map enc ++ ys.map enc).toArray ++ Builtin.zeroCells z.cells (G - (len + len2))).toList.take ((zs ++ ys).map enc).length = (zs ++ ys).map enc := by
    rw [List.map_append, Array.toList_append]
    exact List.take_left
  generalize ((zs.map enc ++ ys.map enc).toArray ++ Builtin.zeroCells z.cells (G - (len + len2))) = C at hr hcz hct
  have h4 := hL0.alloc (.cells C e)
  refine wp_value (w' := w.drew.alloc (.cells C e)) (v := .slice (some ⟨w.heap.size, 0, none⟩) (len + len2) G) ?_ (h G hge (by simpa [maxLen] using hle) _ _ ⟨hA.put _ hd, hC0.alloc _, by simp, ?_⟩)
  · simp only [execOp, resolve, Sem.run_bind, Sem.run_pure, Result.andThen_ok, invoke, List.map_toArray, List.map_cons, List.map_nil, hA.eval hx, hA.eval hy, builtin, hr]
  · exact Has.repl (w := w.drew.alloc (.cells C e)) (c := .blk w.heap.size (.cells C e)) .here h4 (fun k hk => .inl (by simpa [Chunk.foot] using hk)) (.inr ⟨w.heap.size, C, rfl, h4.ok _ (List.mem_cons_self ..), by rw [hcz, Nat.mul_one], hct⟩) (fun _ _ _ => rfl)
theorem q_eql_pnil {a : Addr} {dst : Option Tmp} {ty2 : TypeId} (hx : ev T x = some (.pointer (some a))) (hy : ev T y = some (.pointer none)) (hu : P.underlying t = some (.pointer (P.pointee t))) : Qt P X w0 ⟨dst, .binOp .eql t x y ty2, ty, pos, af, gu⟩ T L (.bool false) :=
  q_bin_val hx hy (fun w => by simp [eqGuard]) (fun w => by have h := run_eql_pointer_nil (P := P) w t (some a) hu; simpa using h)
end
end Go.Proofs.Ytaccldkgopeggaa
namespace Go.Proofs.Ytaccldkgopeggaa
open Go Go.RowKit
set_option linter.unusedVariables false
set_option linter.unusedSimpArgs false
structure RB (F : Nat → Int) : Prop where
  h : ∀ j, 0 ≤ F j ∧ F j ≤ 255
def numB (F : Nat → Int) (o : Nat) : Nat → Int
  | 0 => 0
  | k + 1 => numB F o k * 256 + F (o + k)
theorem numB_rng {F : Nat → Int} (hF : RB F) (o : Nat) : ∀ k, 0 ≤ numB F o k ∧ numB F o k < 256 ^ k
  | 0 => by simp [numB]
  | k + 1 => by
    have h1 := numB_rng hF o k
    have h2 := hF.h (o + k)
    rw [numB, Int.pow_succ]
    generalize (256 : Int) ^ k = p at h1 ⊢
    omega
theorem or_low (a b : Nat) (h : b < 256) : (a * 256) ||| b = a * 256 + b := by
  rw [show a * 256 = a * 2 ^ 8 from rfl, ← Nat.shiftLeft_eq, ← Nat.shiftLeft_add_eq_or_of_lt (i := 8) h]
theorem num_step {x d : Int} (hx : 0 ≤ x ∧ x < 72057594037927936) (hd : 0 ≤ d ∧ d ≤ 255) : bits .or .u64 (x * 2 ^ (8 : Int).toNat % 18446744073709551616) (d % 18446744073709551616) = x * 256 + d := by
  obtain ⟨n, rfl⟩ := Int.eq_ofNat_of_zero_le hx.1
  obtain ⟨q, rfl⟩ := Int.eq_ofNat_of_zero_le hd.1
  have e1 : ((n : Int) * 2 ^ (8 : Int).toNat % 18446744073709551616) = ((n * 256 : Nat) : Int) := by
    show ((n : Int) * 256 % 18446744073709551616) = _
    omega
  have e2 : ((q : Int) % 18446744073709551616) = ((q : Nat) : Int) := by omega
  rw [e1, e2, u64_or_nat _ _ (by omega) (by omega), or_low _ _ (by omega)]
  omega
theorem pw256 : ∀ i, i < 8 → (256 : Int) ^ i ≤ 72057594037927936 := by decide
def byI (F : Nat → Int) (o k : Nat) : List Int := (List.range k).map fun j => F (o + j)
def byS (F : Nat → Int) (o k : Nat) : List Value := (byI F o k).map (Value.int .u8)
theorem byS_nth (F : Nat → Int) (o k i : Nat) (h : i < k) : nth (byS F o k) i = some (.int .u8 (F (o + i))) := by
  rw [nth_eq]; simp [byS, byI, h]
theorem byS_len (F : Nat → Int) (o k : Nat) : (byS F o k).length = k := by simp [byS, byI]
theorem byS_sub (F : Nat → Int) (o k a n : Nat) (h : a + n ≤ k) : ((byS F o k).drop a).take n = byS F (o + a) n := by
  apply List.ext_getElem
  · simp [byS, byI]; omega
  · intro i h1 h2
    simp [byS, byI, Nat.add_assoc]
set_option maxRecDepth 100000 in
set_option maxHeartbeats 4000000 in
theorem number_c (F : Nat → Int) (hF : RB F) (o : Nat) (g a cap : Nat) (w : World) (hO : Old w g a (byS F o 8)) :
    CA Try.prog 51 [.slice (some ⟨g, a, none⟩) 8 cap] w (RV (.int .u64 (numB F o 8)) w) := by
  refine enter (L := []) (X := []) Try.func51 rfl Try.ntmps51 rfl rfl (Has.nil _) ?_
  repeat (first | refine c_seq ?_ | (refine c_region (id := 0) ?_; refine sq qa ?_; refine l_nil ?_) | (refine c_region (id := 1) ?_; refine sq qa ?_; refine l_nil ?_) | (refine c_region (id := 2) ?_; refine sq qm ?_; refine sq qls ?_; refine sq qm ?_; refine l_nil ?_) | refine n_then ?_ | refine c_block ?_ | refine c_skip ?_ | refine n_block ?_ | refine c_exit ?_ | refine n_then_exit ?_ | refine n_block_eq ?_ | refine n_block_ne rfl ?_ | refine c_ret ?_ | refine n_then_ret ?_ | refine n_block_ret ?_ | refine c_cond_t rfl ?_ | refine c_cond_f rfl ?_ | refine r_succ ?_ )
  refine c_loop (γ := Nat) (fun i => [(8, .int .i64 i), (6, .slice (some ⟨g, a, none⟩) 8 cap), (7, .int .i64 (8 : Nat)), (3, .int .u64 (numB F o i))]) (fun _ => w.heap.size) (fun _ => []) (fun i => i ≤ 8) (fun i => 8 - i) 0 (by simp) ⟨rfl, rfl, rfl, rfl, trivial⟩ rfl (List.nil_sublist _) ?_
  intro i hi
  by_cases h8 : i < 8
  · have hr := numB_rng hF o i
    have hp : (256 : Int) ^ i ≤ 72057594037927936 := pw256 i h8
    have hst := num_step (x := numB F o i) (d := F (o + i)) ⟨hr.1, by omega⟩ (hF.h _)
    have hn := byS_nth F o 8 i h8
    repeat (first | refine c_seq ?_ | (refine c_region (id := 3) ?_; refine sq (by first | exact dlsst | exact dlssf) ?_; refine l_nil ?_) | (refine c_region (id := 4) ?_; refine sq (by exact qis (o' := a + i) (ho := by omega)) ?_; refine sq (by exact ql (hr := Rd.oldn hO hn (by simp))) ?_; refine sq qa ?_; refine l_nil ?_) | (refine c_region (id := 5) ?_; refine sq qm ?_; refine sq qshlU ?_; refine sq qm ?_; refine sq qcU ?_; refine sq qor ?_; refine sq qa ?_; refine l_nil ?_) | (refine c_region (id := 6) ?_; refine sq qadd64 ?_; refine sq qm ?_; refine l_nil ?_) | refine n_then ?_ | refine c_block ?_ | refine c_skip ?_ | refine n_block ?_ | refine c_exit ?_ | refine n_then_exit ?_ | refine n_block_eq ?_ | refine n_block_ne rfl ?_ | refine c_ret ?_ | refine n_then_ret ?_ | refine n_block_ret ?_ | refine c_cond_t rfl ?_ | refine c_cond_f rfl ?_ | refine r_succ ?_ )
    refine c_round (i + 1) (by omega) (by omega) ⟨rfl, rfl, rfl, by rw [numB, ← hst]; rfl, trivial⟩ rfl (List.nil_sublist _)
  · obtain rfl : i = 8 := by omega
    repeat (first | refine c_seq ?_ | (refine c_region (id := 3) ?_; refine sq (by first | exact dlsst | exact dlssf) ?_; refine l_nil ?_) | (refine c_region (id := 7) ?_; refine sq qm ?_; refine sq qa ?_; refine l_nil ?_) | refine n_then ?_ | refine c_block ?_ | refine c_skip ?_ | refine n_block ?_ | refine c_exit ?_ | refine n_then_exit ?_ | refine n_block_eq ?_ | refine n_block_ne rfl ?_ | refine c_ret ?_ | refine n_then_ret ?_ | refine n_block_ret ?_ | refine c_cond_t rfl ?_ | refine c_cond_f rfl ?_ | refine r_succ ?_ )
    (first | apply r_ret () | apply r_end ()); exact rfl; exact rfl; exact (.tmp rfl .nil); exact rfl; exact (List.nil_sublist _); exact new_nil; exact trivial
def shN (x : Int) (i : Nat) : Int := x / 2 ^ (8 * (i : Int)).toNat % 256
def pnI (H : Array Value) (o : Nat) (x : Int) : Nat → Array Value
  | 0 => H
  | i + 1 => (pnI H o x i).setIfInBounds (o + (7 - i)) (.int .u8 (shN x i))
theorem pnI_size (H : Array Value) (o : Nat) (x : Int) : ∀ i, (pnI H o x i).size = H.size
  | 0 => rfl
  | i + 1 => by rw [pnI, Array.size_setIfInBounds, pnI_size H o x i]
set_option maxRecDepth 100000 in
set_option maxHeartbeats 4000000 in
theorem put_c (H : Array Value) (t : TypeId) (o g cap : Nat) (x : Int) (ho : o + 8 ≤ H.size) (w : World) (hL0 : Has [.blk g (.cells H t (0, 0))] w) :
    CA Try.prog 56 [.slice (some ⟨g, o, none⟩) 8 cap, .int .u64 x] w (RU (.tuple #[]) g (.cells (pnI H o x 8) t (0, 0)) w) := by
  refine enter (L := [.blk g (.cells H t (0, 0))]) (X := [g]) Try.func56 rfl Try.ntmps56 rfl rfl hL0 ?_
  repeat (first | refine c_seq ?_ | (refine c_region (id := 0) ?_; refine sq qm ?_; refine sq qls ?_; refine sq qm ?_; refine l_nil ?_) | refine n_then ?_ | refine c_block ?_ | refine c_skip ?_ | refine n_block ?_ | refine c_exit ?_ | refine n_then_exit ?_ | refine n_block_eq ?_ | refine n_block_ne rfl ?_ | refine c_ret ?_ | refine n_then_ret ?_ | refine n_block_ret ?_ | refine c_cond_t rfl ?_ | refine c_cond_f rfl ?_ | refine r_succ ?_ )
  refine c_loop (γ := Nat) (fun i => [(7, .int .i64 i), (6, .int .i64 (8 : Nat)), (0, .slice (some ⟨g, o, none⟩) 8 cap), (1, .int .u64 x)]) (fun _ => w.heap.size) (fun i => [.blk g (.cells (pnI H o x i) t (0, 0))]) (fun i => i ≤ 8) (fun i => 8 - i) 0 (by simp) ⟨rfl, rfl, rfl, rfl, trivial⟩ rfl (List.Sublist.refl _) ?_
  intro i hi
  have hsz := pnI_size H o x i
  by_cases h8 : i < 8
  · repeat (first | refine c_seq ?_ | (refine c_region (id := 1) ?_; refine sq (by first | exact dlsst | exact dlssf) ?_; refine l_nil ?_) | (refine c_region (id := 2) ?_; refine sq qm ?_; refine sq qa ?_; refine l_nil ?_) | (refine c_region (id := 3) ?_; refine sq qm ?_; refine sq qm ?_; refine sq qls ?_; refine sq qsub64 ?_; refine sq qm ?_; refine sq qsub64 ?_; refine sq qm ?_; refine sq qm ?_; refine sq qmul64 ?_; refine sq (by exact qshr (hb := by show (8 * (i : Int)).toNat ≤ 64; omega)) ?_; refine sq qc8 ?_; refine sq (by exact qis (o' := o + (7 - i)) (ho := by omega)) ?_; refine se ?_; refine es2 ?_ (hg := .inl (by simp)) (hoff := by omega); refine l_nil ?_) | (refine c_region (id := 4) ?_; refine sq qadd64 ?_; refine sq qm ?_; refine l_nil ?_) | refine n_then ?_ | refine c_block ?_ | refine c_skip ?_ | refine n_block ?_ | refine c_exit ?_ | refine n_then_exit ?_ | refine n_block_eq ?_ | refine n_block_ne rfl ?_ | refine c_ret ?_ | refine n_then_ret ?_ | refine n_block_ret ?_ | refine c_cond_t rfl ?_ | refine c_cond_f rfl ?_ | refine r_succ ?_ )
    refine c_round (i + 1) (by omega) (by omega) ⟨rfl, rfl, rfl, rfl, trivial⟩ rfl (List.Sublist.refl _)
  · obtain rfl : i = 8 := by omega
    repeat (first | refine c_seq ?_ | (refine c_region (id := 1) ?_; refine sq (by first | exact dlsst | exact dlssf) ?_; refine l_nil ?_) | refine n_then ?_ | refine c_block ?_ | refine c_skip ?_ | refine n_block ?_ | refine c_exit ?_ | refine n_then_exit ?_ | refine n_block_eq ?_ | refine n_block_ne rfl ?_ | refine c_ret ?_ | refine n_then_ret ?_ | refine n_block_ret ?_ | refine c_cond_t rfl ?_ | refine c_cond_f rfl ?_ | refine r_succ ?_ )
    (first | apply r_ret () | apply r_end ()); exact rfl; exact rfl; exact .nil; exact rfl; exact (List.Sublist.refl _); exact (by intro g hg; simp [feet, Chunk.foot] at hg; exact .inl (by simp [hg])); exact trivial
structure Hd where
  ser : Int
  cnt : Int
  nt : Nat → Int
abbrev noteE (f : Nat → Int) : List Value := [.int .u8 (f 0), .int .u8 (f 1), .int .u8 (f 2), .int .u8 (f 3), .int .u8 (f 4), .int .u8 (f 5), .int .u8 (f 6), .int .u8 (f 7), .int .u8 (f 8), .int .u8 (f 9), .int .u8 (f 10), .int .u8 (f 11), .int .u8 (f 12), .int .u8 (f 13), .int .u8 (f 14), .int .u8 (f 15)]
abbrev headE (h : Hd) : List Value := .int .u64 h.ser :: .int .u64 h.cnt :: noteE h.nt
def halfL (h : Hd) : List Int := [shN h.ser 7, shN h.ser 6, shN h.ser 5, shN h.ser 4, shN h.ser 3, shN h.ser 2, shN h.ser 1, shN h.ser 0, shN h.cnt 7, shN h.cnt 6, shN h.cnt 5, shN h.cnt 4, shN h.cnt 3, shN h.cnt 2, shN h.cnt 1, shN h.cnt 0, h.nt 0, h.nt 1, h.nt 2, h.nt 3, h.nt 4, h.nt 5, h.nt 6, h.nt 7, h.nt 8, h.nt 9, h.nt 10, h.nt 11, h.nt 12, h.nt 13, h.nt 14, h.nt 15]
def secH (h : Hd) (j : Nat) : Int := (halfL h).getD (j % 32) 0
theorem secH_list (h : Hd) : halfL h ++ halfL h = secL (secH h) 64 := rfl
theorem allOne_u8L (l : List Int) : allOne (l.map (Value.int .u8)) = true := by
  induction l with
  | nil => rfl
  | cons x l ih => simpa [allOne, Value.oneCell'] using ih
set_option maxRecDepth 100000 in
set_option maxHeartbeats 4000000 in
theorem place_c (h : Hd) (hs : 0 ≤ h.ser) (w : World) : CA Try.prog 44 [.agg (headE h).toArray] w (RV (.int .i64 (h.ser % 2)) w) := by
  refine enter (L := []) (X := []) Try.func44 rfl Try.ntmps44 rfl rfl (Has.nil _) ?_
  repeat (first | refine c_seq ?_ | (refine c_region (id := 0) ?_; refine se ?_; refine eb ?_; refine sq qa ?_; refine l_nil ?_) | (refine c_region (id := 1) ?_; refine sq qf ?_; refine sq ql ?_; refine sq qrem ?_; refine sq (by exact qci (h0 := by omega) (h1 := by omega)) ?_; refine sq qa ?_; refine l_nil ?_) | refine n_then ?_ | refine c_block ?_ | refine c_skip ?_ | refine n_block ?_ | refine c_exit ?_ | refine n_then_exit ?_ | refine n_block_eq ?_ | refine n_block_ne rfl ?_ | refine c_ret ?_ | refine n_then_ret ?_ | refine n_block_ret ?_ | refine c_cond_t rfl ?_ | refine c_cond_f rfl ?_ | refine r_succ ?_ )
  (first | apply r_ret () | apply r_end ()); exact rfl; exact rfl; exact (.tmp rfl .nil); exact rfl; exact (List.nil_sublist _); exact new_nil; exact trivial
set_option maxRecDepth 100000 in
set_option maxHeartbeats 4000000 in
theorem half_eq (h : Hd) : setA (pnI (pnI (List.replicate 32 (Value.int .u8 0)).toArray 0 h.ser 8) 8 h.cnt 8) 16 (noteE h.nt) = ((halfL h).map (Value.int .u8)).toArray := by
  apply Array.ext'
  simp only [pnI, setA, noteE, Array.toList_setIfInBounds, halfL, List.map_cons, List.map_nil, Nat.zero_add, Nat.sub_zero, Nat.reduceSub, Nat.reduceAdd, ← setL_eq, List.replicate, setL]
set_option maxRecDepth 100000 in
set_option maxHeartbeats 4000000 in
theorem half_c (h : Hd) (w : World) : CA Try.prog 52 [.agg (headE h).toArray] w (RV (.agg ((halfL h).map (Value.int .u8)).toArray) w) := by
  refine enter (L := []) (X := []) Try.func52 rfl Try.ntmps52 rfl rfl (Has.nil _) ?_
  repeat (first | refine c_seq ?_ | (refine c_region (id := 0) ?_; refine se ?_; refine eb ?_; refine se ?_; refine ea ?_; refine l_nil ?_) | (refine c_region (id := 1) ?_; refine se ?_; refine ea ?_; refine l_nil ?_) | (refine x_region (id := 2) (some 3) [(0, .n), (1, .n), (2, .q), (3, .b)] _ mixed (by kernel_rfl) (List.Sublist.refl _) ?_; refine xn rfl qsa ?_; refine xn rfl qf ?_; refine xq rfl ql ?_; refine x_b rfl ?_; refine e_call_upd rfl rfl (by kernel_rfl) rfl (fun w hC hm hL => by exact put_c (List.replicate 32 (Value.int .u8 0)).toArray _ 0 _ _ h.ser (by simp [pnI_size]) w (hL.sub (by (repeat (first | exact List.nil_sublist _ | exact List.Sublist.slnil | apply List.Sublist.cons_cons | exact List.Sublist.refl _ | apply List.Sublist.cons))))) (by (repeat (first | exact Pl.here | apply Pl.there))) (by first | (left; simp; done) | (right; omega)) ?_; intro m' hm'; refine x_k (List.nil_sublist _) ?_; refine x_nil ?_) | refine n_then ?_ | refine c_block ?_ | refine c_skip ?_ | refine n_block ?_ | refine c_exit ?_ | refine n_then_exit ?_ | refine n_block_eq ?_ | refine n_block_ne rfl ?_ | refine c_ret ?_ | refine n_then_ret ?_ | refine n_block_ret ?_ | refine c_cond_t rfl ?_ | refine c_cond_f rfl ?_ | refine r_succ ?_ )
  repeat (first | refine c_seq ?_ | (refine x_region (id := 3) (some 3) [(0, .n), (1, .n), (2, .q), (3, .b)] _ mixed (by kernel_rfl) (List.Sublist.refl _) ?_; refine xn rfl qsa ?_; refine xn rfl qf ?_; refine xq rfl ql ?_; refine x_b rfl ?_; refine e_call_upd rfl rfl (by kernel_rfl) rfl (fun w hC hm hL => by exact put_c (pnI (List.replicate 32 (Value.int .u8 0)).toArray 0 h.ser 8) _ 8 _ _ h.cnt (by simp [pnI_size]) w (hL.sub (by (repeat (first | exact List.nil_sublist _ | exact List.Sublist.slnil | apply List.Sublist.cons_cons | exact List.Sublist.refl _ | apply List.Sublist.cons))))) (by (repeat (first | exact Pl.here | apply Pl.there))) (by first | (left; simp; done) | (right; omega)) ?_; intro m' hm'; refine x_k (List.nil_sublist _) ?_; refine x_nil ?_) | refine n_then ?_ | refine c_block ?_ | refine c_skip ?_ | refine n_block ?_ | refine c_exit ?_ | refine n_then_exit ?_ | refine n_block_eq ?_ | refine n_block_ne rfl ?_ | refine c_ret ?_ | refine n_then_ret ?_ | refine n_block_ret ?_ | refine c_cond_t rfl ?_ | refine c_cond_f rfl ?_ | refine r_succ ?_ )
  repeat (first | refine c_seq ?_ | (refine x_region (id := 4) (some 3) [(0, .n), (1, .n), (2, .n), (3, .b)] _ mixed (by kernel_rfl) (List.Sublist.refl _) ?_; refine xn rfl qsa ?_; refine xn rfl qf ?_; refine xn rfl qsa ?_; refine x_b rfl ?_; refine e_copy (cs := pnI (pnI (List.replicate 32 (Value.int .u8 0)).toArray 0 h.ser 8) 8 h.cnt 8) (news := noteE h.nt) (k := 16) rfl rfl rfl (RdN.blk (by (repeat (first | exact List.Mem.head _ | apply List.Mem.tail))) (by rfl)) (by rfl) (by rfl) (by (repeat (first | exact Pl.here | apply Pl.there))) (by simp [pnI_size]) (by first | (left; simp; done) | (right; omega)) (by rfl) ?_; refine x_k (List.nil_sublist _) ?_; refine x_nil ?_) | refine n_then ?_ | refine c_block ?_ | refine c_skip ?_ | refine n_block ?_ | refine c_exit ?_ | refine n_then_exit ?_ | refine n_block_eq ?_ | refine n_block_ne rfl ?_ | refine c_ret ?_ | refine n_then_ret ?_ | refine n_block_ret ?_ | refine c_cond_t rfl ?_ | refine c_cond_f rfl ?_ | refine r_succ ?_ )
  rw [half_eq]
  repeat (first | refine c_seq ?_ | (refine c_region (id := 5) ?_; refine sq (by exact qlb (hl := by simp [halfL])) ?_; refine se ?_; refine esa ?_ (hk := by simp [halfL]) (ho := allOne_u8L _) (hoff := by rfl); refine l_nil ?_) | refine n_then ?_ | refine c_block ?_ | refine c_skip ?_ | refine n_block ?_ | refine c_exit ?_ | refine n_then_exit ?_ | refine n_block_eq ?_ | refine n_block_ne rfl ?_ | refine c_ret ?_ | refine n_then_ret ?_ | refine n_block_ret ?_ | refine c_cond_t rfl ?_ | refine c_cond_f rfl ?_ | refine r_succ ?_ )
  (first | apply r_ret () | apply r_end ()); exact rfl; exact rfl; exact (.row rfl (by (repeat (first | exact List.Mem.head _ | apply List.Mem.tail))) (by simp [halfL]) .nil); exact rfl; exact (List.nil_sublist _); exact new_nil; exact trivial
set_option maxRecDepth 100000 in
set_option maxHeartbeats 4000000 in
theorem sector_c (h : Hd) (w : World) : CA Try.prog 45 [.agg (headE h).toArray] w (RLe (Value.int .u8) 5 (fun zs => zs = secL (secH h) 64) w) := by
  refine enter (L := []) (X := []) Try.func45 rfl Try.ntmps45 rfl rfl (Has.nil _) ?_
  repeat (first | refine c_seq ?_ | (refine c_region (id := 0) ?_; refine se ?_; refine eb ?_; refine sq qa ?_; refine l_nil ?_) | (refine c_region (id := 1) ?_; refine sq (by first | exact qlb | exact qlr) ?_; refine se ?_; refine ecp rfl rfl (fun w hC hm hL => by exact half_c h w) ?_; intro m' hm'; refine se ?_; refine ea ?_; refine se ?_; refine esa ?_ (hk := by simp [halfL]) (ho := allOne_u8L _) (hoff := by rfl); refine l_nil ?_) | refine n_then ?_ | refine c_block ?_ | refine c_skip ?_ | refine n_block ?_ | refine c_exit ?_ | refine n_then_exit ?_ | refine n_block_eq ?_ | refine n_block_ne rfl ?_ | refine c_ret ?_ | refine n_then_ret ?_ | refine n_block_ret ?_ | refine c_cond_t rfl ?_ | refine c_cond_f rfl ?_ | refine r_succ ?_ )
  repeat (first | refine c_seq ?_ | (refine x_region (id := 2) (some 2) [(0, .n), (1, .n), (2, .b), (3, .n)] _ mixed (by kernel_rfl) (List.Sublist.refl _) ?_; refine xn rfl qsa ?_; refine xn rfl qsa ?_; refine x_b rfl ?_; refine e_appG (Value.int .u8) (halfL h) (halfL h) rfl rfl rfl (RdN.blk (by (repeat (first | exact List.Mem.head _ | apply List.Mem.tail))) (by simp [halfL])) (RdN.blk (by (repeat (first | exact List.Mem.head _ | apply List.Mem.tail))) (by simp [halfL])) (by rfl) (by rfl) (allOne_u8L _) (by omega) (by omega) (by omega) ?_; intro cap1 hcl1 hcm1; refine x_k (List.nil_sublist _) ?_; refine xn rfl qa ?_; refine x_nil ?_) | refine n_then ?_ | refine c_block ?_ | refine c_skip ?_ | refine n_block ?_ | refine c_exit ?_ | refine n_then_exit ?_ | refine n_block_eq ?_ | refine n_block_ne rfl ?_ | refine c_ret ?_ | refine n_then_ret ?_ | refine n_block_ret ?_ | refine c_cond_t rfl ?_ | refine c_cond_f rfl ?_ | refine r_succ ?_ )
  (first | apply r_ret (some ⟨m' + 1, 0, none⟩, cap1, halfL h ++ halfL h) | apply r_end (some ⟨m' + 1, 0, none⟩, cap1, halfL h ++ halfL h)); exact rfl; exact rfl; exact (.tmp rfl .nil); exact rfl; exact (by exact (by (repeat (first | exact List.nil_sublist _ | exact List.Sublist.slnil | apply List.Sublist.cons_cons | exact List.Sublist.refl _ | apply List.Sublist.cons)))); exact (new_sl (by intro g hg; simp [Chunk.foot] at hg; exact .inr (by omega)) new_nil); exact ⟨⟨hcl1, hcm1, .inr ⟨_, rfl⟩⟩, secH_list h⟩
theorem byI_len (F : Nat → Int) (o k : Nat) : (byI F o k).length = k := by simp [byI]
theorem byS_sz (F : Nat → Int) (o k : Nat) : (byS F o k).toArray.size = k := by simp [byS, byI]
def hdOf (F : Nat → Int) : Hd := ⟨numB F 0 8, numB F 8 8, fun j => if j < 16 then F (16 + j) else 0⟩
def hdZ : Hd := ⟨0, 0, fun _ => 0⟩
def hdS (F : Nat → Int) : Prop := ∀ j, j < 32 → F j = F (32 + j)
theorem hdS_iff (F : Nat → Int) : (byI F 0 32 = byI F 32 32) ↔ hdS F := by
  unfold hdS
  constructor
  · intro h j hj
    have h1 : (byI F 0 32)[j]? = (byI F 32 32)[j]? := by rw [h]
    simpa [byI, hj] using h1
  · intro h
    apply List.ext_getElem
    · simp [byI]
    · intro i h1 h2
      have := h i (by simpa [byI] using h1)
      simpa [byI] using this
theorem note_of (F : Nat → Int) : ((byS F 0 32).drop 16).take 16 = noteE (hdOf F).nt := by
  rw [byS_sub F 0 32 16 16 (by omega)]
  rfl
set_option maxRecDepth 100000 in
set_option maxHeartbeats 4000000 in
theorem headOf_y (F : Nat → Int) (hF : RB F) (hsm : hdS F) (g a cap : Nat) (hc : 64 ≤ cap) (w : World) (hO : Old w g a (byS F 0 64)) :
    CA Try.prog 43 [.slice (some ⟨g, a, none⟩) 64 cap] w (RV (.tuple #[.agg (headE (hdOf F)).toArray, .bool true]) w) := by
  have h0 : Old w g a (byS F 0 32) := by have := hO.tak 32; rwa [show (byS F 0 64).take 32 = byS F 0 32 by have := byS_sub F 0 64 0 32 (by omega); rwa [List.drop_zero] at this] at this
  have h32 : Old w g (a + 32) (byS F 32 32) := by have := (hO.drp 32).tak 32; rwa [byS_sub F 0 64 32 32 (by omega)] at this
  have hb : (byI F 0 32 != byI F 32 32) = false := by rw [(hdS_iff F).2 hsm]; simp
  focus
    refine enter (L := []) (X := []) Try.func43 rfl Try.ntmps43 rfl rfl (Has.nil _) ?_
    refine c_seq ?_
    refine c_region (id := 0) ?_
    refine se ?_; refine ea ?_
    refine sq qa ?_
    refine l_nil ?_
    refine n_then ?_
    refine c_join (γ := Nat × Nat) (fun z => [(4, .pointer (some ⟨z.1, 0, none⟩)), (5, .pointer (some ⟨z.2, 0, none⟩)), (2, .pointer (some ⟨w.heap.size, 0, none⟩)), (3, .bool false), (0, .slice (some ⟨g, a, none⟩) 64 cap)]) (fun _ => w.heap.size + 1 + 1 + 1) (fun z => [.blk z.1 (.cells (byS F 0 32).toArray 87 (0, 0)), .blk z.2 (.cells (byS F 32 32).toArray 87 (0, 0)), .blk w.heap.size (.cells (headE hdZ).toArray 63 (0, 0))]) (fun z => w.heap.size ≤ z.1 ∧ w.heap.size ≤ z.2) ?_ ?_
    · refine xa_region (id := 1) _ mixed (by kernel_rfl) rfl (List.Sublist.refl _) ?_; refine xa_y (i := 0) (by kernel_rfl) rfl (by kernel_rfl) rfl (ya_q (by exact qm)) (by (repeat (first | exact List.nil_sublist _ | exact List.Sublist.slnil | apply List.Sublist.cons_cons | exact List.Sublist.refl _ | apply List.Sublist.cons))) rfl ?_; refine xa_y (i := 1) (by kernel_rfl) rfl (by kernel_rfl) rfl (ya_q (by exact qs (b' := some ⟨g, a, none⟩) (hb' := by rw [if_neg (by omega)]; rfl))) (by (repeat (first | exact List.nil_sublist _ | exact List.Sublist.slnil | apply List.Sublist.cons_cons | exact List.Sublist.refl _ | apply List.Sublist.cons))) rfl ?_; refine xa_y (i := 2) (by kernel_rfl) rfl (by kernel_rfl) rfl (ya_q (by exact q_s2ap rfl (by decide))) (by (repeat (first | exact List.nil_sublist _ | exact List.Sublist.slnil | apply List.Sublist.cons_cons | exact List.Sublist.refl _ | apply List.Sublist.cons))) rfl ?_; refine xa_y (i := 3) (by kernel_rfl) rfl (by kernel_rfl) rfl (ya_q (by exact qlr (vs := byS F 0 32) (hr := RdN.old h0 (by simp)) (hl := byS_len _ _ _))) (by (repeat (first | exact List.nil_sublist _ | exact List.Sublist.slnil | apply List.Sublist.cons_cons | exact List.Sublist.refl _ | apply List.Sublist.cons))) rfl ?_; refine xa_y (i := 4) (by kernel_rfl) rfl (by kernel_rfl) rfl (ya_q (by exact qm)) (by (repeat (first | exact List.nil_sublist _ | exact List.Sublist.slnil | apply List.Sublist.cons_cons | exact List.Sublist.refl _ | apply List.Sublist.cons))) rfl ?_; refine xa_y (i := 5) (by kernel_rfl) rfl (by kernel_rfl) rfl (ya_q (by exact qs (b' := some ⟨g, a + 32, none⟩) (hb' := by rw [if_neg (by omega)]; rfl))) (by (repeat (first | exact List.nil_sublist _ | exact List.Sublist.slnil | apply List.Sublist.cons_cons | exact List.Sublist.refl _ | apply List.Sublist.cons))) rfl ?_; refine xa_y (i := 6) (by kernel_rfl) rfl (by kernel_rfl) rfl (ya_q (by exact q_s2ap rfl (by decide))) (by (repeat (first | exact List.nil_sublist _ | exact List.Sublist.slnil | apply List.Sublist.cons_cons | exact List.Sublist.refl _ | apply List.Sublist.cons))) rfl ?_; refine xa_y (i := 7) (by kernel_rfl) rfl (by kernel_rfl) rfl (ya_q (by exact qlr (vs := byS F 32 32) (hr := RdN.old h32 (by simp)) (hl := byS_len _ _ _))) (by (repeat (first | exact List.nil_sublist _ | exact List.Sublist.slnil | apply List.Sublist.cons_cons | exact List.Sublist.refl _ | apply List.Sublist.cons))) rfl ?_; refine xa_br 8 [9] (by kernel_rfl) ?_; refine br_cons rfl rfl ?_ ?_; (focus refine ea ?_; refine xa_k (by (repeat (first | exact Sel.nil | (refine Sel.cons (by (repeat (first | exact Rm.here | apply Rm.there))) ?_)))) ?_; refine xa_br 9 [] (by kernel_rfl) ?_; refine br_cons rfl rfl ?_ ?_; (focus refine ea ?_; refine xa_k (by (repeat (first | exact Sel.nil | (refine Sel.cons (by (repeat (first | exact Rm.here | apply Rm.there))) ?_)))) ?_; refine xa_br 10 [] (by kernel_rfl) ?_; refine br_cons rfl rfl ?_ ?_; (focus refine esa ?_ (hk := by exact byS_sz _ _ _) (ho := allOne_u8L _) (hoff := by rfl); refine xa_k (by (repeat (first | exact Sel.nil | (refine Sel.cons (by (repeat (first | exact Rm.here | apply Rm.there))) ?_)))) ?_; refine xa_br 11 [] (by kernel_rfl) ?_; refine br_cons rfl rfl ?_ ?_; (focus refine esa ?_ (hk := by exact byS_sz _ _ _) (ho := allOne_u8L _) (hoff := by rfl); refine xa_k (by (repeat (first | exact Sel.nil | (refine Sel.cons (by (repeat (first | exact Rm.here | apply Rm.there))) ?_)))) ?_; refine xa_nil (by kernel_rfl) rfl ?_; refine n_then ?_; refine c_joinedS (⟨_, _⟩ : Nat × Nat) ⟨rfl, rfl, rfl, rfl, rfl, trivial⟩ (by rfl) (by (repeat (first | exact Sel.nil | (refine Sel.cons (by (repeat (first | exact Rm.here | apply Rm.there))) ?_)))) ⟨by dsimp only; omega, by dsimp only; omega⟩); exact br_nil); exact br_nil); exact br_nil); refine br_cons rfl rfl ?_ ?_; (focus refine ea ?_; refine xa_k (by (repeat (first | exact Sel.nil | (refine Sel.cons (by (repeat (first | exact Rm.here | apply Rm.there))) ?_)))) ?_; refine xa_br 8 [] (by kernel_rfl) ?_; refine br_cons rfl rfl ?_ ?_; (focus refine ea ?_; refine xa_k (by (repeat (first | exact Sel.nil | (refine Sel.cons (by (repeat (first | exact Rm.here | apply Rm.there))) ?_)))) ?_; refine xa_br 10 [] (by kernel_rfl) ?_; refine br_cons rfl rfl ?_ ?_; (focus refine esa ?_ (hk := by exact byS_sz _ _ _) (ho := allOne_u8L _) (hoff := by rfl); refine xa_k (by (repeat (first | exact Sel.nil | (refine Sel.cons (by (repeat (first | exact Rm.here | apply Rm.there))) ?_)))) ?_; refine xa_br 11 [] (by kernel_rfl) ?_; refine br_cons rfl rfl ?_ ?_; (focus refine esa ?_ (hk := by exact byS_sz _ _ _) (ho := allOne_u8L _) (hoff := by rfl); refine xa_k (by (repeat (first | exact Sel.nil | (refine Sel.cons (by (repeat (first | exact Rm.here | apply Rm.there))) ?_)))) ?_; refine xa_nil (by kernel_rfl) rfl ?_; refine n_then ?_; refine c_joinedS (⟨_, _⟩ : Nat × Nat) ⟨rfl, rfl, rfl, rfl, rfl, trivial⟩ (by rfl) (by (repeat (first | exact Sel.nil | (refine Sel.cons (by (repeat (first | exact Rm.here | apply Rm.there))) ?_)))) ⟨by dsimp only; omega, by dsimp only; omega⟩); exact br_nil); exact br_nil); exact br_nil); exact br_nil
    · rintro z ⟨hz1, hz2⟩
      repeat (first | refine c_seq ?_ | (refine c_region (id := 2) ?_; refine sq (by exact qlb (hl := byS_sz _ _ _)) ?_; refine sq (by exact qlb (hl := byS_sz _ _ _)) ?_; refine sq (by exact Qt.cast (congrArg Value.bool hb) (q_neq_ints (xs := byI F 0 32) (ys := byI F 32 32) rfl rfl rfl rfl Try.eqGuardType87 (byI_len _ _ _) (byI_len _ _ _))) ?_; refine l_nil ?_) | (refine x_region (id := 4) (some 8) [(0, .n), (2, .n), (4, .n), (5, .n), (6, .q), (1, .e), (3, .e), (7, .n), (8, .b), (9, .n)] _ mixed (by kernel_rfl) (List.Sublist.refl _) ?_; refine xn rfl qsa ?_; refine xn rfl qsa ?_; refine xn rfl qsa ?_; refine xn rfl (by exact q_s2ap rfl (by decide)) ?_; refine xq rfl (by exact qlr (vs := noteE (hdOf F).nt) (hr := RdN.blk (by (repeat (first | exact List.Mem.head _ | apply List.Mem.tail))) (by exact note_of F)) (hl := by rfl)) ?_; refine x_e rfl ?_; refine ecp rfl rfl (fun w hC hm hL => by first | exact number_c F hF 0 z.1 0 32 w (hL.old (k := 8) (by (repeat (first | exact List.Mem.head _ | apply List.Mem.tail))) (by exact byS_sub F 0 32 0 8 (by omega))) | exact number_c F hF 8 z.1 8 24 w (hL.old (k := 8) (by (repeat (first | exact List.Mem.head _ | apply List.Mem.tail))) (by exact byS_sub F 0 32 8 8 (by omega)))) ?_; intro m' hm'; refine xk ?_; refine x_e rfl ?_; refine ecp rfl rfl (fun w hC hm hL => by first | exact number_c F hF 0 z.1 0 32 w (hL.old (k := 8) (by (repeat (first | exact List.Mem.head _ | apply List.Mem.tail))) (by exact byS_sub F 0 32 0 8 (by omega))) | exact number_c F hF 8 z.1 8 24 w (hL.old (k := 8) (by (repeat (first | exact List.Mem.head _ | apply List.Mem.tail))) (by exact byS_sub F 0 32 8 8 (by omega)))) ?_; intro m' hm'; refine xk ?_; refine xn rfl qbs ?_; refine x_b rfl ?_; refine esa ?_ (hk := by rfl) (ho := by rfl) (hoff := by rfl); refine x_k (List.nil_sublist _) ?_; refine xn rfl qa ?_; refine x_nil ?_) | refine n_then ?_ | refine c_block ?_ | refine c_skip ?_ | refine n_block ?_ | refine c_exit ?_ | refine n_then_exit ?_ | refine n_block_eq ?_ | refine n_block_ne rfl ?_ | refine c_ret ?_ | refine n_then_ret ?_ | refine n_block_ret ?_ | refine c_cond_t rfl ?_ | refine c_cond_f rfl ?_ | refine r_succ ?_ )
      (first | apply r_ret () | apply r_end ()); exact rfl; exact rfl; exact (.row rfl (by (repeat (first | exact List.Mem.head _ | apply List.Mem.tail))) (by rfl) (.tmp rfl .nil)); exact rfl; exact (List.nil_sublist _); exact new_nil; exact trivial
set_option maxRecDepth 100000 in
set_option maxHeartbeats 4000000 in
theorem headOf_n (F : Nat → Int) (hF : RB F) (hsm : ¬ hdS F) (g a cap : Nat) (hc : 64 ≤ cap) (w : World) (hO : Old w g a (byS F 0 64)) :
    CA Try.prog 43 [.slice (some ⟨g, a, none⟩) 64 cap] w (RV (.tuple #[.agg (headE hdZ).toArray, .bool false]) w) := by
  have h0 : Old w g a (byS F 0 32) := by have := hO.tak 32; rwa [show (byS F 0 64).take 32 = byS F 0 32 by have := byS_sub F 0 64 0 32 (by omega); rwa [List.drop_zero] at this] at this
  have h32 : Old w g (a + 32) (byS F 32 32) := by have := (hO.drp 32).tak 32; rwa [byS_sub F 0 64 32 32 (by omega)] at this
  have hb : (byI F 0 32 != byI F 32 32) = true := by simp only [bne_iff_ne, ne_eq]; exact fun e => hsm ((hdS_iff F).1 e)
  focus
    refine enter (L := []) (X := []) Try.func43 rfl Try.ntmps43 rfl rfl (Has.nil _) ?_
    refine c_seq ?_
    refine c_region (id := 0) ?_
    refine se ?_; refine ea ?_
    refine sq qa ?_
    refine l_nil ?_
    refine n_then ?_
    refine c_join (γ := Nat × Nat) (fun z => [(4, .pointer (some ⟨z.1, 0, none⟩)), (5, .pointer (some ⟨z.2, 0, none⟩)), (2, .pointer (some ⟨w.heap.size, 0, none⟩)), (3, .bool false), (0, .slice (some ⟨g, a, none⟩) 64 cap)]) (fun _ => w.heap.size + 1 + 1 + 1) (fun z => [.blk z.1 (.cells (byS F 0 32).toArray 87 (0, 0)), .blk z.2 (.cells (byS F 32 32).toArray 87 (0, 0)), .blk w.heap.size (.cells (headE hdZ).toArray 63 (0, 0))]) (fun z => w.heap.size ≤ z.1 ∧ w.heap.size ≤ z.2) ?_ ?_
    · refine xa_region (id := 1) _ mixed (by kernel_rfl) rfl (List.Sublist.refl _) ?_; refine xa_y (i := 0) (by kernel_rfl) rfl (by kernel_rfl) rfl (ya_q (by exact qm)) (by (repeat (first | exact List.nil_sublist _ | exact List.Sublist.slnil | apply List.Sublist.cons_cons | exact List.Sublist.refl _ | apply List.Sublist.cons))) rfl ?_; refine xa_y (i := 1) (by kernel_rfl) rfl (by kernel_rfl) rfl (ya_q (by exact qs (b' := some ⟨g, a, none⟩) (hb' := by rw [if_neg (by omega)]; rfl))) (by (repeat (first | exact List.nil_sublist _ | exact List.Sublist.slnil | apply List.Sublist.cons_cons | exact List.Sublist.refl _ | apply List.Sublist.cons))) rfl ?_; refine xa_y (i := 2) (by kernel_rfl) rfl (by kernel_rfl) rfl (ya_q (by exact q_s2ap rfl (by decide))) (by (repeat (first | exact List.nil_sublist _ | exact List.Sublist.slnil | apply List.Sublist.cons_cons | exact List.Sublist.refl _ | apply List.Sublist.cons))) rfl ?_; refine xa_y (i := 3) (by kernel_rfl) rfl (by kernel_rfl) rfl (ya_q (by exact qlr (vs := byS F 0 32) (hr := RdN.old h0 (by simp)) (hl := byS_len _ _ _))) (by (repeat (first | exact List.nil_sublist _ | exact List.Sublist.slnil | apply List.Sublist.cons_cons | exact List.Sublist.refl _ | apply List.Sublist.cons))) rfl ?_; refine xa_y (i := 4) (by kernel_rfl) rfl (by kernel_rfl) rfl (ya_q (by exact qm)) (by (repeat (first | exact List.nil_sublist _ | exact List.Sublist.slnil | apply List.Sublist.cons_cons | exact List.Sublist.refl _ | apply List.Sublist.cons))) rfl ?_; refine xa_y (i := 5) (by kernel_rfl) rfl (by kernel_rfl) rfl (ya_q (by exact qs (b' := some ⟨g, a + 32, none⟩) (hb' := by rw [if_neg (by omega)]; rfl))) (by (repeat (first | exact List.nil_sublist _ | exact List.Sublist.slnil | apply List.Sublist.cons_cons | exact List.Sublist.refl _ | apply List.Sublist.cons))) rfl ?_; refine xa_y (i := 6) (by kernel_rfl) rfl (by kernel_rfl) rfl (ya_q (by exact q_s2ap rfl (by decide))) (by (repeat (first | exact List.nil_sublist _ | exact List.Sublist.slnil | apply List.Sublist.cons_cons | exact List.Sublist.refl _ | apply List.Sublist.cons))) rfl ?_; refine xa_y (i := 7) (by kernel_rfl) rfl (by kernel_rfl) rfl (ya_q (by exact qlr (vs := byS F 32 32) (hr := RdN.old h32 (by simp)) (hl := byS_len _ _ _))) (by (repeat (first | exact List.nil_sublist _ | exact List.Sublist.slnil | apply List.Sublist.cons_cons | exact List.Sublist.refl _ | apply List.Sublist.cons))) rfl ?_; refine xa_br 8 [9] (by kernel_rfl) ?_; refine br_cons rfl rfl ?_ ?_; (focus refine ea ?_; refine xa_k (by (repeat (first | exact Sel.nil | (refine Sel.cons (by (repeat (first | exact Rm.here | apply Rm.there))) ?_)))) ?_; refine xa_br 9 [] (by kernel_rfl) ?_; refine br_cons rfl rfl ?_ ?_; (focus refine ea ?_; refine xa_k (by (repeat (first | exact Sel.nil | (refine Sel.cons (by (repeat (first | exact Rm.here | apply Rm.there))) ?_)))) ?_; refine xa_br 10 [] (by kernel_rfl) ?_; refine br_cons rfl rfl ?_ ?_; (focus refine esa ?_ (hk := by exact byS_sz _ _ _) (ho := allOne_u8L _) (hoff := by rfl); refine xa_k (by (repeat (first | exact Sel.nil | (refine Sel.cons (by (repeat (first | exact Rm.here | apply Rm.there))) ?_)))) ?_; refine xa_br 11 [] (by kernel_rfl) ?_; refine br_cons rfl rfl ?_ ?_; (focus refine esa ?_ (hk := by exact byS_sz _ _ _) (ho := allOne_u8L _) (hoff := by rfl); refine xa_k (by (repeat (first | exact Sel.nil | (refine Sel.cons (by (repeat (first | exact Rm.here | apply Rm.there))) ?_)))) ?_; refine xa_nil (by kernel_rfl) rfl ?_; refine n_then ?_; refine c_joinedS (⟨_, _⟩ : Nat × Nat) ⟨rfl, rfl, rfl, rfl, rfl, trivial⟩ (by rfl) (by (repeat (first | exact Sel.nil | (refine Sel.cons (by (repeat (first | exact Rm.here | apply Rm.there))) ?_)))) ⟨by dsimp only; omega, by dsimp only; omega⟩); exact br_nil); exact br_nil); exact br_nil); refine br_cons rfl rfl ?_ ?_; (focus refine ea ?_; refine xa_k (by (repeat (first | exact Sel.nil | (refine Sel.cons (by (repeat (first | exact Rm.here | apply Rm.there))) ?_)))) ?_; refine xa_br 8 [] (by kernel_rfl) ?_; refine br_cons rfl rfl ?_ ?_; (focus refine ea ?_; refine xa_k (by (repeat (first | exact Sel.nil | (refine Sel.cons (by (repeat (first | exact Rm.here | apply Rm.there))) ?_)))) ?_; refine xa_br 10 [] (by kernel_rfl) ?_; refine br_cons rfl rfl ?_ ?_; (focus refine esa ?_ (hk := by exact byS_sz _ _ _) (ho := allOne_u8L _) (hoff := by rfl); refine xa_k (by (repeat (first | exact Sel.nil | (refine Sel.cons (by (repeat (first | exact Rm.here | apply Rm.there))) ?_)))) ?_; refine xa_br 11 [] (by kernel_rfl) ?_; refine br_cons rfl rfl ?_ ?_; (focus refine esa ?_ (hk := by exact byS_sz _ _ _) (ho := allOne_u8L _) (hoff := by rfl); refine xa_k (by (repeat (first | exact Sel.nil | (refine Sel.cons (by (repeat (first | exact Rm.here | apply Rm.there))) ?_)))) ?_; refine xa_nil (by kernel_rfl) rfl ?_; refine n_then ?_; refine c_joinedS (⟨_, _⟩ : Nat × Nat) ⟨rfl, rfl, rfl, rfl, rfl, trivial⟩ (by rfl) (by (repeat (first | exact Sel.nil | (refine Sel.cons (by (repeat (first | exact Rm.here | apply Rm.there))) ?_)))) ⟨by dsimp only; omega, by dsimp only; omega⟩); exact br_nil); exact br_nil); exact br_nil); exact br_nil
    · rintro z ⟨hz1, hz2⟩
      repeat (first | refine c_seq ?_ | (refine c_region (id := 2) ?_; refine sq (by exact qlb (hl := byS_sz _ _ _)) ?_; refine sq (by exact qlb (hl := byS_sz _ _ _)) ?_; refine sq (by exact Qt.cast (congrArg Value.bool hb) (q_neq_ints (xs := byI F 0 32) (ys := byI F 32 32) rfl rfl rfl rfl Try.eqGuardType87 (byI_len _ _ _) (byI_len _ _ _))) ?_; refine l_nil ?_) | (refine c_region (id := 3) ?_; refine sq qbs ?_; refine se ?_; refine esa ?_ (hk := by rfl) (ho := by rfl) (hoff := by rfl); refine sq qa ?_; refine l_nil ?_) | refine n_then ?_ | refine c_block ?_ | refine c_skip ?_ | refine n_block ?_ | refine c_exit ?_ | refine n_then_exit ?_ | refine n_block_eq ?_ | refine n_block_ne rfl ?_ | refine c_ret ?_ | refine n_then_ret ?_ | refine n_block_ret ?_ | refine c_cond_t rfl ?_ | refine c_cond_f rfl ?_ | refine r_succ ?_ )
      (first | apply r_ret () | apply r_end ()); exact rfl; exact rfl; exact (.row rfl (by (repeat (first | exact List.Mem.head _ | apply List.Mem.tail))) (by rfl) (.tmp rfl .nil)); exact rfl; exact (List.nil_sublist _); exact new_nil; exact trivial
end Go.Proofs.Ytaccldkgopeggaa
namespace Go.Proofs.Ytaccldkgopeggaa
open Go Go.RowKit
set_option linter.unusedVariables false
set_option linter.unusedSimpArgs false
def tornF (a b : Nat → Int) (k : Int) (j : Nat) : Int := if k < 128 then (if j < (min k 64).toNat then b j else a j) else (if j < (64 - min (k - 128) 64).toNat then a j else b j)
theorem secE_get (f : Nat → Int) (q : Nat) (h : q < 64) : (secE f)[q]? = some ((Value.int .u8) (f q)) := by
  simp [secE, h]
theorem torn_lo (a b : Nat → Int) (k : Int) (n : Nat) (hk : k < 128) (hn : (n : Int) = min k 64) : setA (secE a).toArray 0 ((secE b).take n) = (secE (tornF a b k)).toArray := by
  have hn6 : n ≤ 64 := by omega
  have ha := secE_len a
  have hb := secE_len b
  apply Array.ext'
  rw [setA_toList _ _ _ (by simp only [List.length_take, List.size_toArray]; omega)]
  apply List.ext_getElem?
  intro q
  simp only [List.take_zero, List.nil_append, Nat.zero_add, List.length_take]
  by_cases h : q < n
  · rw [List.getElem?_append_left (by simp only [List.length_take]; omega), List.getElem?_take, if_pos h, secE_get _ _ (by omega), secE_get _ _ (by omega)]
    simp only [tornF, if_pos hk]
    rw [if_pos (by omega)]
  · rw [List.getElem?_append_right (by simp only [List.length_take]; omega), List.length_take, List.getElem?_drop]
    by_cases h6 : q < 64
    · rw [show min n (secE b).length + (q - min n (secE b).length) = q by omega, secE_get _ _ h6, secE_get _ _ h6]
      simp only [tornF, if_pos hk]
      rw [if_neg (by omega)]
    · rw [List.getElem?_eq_none (by omega), List.getElem?_eq_none (by rw [secE_len]; omega)]
theorem torn_hi (a b : Nat → Int) (k : Int) (n : Nat) (hk : ¬ k < 128) (hn : (n : Int) = 64 - min (k - 128) 64) : setA (secE a).toArray n ((secE b).drop n) = (secE (tornF a b k)).toArray := by
  have hn6 : n ≤ 64 := by omega
  have ha := secE_len a
  have hb := secE_len b
  apply Array.ext'
  rw [setA_toList _ _ _ (by simp only [List.length_drop, List.size_toArray]; omega)]
  apply List.ext_getElem?
  intro q
  simp only [List.length_drop]
  rw [show (secE a).drop (n + ((secE b).length - n)) = [] by rw [List.drop_eq_nil_iff]; omega, List.append_nil]
  by_cases h : q < n
  · rw [List.getElem?_append_left (by simp only [List.length_take]; omega), List.getElem?_take, if_pos h, secE_get _ _ (by omega), secE_get _ _ (by omega)]
    simp only [tornF, if_neg hk]
    rw [if_pos (by omega)]
  · rw [List.getElem?_append_right (by simp only [List.length_take]; omega), List.length_take, List.getElem?_drop, ha]
    by_cases h6 : q < 64
    · rw [show n + (q - min n 64) = q by omega, secE_get _ _ h6, secE_get _ _ h6]
      simp only [tornF, if_neg hk]
      rw [if_neg (by omega)]
    · rw [List.getElem?_eq_none (by omega), List.getElem?_eq_none (by rw [secE_len]; omega)]
theorem allOne_sub {l l' : List Value} (hs : l'.Sublist l) (h : allOne l = true) : allOne l' = true := by
  induction hs with
  | slnil => rfl
  | cons x _ ih => simp only [allOne, Bool.and_eq_true] at h; exact ih h.2
  | cons_cons x _ ih => simp only [allOne, Bool.and_eq_true] at h ⊢; exact ⟨h.1, ih h.2⟩
theorem allOne_part (f : Nat → Int) (l : List Value) (h : l.Sublist (secE f)) : allOne l = true := allOne_sub h (secE_one f)
set_option maxRecDepth 100000 in
set_option maxHeartbeats 4000000 in
theorem torn_c (a b : Nat → Int) (kv : Int) (hk : 0 ≤ kv ∧ kv ≤ 255) (w : World) :
    CA Try.prog 42 [secV a, secV b, .int .u8 kv] w (RV (secV (tornF a b kv)) w) := by
  unfold secV
  have ha := secE_len a
  have hb := secE_len b
  by_cases h1 : kv < 128
  · obtain ⟨n, hn⟩ : ∃ n : Nat, (n : Int) = min kv 64 := ⟨(min kv 64).toNat, by omega⟩
    refine enter (L := []) (X := []) Try.func42 rfl Try.ntmps42 rfl rfl (Has.nil _) ?_
    repeat (first | refine c_seq ?_ | (refine c_region (id := 0) ?_; refine se ?_; refine eb ?_; refine se ?_; refine eb ?_; refine se ?_; refine ea ?_; refine l_nil ?_) | (refine c_region (id := 1) ?_; refine sq qm ?_; refine sq (by first | exact dlsst | exact dlssf) ?_; refine l_nil ?_) | (refine x_region (id := 2) (some 5) [(0, .n), (1, .n), (2, .n), (3, .n), (4, .n), (5, .b)] _ mixed (by kernel_rfl) (List.Sublist.refl _) ?_; refine xn rfl qsa ?_; refine xn rfl qm ?_; refine xn rfl qci ?_; refine xn rfl (by exact Qt.cast (v' := .int .i64 ((n : Nat) : Int)) (congrArg (Value.int .i64) (by split <;> omega)) (q_min rfl rfl)) ?_; refine xn rfl qsa ?_; refine x_b rfl ?_; refine e_copy (cs := (secE a).toArray) (news := (secE b).take n) (k := n) rfl rfl rfl (RdN.blk (cs := (secE b).toArray) (by (repeat (first | exact List.Mem.head _ | apply List.Mem.tail))) (by simp only [List.drop_zero, List.length_take]; rw [← List.take_take]; simp)) (by simp only [List.length_take]; omega) (allOne_part b _ (List.take_sublist _ _)) (by rw [torn_lo a b kv n h1 hn]; (repeat (first | exact Pl.here | apply Pl.there))) (by simp only [List.length_take, List.size_toArray]; omega) (by first | (left; simp; done) | (right; omega)) (by simp only [List.length_take]; omega) ?_; refine x_k (List.nil_sublist _) ?_; refine x_nil ?_) | (refine c_region (id := 5) ?_; refine sq (by exact qlb (hl := by simp [secE_len])) ?_; refine se ?_; refine esa ?_ (hk := by simp [secE_len]) (ho := secE_one _) (hoff := by rfl); refine l_nil ?_) | refine n_then ?_ | refine c_block ?_ | refine c_skip ?_ | refine n_block ?_ | refine c_exit ?_ | refine n_then_exit ?_ | refine n_block_eq ?_ | refine n_block_ne rfl ?_ | refine c_ret ?_ | refine n_then_ret ?_ | refine n_block_ret ?_ | refine c_cond_t rfl ?_ | refine c_cond_f rfl ?_ | refine r_succ ?_ )
    (first | apply r_ret () | apply r_end ()); exact rfl; exact rfl; exact (.row rfl (by (repeat (first | exact List.Mem.head _ | apply List.Mem.tail))) (by simp [secE_len]) .nil); exact rfl; exact (List.nil_sublist _); exact new_nil; exact trivial
  · obtain ⟨n, hn⟩ : ∃ n : Nat, (n : Int) = 64 - min (kv - 128) 64 := ⟨(64 - min (kv - 128) 64).toNat, by omega⟩
    have OVM : True := trivial
    by_cases h6 : n = 64
    · have e9 : (secE a).toArray = (secE (tornF a b kv)).toArray := by
        rw [← torn_hi a b kv n h1 hn, h6, show (secE b).drop 64 = [] by rw [List.drop_eq_nil_iff]; omega]
        rfl
      refine enter (L := []) (X := []) Try.func42 rfl Try.ntmps42 rfl rfl (Has.nil _) ?_
      repeat (first | refine c_seq ?_ | (refine c_region (id := 0) ?_; refine se ?_; refine eb ?_; refine se ?_; refine eb ?_; refine se ?_; refine ea ?_; refine l_nil ?_) | (refine c_region (id := 1) ?_; refine sq qm ?_; refine sq (by first | exact dlsst | exact dlssf) ?_; refine l_nil ?_) | (refine c_region (id := 3) ?_; refine sq qm ?_; refine sq qci ?_; refine sq qsub64 ?_; refine sq (by exact Qt.cast (v' := .int .i64 ((64 : Int) - (n : Int))) (congrArg (Value.int .i64) (by split <;> omega)) (q_min rfl rfl)) ?_; refine sq (by exact Qt.cast (v' := .int .i64 ((n : Nat) : Int)) (congrArg (Value.int .i64) (by omega)) (q_sub64 rfl rfl ⟨by omega, by omega⟩ rfl)) ?_; refine sq qa ?_; refine l_nil ?_) | (refine x_region (id := 4) (some 4) [(0, .n), (1, .n), (2, .n), (3, .n), (4, .b)] _ mixed (by kernel_rfl) (List.Sublist.refl _) ?_; refine xn rfl qm ?_; refine xn rfl qsa ?_; refine xn rfl qm ?_; refine xn rfl qsa ?_; refine x_b rfl ?_; refine e_copy_none rfl rfl rfl (by omega) ?_; refine x_k (List.nil_sublist _) ?_; refine x_nil ?_) | refine n_then ?_ | refine c_block ?_ | refine c_skip ?_ | refine n_block ?_ | refine c_exit ?_ | refine n_then_exit ?_ | refine n_block_eq ?_ | refine n_block_ne rfl ?_ | refine c_ret ?_ | refine n_then_ret ?_ | refine n_block_ret ?_ | refine c_cond_t rfl ?_ | refine c_cond_f rfl ?_ | refine r_succ ?_ )
      rw [e9]
      repeat (first | refine c_seq ?_ | (refine c_region (id := 5) ?_; refine sq (by exact qlb (hl := by simp [secE_len])) ?_; refine se ?_; refine esa ?_ (hk := by simp [secE_len]) (ho := secE_one _) (hoff := by rfl); refine l_nil ?_) | refine n_then ?_ | refine c_block ?_ | refine c_skip ?_ | refine n_block ?_ | refine c_exit ?_ | refine n_then_exit ?_ | refine n_block_eq ?_ | refine n_block_ne rfl ?_ | refine c_ret ?_ | refine n_then_ret ?_ | refine n_block_ret ?_ | refine c_cond_t rfl ?_ | refine c_cond_f rfl ?_ | refine r_succ ?_ )
      (first | apply r_ret () | apply r_end ()); exact rfl; exact rfl; exact (.row rfl (by (repeat (first | exact List.Mem.head _ | apply List.Mem.tail))) (by simp [secE_len]) .nil); exact rfl; exact (List.nil_sublist _); exact new_nil; exact trivial
    · have e64 : (if 64 = n then 0 else n) = n := if_neg (by omega)
      refine enter (L := []) (X := []) Try.func42 rfl Try.ntmps42 rfl rfl (Has.nil _) ?_
      repeat (first | refine c_seq ?_ | (refine c_region (id := 0) ?_; refine se ?_; refine eb ?_; refine se ?_; refine eb ?_; refine se ?_; refine ea ?_; refine l_nil ?_) | (refine c_region (id := 1) ?_; refine sq qm ?_; refine sq (by first | exact dlsst | exact dlssf) ?_; refine l_nil ?_) | (refine c_region (id := 3) ?_; refine sq qm ?_; refine sq qci ?_; refine sq qsub64 ?_; refine sq (by exact Qt.cast (v' := .int .i64 ((64 : Int) - (n : Int))) (congrArg (Value.int .i64) (by split <;> omega)) (q_min rfl rfl)) ?_; refine sq (by exact Qt.cast (v' := .int .i64 ((n : Nat) : Int)) (congrArg (Value.int .i64) (by omega)) (q_sub64 rfl rfl ⟨by omega, by omega⟩ rfl)) ?_; refine sq qa ?_; refine l_nil ?_) | (refine x_region (id := 4) (some 4) [(0, .n), (1, .n), (2, .n), (3, .n), (4, .b)] _ mixed (by kernel_rfl) (List.Sublist.refl _) ?_; refine xn rfl qm ?_; refine xn rfl qsa ?_; refine xn rfl qm ?_; refine xn rfl qsa ?_; refine x_b rfl ?_; refine e_copy (g := w.heap.size) (o := n) (p := ⟨w.heap.size + 1, n, none⟩) (dl := 64 - n) (dc := 64 - n) (sl := 64 - n) (sc := 64 - n) (cs := (secE a).toArray) (news := (secE b).drop n) (k := 64 - n) (by simp only [e64]; rfl) (by simp only [e64]; rfl) rfl (RdN.blk (cs := (secE b).toArray) (by (repeat (first | exact List.Mem.head _ | apply List.Mem.tail))) List.take_length) (by simp only [List.length_drop]; omega) (allOne_part b _ (List.drop_sublist _ _)) (by rw [torn_hi a b kv n h1 hn]; (repeat (first | exact Pl.here | apply Pl.there))) (by simp only [List.length_drop, List.size_toArray]; omega) (by first | (left; simp; done) | (right; omega)) (by simp only [List.length_drop]; omega) ?_; refine x_k (List.nil_sublist _) ?_; refine x_nil ?_) | (refine c_region (id := 5) ?_; refine sq (by exact qlb (hl := by simp [secE_len])) ?_; refine se ?_; refine esa ?_ (hk := by simp [secE_len]) (ho := secE_one _) (hoff := by rfl); refine l_nil ?_) | refine n_then ?_ | refine c_block ?_ | refine c_skip ?_ | refine n_block ?_ | refine c_exit ?_ | refine n_then_exit ?_ | refine n_block_eq ?_ | refine n_block_ne rfl ?_ | refine c_ret ?_ | refine n_then_ret ?_ | refine n_block_ret ?_ | refine c_cond_t rfl ?_ | refine c_cond_f rfl ?_ | refine r_succ ?_ )
      (first | apply r_ret () | apply r_end ()); exact rfl; exact rfl; exact (.row rfl (by (repeat (first | exact List.Mem.head _ | apply List.Mem.tail))) (by simp [secE_len]) .nil); exact rfl; exact (List.nil_sublist _); exact new_nil; exact trivial
end Go.Proofs.Ytaccldkgopeggaa
namespace Go.Proofs.Ytaccldkgopeggaa
open Go Go.RowKit
set_option linter.unusedVariables false
set_option linter.unusedSimpArgs false
def Dk.still (D : Dk) : Dk := { D with M := [] }
set_option maxRecDepth 100000 in
set_option maxHeartbeats 4000000 in
theorem fuse_c (gd gw gm n : Nat) (fu go : Bool) (fz : Int) (k : Int) (w : World) (hL0 : Has [.blk gd (.cells #[.slice (some ⟨gw, 0, none⟩) n n, .map (some gm), .bool fu, .int .i64 fz, .bool go] 61 (0, 0))] w) :
    CA Try.prog 27 [.pointer (some ⟨gd, 0, none⟩), .int .i64 k] w (RU (.tuple #[]) gd (.cells #[.slice (some ⟨gw, 0, none⟩) n n, .map (some gm), .bool (decide (0 ≤ k)), .int .i64 (max k 0), .bool go] 61 (0, 0)) w) := by
  refine enter (L := [.blk gd (.cells #[.slice (some ⟨gw, 0, none⟩) n n, .map (some gm), .bool fu, .int .i64 fz, .bool go] 61 (0, 0))]) (X := [gd]) Try.func27 rfl Try.ntmps27 rfl rfl hL0 ?_
  repeat (first | refine c_seq ?_ | (refine c_region (id := 0) ?_; refine sq qm ?_; refine sq qm ?_; refine sq (by exact q_geq rfl rfl) ?_; refine sq qn ?_; refine sq qf ?_; refine se ?_; refine es1 ?_ (hg := .inl (by simp)); refine l_nil ?_) | (refine c_region (id := 1) ?_; refine sq qm ?_; refine sq qm ?_; refine sq (by exact Qt.cast (v' := .int .i64 (max k 0)) (congrArg (Value.int .i64) (by split <;> omega)) (q_max rfl rfl)) ?_; refine sq qn ?_; refine sq qf ?_; refine se ?_; refine es1 ?_ (hg := .inl (by simp)); refine l_nil ?_) | refine n_then ?_ | refine c_block ?_ | refine c_skip ?_ | refine n_block ?_ | refine c_exit ?_ | refine n_then_exit ?_ | refine n_block_eq ?_ | refine n_block_ne rfl ?_ | refine c_ret ?_ | refine n_then_ret ?_ | refine n_block_ret ?_ | refine c_cond_t rfl ?_ | refine c_cond_f rfl ?_ | refine r_succ ?_ )
  (first | apply r_ret () | apply r_end ()); exact rfl; exact rfl; exact .nil; exact rfl; exact (by exact (by (repeat (first | exact List.nil_sublist _ | exact List.Sublist.slnil | apply List.Sublist.cons_cons | exact List.Sublist.refl _ | apply List.Sublist.cons)))); exact (by intro g hg; simp [feet, Chunk.foot] at hg; exact .inl (by simp [hg])); exact trivial
set_option maxRecDepth 100000 in
set_option maxHeartbeats 4000000 in
theorem sync_ok (gd gw gm : Nat) (D : Dk) (hf : 0 ≤ D.fuse ∧ D.fuse ≤ 9223372036854775807) (hp : D.pgone = false) (w : World) (hD : Has (DskL gd gw gm D) w) :
    CA Try.prog 46 [.pointer (some ⟨gd, 0, none⟩)] w (Ret (fun _ : Unit => .int .i64 0) [gd, gw, gm] (fun _ => DskL gd gw gm D.lit.still) (fun _ => True) w) := by
  refine enter (L := DskL gd gw gm D) (X := [gd, gw, gm]) Try.func46 rfl Try.ntmps46 rfl rfl hD ?_
  repeat (first | refine c_seq ?_ | (refine c_region (id := 0) ?_; refine sq qa ?_; refine l_nil ?_) | (refine c_region (id := 1) ?_; refine sq qm ?_; refine se ?_; refine e_call_upd rfl rfl (by kernel_rfl) rfl (fun w hC hm hL => by exact pow_yes gd gw gm D hf hp w (hL.sub (by (repeat (first | exact List.nil_sublist _ | exact List.Sublist.slnil | apply List.Sublist.cons_cons | exact List.Sublist.refl _ | apply List.Sublist.cons))))) (by (repeat (first | exact Pl.here | apply Pl.there))) (.inl (by simp)) ?_; intro m' hm'; refine sq qnt ?_; refine l_nil ?_) | (refine c_region (id := 3) ?_; refine sq qm ?_; refine sq qn ?_; refine sq qf ?_; refine sq ql ?_; refine se ?_; refine e_clearMap secV D.M rfl (by (repeat (first | exact Pl.here | apply Pl.there))) (.inl (by simp)) ?_; refine l_nil ?_) | (refine c_region (id := 4) ?_; refine sq qa ?_; refine l_nil ?_) | refine n_then ?_ | refine c_block ?_ | refine c_skip ?_ | refine n_block ?_ | refine c_exit ?_ | refine n_then_exit ?_ | refine n_block_eq ?_ | refine n_block_ne rfl ?_ | refine c_ret ?_ | refine n_then_ret ?_ | refine n_block_ret ?_ | refine c_cond_t rfl ?_ | refine c_cond_f rfl ?_ | refine r_succ ?_ )
  (first | apply r_ret () | apply r_end ()); exact rfl; exact rfl; exact (.tmp rfl .nil); exact rfl; exact (List.Sublist.refl _); exact (by intro g hg; rw [feetD] at hg; exact .inl hg); exact trivial
set_option maxRecDepth 100000 in
set_option maxHeartbeats 4000000 in
theorem sync_lost (gd gw gm : Nat) (D : Dk) (hf : 0 ≤ D.fuse ∧ D.fuse ≤ 9223372036854775807) (hp : D.pgone = true) (w : World) (hD : Has (DskL gd gw gm D) w) :
    CA Try.prog 46 [.pointer (some ⟨gd, 0, none⟩)] w (Ret (fun _ : Unit => .int .i64 5) [gd, gw, gm] (fun _ => DskL gd gw gm D.dead) (fun _ => True) w) := by
  refine enter (L := DskL gd gw gm D) (X := [gd, gw, gm]) Try.func46 rfl Try.ntmps46 rfl rfl hD ?_
  repeat (first | refine c_seq ?_ | (refine c_region (id := 0) ?_; refine sq qa ?_; refine l_nil ?_) | (refine c_region (id := 1) ?_; refine sq qm ?_; refine se ?_; refine e_call_upd rfl rfl (by kernel_rfl) rfl (fun w hC hm hL => by exact pow_no gd gw gm D hf hp w (hL.sub (by (repeat (first | exact List.nil_sublist _ | exact List.Sublist.slnil | apply List.Sublist.cons_cons | exact List.Sublist.refl _ | apply List.Sublist.cons))))) (by (repeat (first | exact Pl.here | apply Pl.there))) (.inl (by simp)) ?_; intro m' hm'; refine sq qnt ?_; refine l_nil ?_) | (refine c_region (id := 2) ?_; refine sq qa ?_; refine l_nil ?_) | refine n_then ?_ | refine c_block ?_ | refine c_skip ?_ | refine n_block ?_ | refine c_exit ?_ | refine n_then_exit ?_ | refine n_block_eq ?_ | refine n_block_ne rfl ?_ | refine c_ret ?_ | refine n_then_ret ?_ | refine n_block_ret ?_ | refine c_cond_t rfl ?_ | refine c_cond_f rfl ?_ | refine r_succ ?_ )
  (first | apply r_ret () | apply r_end ()); exact rfl; exact rfl; exact (.tmp rfl .nil); exact rfl; exact (List.Sublist.refl _); exact (by intro g hg; rw [feetD] at hg; exact .inl hg); exact trivial
set_option maxRecDepth 100000 in
set_option maxHeartbeats 4000000 in
theorem keys_c (gm : Nat) (w : World) :
    CA Try.prog 41 [.map (some gm)] w (Ret (fun z : Nat => .func (.func 50) #[] #[.pointer (some ⟨z, 0, none⟩)]) [] (fun z => [.blk z (.cells #[.map (some gm)] 59 (0, 0))]) (fun _ => True) w) := by
  refine enter (L := []) (X := []) Try.func41 rfl Try.ntmps41 rfl rfl (Has.nil _) ?_
  repeat (first | refine c_seq ?_ | (refine c_region (id := 0) ?_; refine se ?_; refine eb1 ?_; refine sq qa ?_; refine l_nil ?_) | (refine c_region (id := 1) ?_; refine sq (by exact q_makeFunc rfl rfl) ?_; refine sq qa ?_; refine l_nil ?_) | refine n_then ?_ | refine c_block ?_ | refine c_skip ?_ | refine n_block ?_ | refine c_exit ?_ | refine n_then_exit ?_ | refine n_block_eq ?_ | refine n_block_ne rfl ?_ | refine c_ret ?_ | refine n_then_ret ?_ | refine n_block_ret ?_ | refine c_cond_t rfl ?_ | refine c_cond_f rfl ?_ | refine r_succ ?_ )
  (first | apply r_ret w.heap.size | apply r_end w.heap.size); exact rfl; exact rfl; exact (.tmp rfl .nil); exact rfl; exact (List.Sublist.refl _); exact (by intro g hg; simp [feet, Chunk.foot] at hg; exact .inr (by omega)); exact trivial
def keysOf (M : List (ME (Nat → Int))) : List Int := (M.map (·.1)).mergeSort fun x y => decide (x ≤ y)
def SortOK : Prop := ∀ (gm z cl : Nat) (M : List (ME (Nat → Int))) (w : World), (M.map (·.1)).Nodup → (∀ e ∈ M, 0 ≤ e.1 ∧ e.1 < 16384) → M.length ≤ 16384 → (∀ e ∈ M, e.2.2 < cl) → (M.map (·.2.2)).Nodup → Has [.blk z (.cells #[.map (some gm)] 59 (0, 0)), .blk gm (.map (mEs secV M) cl)] w →
  CA Try.prog 40 [.func (.func 50) #[] #[.pointer (some ⟨z, 0, none⟩)]] w (RLe (Value.int .i64) 3 (fun zs => zs = keysOf M) w)
theorem mFind_mem {M : List (ME (Nat → Int))} {e : ME (Nat → Int)} (he : e ∈ M) {i : Int} (hi : e.1 = i) : ∃ f, mFind M i = some f := by
  unfold mFind
  cases h : M.find? fun e => e.1 == i with
  | none => rw [List.find?_eq_none] at h; exact absurd (by simp [hi]) (h e he)
  | some x => exact ⟨x.2.1, rfl⟩
def fateN (fate : List Int) (t : Nat) : Int := if fate.length = 0 then 0 else (fate[t % fate.length]?).getD 0
def crashK (M : List (ME (Nat → Int))) (fate : List Int) : Nat → List Int → List (Nat → Int) → List (Nat → Int)
  | _, [], secs => secs
  | t, i :: is, secs => crashK M fate (t + 1) is (secs.set i.toNat (tornF ((mFind M i).getD fun _ => 0) ((secs[i.toNat]?).getD fun _ => 0) (fateN fate t)))
def Dk.crash (D : Dk) (fate : List Int) : Dk := ⟨crashK D.M fate 0 (keysOf D.M) D.secs, [], D.cl, false, 0, false⟩
set_option maxRecDepth 100000 in
set_option maxHeartbeats 4000000 in
theorem crash_c (hSK : SortOK) (gd gw gm : Nat) (D : Dk) (hn : D.secs.length ≤ 16384) (hnd : (D.M.map (·.1)).Nodup) (hbd : ∀ e ∈ D.M, 0 ≤ e.1 ∧ e.1 < D.secs.length) (hcl : ∀ e ∈ D.M, e.2.2 < D.cl) (hml : D.M.length ≤ 16384) (hbn : (D.M.map (·.2.2)).Nodup) (a : Option Addr) (fl cap0 : Nat) (fate : List Int) (hfl : fate.length = fl) (hfr : ∀ x ∈ fate, 0 ≤ x ∧ x ≤ 255) (hfc : fl ≤ 9223372036854775807) (w : World) (hs : SlE (Value.int .u8) w a fate) (hx : 0 < fl → ∀ g o, a = some ⟨g, o, none⟩ → g ∉ [gd, gw, gm]) (hD : Has (DskL gd gw gm D) w) :
    CA Try.prog 25 [.pointer (some ⟨gd, 0, none⟩), .slice a fl cap0] w (Ret (fun _ : Unit => .tuple #[]) [gd, gw, gm] (fun _ => DskL gd gw gm (D.crash fate)) (fun _ => True) w) := by
  have hkp : (keysOf D.M).Perm (D.M.map (·.1)) := List.mergeSort_perm _ _
  have hkl : (keysOf D.M).length ≤ 16384 := by rw [hkp.length_eq]; simpa using hml
  refine enter (L := DskL gd gw gm D) (X := [gd, gw, gm]) Try.func25 rfl Try.ntmps25 rfl rfl hD ?_
  repeat (first | refine c_seq ?_ | (refine c_region (id := 0) ?_; refine sq qm ?_; refine sq qn ?_; refine sq qf ?_; refine sq ql ?_; refine se ?_; refine ecl rfl rfl (fun w hC hm hL => by exact keys_c gm w) ?_; intro z m1 _ hn1 hm1; refine se ?_; refine e_callL (enc := (Value.int .i64)) (e := 3) rfl rfl (by kernel_rfl) rfl (fun w hC hm hL => by exact hSK gm z D.cl D.M w hnd (fun e he => ⟨(hbd e he).1, by have := (hbd e he).2; omega⟩) hml hcl hbn (hL.sub (by (repeat (first | exact List.nil_sublist _ | exact List.Sublist.slnil | apply List.Sublist.cons_cons | exact List.Sublist.refl _ | apply List.Sublist.cons))))) ?_; intro b cap zs m2 hz ho hm2; subst hz; refine sq qls ?_; refine sq qm ?_; refine l_nil ?_) | refine n_then ?_ | refine c_block ?_ | refine c_skip ?_ | refine n_block ?_ | refine c_exit ?_ | refine n_then_exit ?_ | refine n_block_eq ?_ | refine n_block_ne rfl ?_ | refine c_ret ?_ | refine n_then_ret ?_ | refine n_block_ret ?_ | refine c_cond_t rfl ?_ | refine c_cond_f rfl ?_ | refine r_succ ?_ )
  refine fgs (A := [.blk gd (.cells #[.slice (some ⟨gw, 0, none⟩) D.secs.length D.secs.length, .map (some gm), .bool D.fused, .int .i64 D.fuse, .bool D.gone] 61 (0, 0)), .blk gw (.cells ((D.secs).flatMap secE).toArray 70 (0, 0)), .blk gm (.map (mEs secV D.M) D.cl), .sl b cap 3 1 ((keysOf D.M).map (Value.int .i64))]) (R := [.blk z (.cells #[.map (some gm)] 59 (0, 0))]) (by exact Sp.cons (by (repeat (first | exact Rm.here | apply Rm.there))) (Sp.cons (by (repeat (first | exact Rm.here | apply Rm.there))) (Sp.cons (by (repeat (first | exact Rm.here | apply Rm.there))) (Sp.cons (by (repeat (first | exact Rm.here | apply Rm.there))) Sp.nil)))) ?_
  refine c_loop (γ := Nat × List (Nat → Int) × Nat) (fun z => [(14, .int .i64 z.1), (13, .int .i64 (keysOf D.M).length), (12, .slice b (keysOf D.M).length cap), (0, .pointer (some ⟨gd, 0, none⟩)), (1, .slice a fl cap0)]) (fun z => z.2.2) (fun z => [.blk gd (.cells #[.slice (some ⟨gw, 0, none⟩) D.secs.length D.secs.length, .map (some gm), .bool D.fused, .int .i64 D.fuse, .bool D.gone] 61 (0, 0)), .blk gw (.cells ((z.2.1).flatMap secE).toArray 70 (0, 0)), .blk gm (.map (mEs secV D.M) D.cl), .sl b cap 3 1 ((keysOf D.M).map (Value.int .i64))]) (fun z => z.1 ≤ (keysOf D.M).length ∧ z.2.1.length = D.secs.length ∧ crashK D.M fate z.1 ((keysOf D.M).drop z.1) z.2.1 = crashK D.M fate 0 (keysOf D.M) D.secs ∧ m2 ≤ z.2.2) (fun z => (keysOf D.M).length - z.1) ⟨0, D.secs, m2⟩ ⟨by simp, rfl, by simp, Nat.le_refl _⟩ ⟨rfl, rfl, rfl, rfl, rfl, trivial⟩ rfl (List.Sublist.refl _) ?_
  rintro ⟨j, secs, mm⟩ ⟨hj, hsl, hR, hmm⟩
  dsimp only at hj hsl hR hmm ⊢
  by_cases hjl : j < (keysOf D.M).length
  · obtain ⟨gs, rfl⟩ := ho.some (by omega)
    obtain ⟨i, hi⟩ : ∃ i, (keysOf D.M)[j]? = some i := ⟨_, List.getElem?_eq_getElem hjl⟩
    have hn9 := nth_map (enc := (Value.int .i64)) hi
    have him : i ∈ D.M.map (·.1) := hkp.mem_iff.1 (List.mem_of_getElem? hi)
    obtain ⟨e9, he9, hei⟩ := List.mem_map.1 him
    have hib := hbd e9 he9
    rw [hei] at hib
    obtain ⟨i0, rfl⟩ : ∃ i0 : Nat, i = (i0 : Int) := ⟨i.toNat, by omega⟩
    have hi0 : i0 < secs.length := by omega
    obtain ⟨si, hsi⟩ : ∃ si, secs[i0]? = some si := ⟨_, List.getElem?_eq_getElem hi0⟩
    obtain ⟨fi, hfi⟩ : ∃ fi, mFind D.M (i0 : Int) = some fi := mFind_mem he9 hei
    have hat := flat_at secE_len hsi
    have hstep : crashK D.M fate (j + 1) ((keysOf D.M).drop (j + 1)) (secs.set i0 (tornF fi si (fateN fate j))) = crashK D.M fate 0 (keysOf D.M) D.secs := by
      rw [← hR, List.drop_eq_getElem_cons hjl]
      have h9 : (keysOf D.M)[j] = (i0 : Int) := by rw [List.getElem?_eq_getElem hjl] at hi; exact Option.some.inj hi
      rw [h9, crashK, hfi, Int.toNat_natCast, hsi]
      rfl
    have hfb : 0 ≤ fateN fate j ∧ fateN fate j ≤ 255 := by
      unfold fateN
      by_cases hz : fate.length = 0
      · rw [if_pos hz]; omega
      · rw [if_neg hz, List.getElem?_eq_getElem (Nat.mod_lt _ (by omega))]
        exact hfr _ (List.getElem_mem _)
    by_cases hz : fl = 0
    · have hf0 : fateN fate j = 0 := by unfold fateN; rw [if_pos (by omega)]
      rw [hf0] at hfb hstep
      repeat (first | refine c_seq ?_ | (refine c_region (id := 1) ?_; refine sq (by first | exact dlsst | exact dlssf) ?_; refine l_nil ?_) | (refine c_region (id := 2) ?_; refine sq qm ?_; refine sq (by exact qis (h1 := by exact_mod_cast hjl)) ?_; refine sq (by exact ql (hr := Rd.sln (by (repeat (first | exact List.Mem.head _ | apply List.Mem.tail))) hn9)) ?_; refine sq qa ?_; refine sq qa ?_; refine l_nil ?_) | (refine c_region (id := 3) ?_; refine sq qa ?_; refine l_nil ?_) | (refine c_region (id := 4) ?_; refine sq qm ?_; refine sq qls ?_; refine sq (by first | exact dgtrt | exact dgtrf) ?_; refine l_nil ?_) | (refine x_region (id := 6) (some 21) [(0, .n), (1, .n), (2, .n), (3, .q), (4, .n), (5, .n), (6, .n), (7, .n), (8, .q), (9, .n), (10, .q), (11, .n), (12, .n), (13, .n), (14, .q), (15, .n), (16, .n), (17, .q), (18, .n), (19, .e), (20, .n), (21, .b)] _ mixed (by kernel_rfl) (List.Sublist.refl _) ?_; refine xn rfl qm ?_; refine xn rfl qn ?_; refine xn rfl qf ?_; refine xq rfl ql ?_; refine xn rfl qm ?_; refine xn rfl qm ?_; refine xn rfl qn ?_; refine xn rfl qf ?_; refine xq rfl ql ?_; refine xn rfl qm ?_; refine xq rfl (by exact q_lookup_at secV D.M rfl rfl (by (repeat (first | exact List.Mem.head _ | apply List.Mem.tail))) hfi) ?_; refine xn rfl qm ?_; refine xn rfl qn ?_; refine xn rfl qf ?_; refine xq rfl ql ?_; refine xn rfl qm ?_; refine xn rfl qis ?_; refine xq rfl (by exact qlr (vs := secE si) (by rfl) (RdN.blk (by (repeat (first | exact List.Mem.head _ | apply List.Mem.tail))) (by rw [secE_len]; exact hat)) (secE_len si)) ?_; refine xn rfl qm ?_; refine x_e rfl ?_; refine ecp rfl rfl (fun w hC hm hL => by exact torn_c fi si 0 hfb w) ?_; intro m' hm'; refine xk ?_; refine xn rfl qis ?_; refine x_b rfl ?_; refine e_store_row (vs := (secE (tornF fi si 0)).toArray) rfl rfl (by simp [secE_len]) (secE_one _) (by rw [setSec _ hsi]; (repeat (first | exact Pl.here | apply Pl.there))) (by simp [flat_len secE_len]; omega) (.inl (by simp)) ?_; refine x_k (List.nil_sublist _) ?_; refine x_nil ?_) | (refine c_region (id := 7) ?_; refine sq qadd64 ?_; refine sq qm ?_; refine l_nil ?_) | refine n_then ?_ | refine c_block ?_ | refine c_skip ?_ | refine n_block ?_ | refine c_exit ?_ | refine n_then_exit ?_ | refine n_block_eq ?_ | refine n_block_ne rfl ?_ | refine c_ret ?_ | refine n_then_ret ?_ | refine n_block_ret ?_ | refine c_cond_t rfl ?_ | refine c_cond_f rfl ?_ | refine r_succ ?_ )
      refine c_round ⟨j + 1, secs.set i0 (tornF fi si 0), m'⟩ ⟨by dsimp only; omega, by dsimp only; rw [List.length_set]; exact hsl, by dsimp only; exact hstep, by dsimp only; omega⟩ (by dsimp only; omega) ⟨rfl, rfl, rfl, rfl, rfl, trivial⟩ (by rfl) (by (repeat (first | exact List.nil_sublist _ | exact List.Sublist.slnil | apply List.Sublist.cons_cons | exact List.Sublist.refl _ | apply List.Sublist.cons)))
    · obtain ⟨kv, hkv⟩ : ∃ kv, fate[j % fl]? = some kv := ⟨_, List.getElem?_eq_getElem (by rw [hfl]; exact Nat.mod_lt _ (by omega))⟩
      have hf0 : fateN fate j = kv := by unfold fateN; rw [if_neg (by omega), hfl, hkv]; rfl
      rw [hf0] at hfb hstep
      obtain ⟨gf, of, rfl, hO⟩ := hs.get (i := j % fl) (by rw [hfl]; exact Nat.mod_lt _ (by omega))
      have hx2 := hx (by omega) gf of rfl
      have hnk := nth_map (enc := (Value.int .u8)) hkv
      obtain ⟨q, hq⟩ : ∃ q, q = j % fl := ⟨_, rfl⟩
      have hql : q < fl := by rw [hq]; exact Nat.mod_lt _ (by omega)
      have hqi : (j : Int) % (fl : Int) = (q : Int) := by rw [hq]; rfl
      rw [← hq] at hnk
      repeat (first | refine c_seq ?_ | (refine c_region (id := 1) ?_; refine sq (by first | exact dlsst | exact dlssf) ?_; refine l_nil ?_) | (refine c_region (id := 2) ?_; refine sq qm ?_; refine sq (by exact qis (h1 := by exact_mod_cast hjl)) ?_; refine sq (by exact ql (hr := Rd.sln (by (repeat (first | exact List.Mem.head _ | apply List.Mem.tail))) hn9)) ?_; refine sq qa ?_; refine sq qa ?_; refine l_nil ?_) | (refine c_region (id := 3) ?_; refine sq qa ?_; refine l_nil ?_) | (refine c_region (id := 4) ?_; refine sq qm ?_; refine sq qls ?_; refine sq (by first | exact dgtrt | exact dgtrf) ?_; refine l_nil ?_) | (refine c_region (id := 5) ?_; refine sq qm ?_; refine sq qm ?_; refine sq qm ?_; refine sq qls ?_; refine sq (by exact Qt.cast (congrArg (Value.int .i64) hqi) (q_rem rfl rfl (by omega) (by omega))) ?_; refine sq qis ?_; refine sq (by exact ql (hr := Rd.oldn hO hnk hx2)) ?_; refine sq qa ?_; refine l_nil ?_) | (refine x_region (id := 6) (some 21) [(0, .n), (1, .n), (2, .n), (3, .q), (4, .n), (5, .n), (6, .n), (7, .n), (8, .q), (9, .n), (10, .q), (11, .n), (12, .n), (13, .n), (14, .q), (15, .n), (16, .n), (17, .q), (18, .n), (19, .e), (20, .n), (21, .b)] _ mixed (by kernel_rfl) (List.Sublist.refl _) ?_; refine xn rfl qm ?_; refine xn rfl qn ?_; refine xn rfl qf ?_; refine xq rfl ql ?_; refine xn rfl qm ?_; refine xn rfl qm ?_; refine xn rfl qn ?_; refine xn rfl qf ?_; refine xq rfl ql ?_; refine xn rfl qm ?_; refine xq rfl (by exact q_lookup_at secV D.M rfl rfl (by (repeat (first | exact List.Mem.head _ | apply List.Mem.tail))) hfi) ?_; refine xn rfl qm ?_; refine xn rfl qn ?_; refine xn rfl qf ?_; refine xq rfl ql ?_; refine xn rfl qm ?_; refine xn rfl qis ?_; refine xq rfl (by exact qlr (vs := secE si) (by rfl) (RdN.blk (by (repeat (first | exact List.Mem.head _ | apply List.Mem.tail))) (by rw [secE_len]; exact hat)) (secE_len si)) ?_; refine xn rfl qm ?_; refine x_e rfl ?_; refine ecp rfl rfl (fun w hC hm hL => by exact torn_c fi si kv hfb w) ?_; intro m' hm'; refine xk ?_; refine xn rfl qis ?_; refine x_b rfl ?_; refine e_store_row (vs := (secE (tornF fi si kv)).toArray) rfl rfl (by simp [secE_len]) (secE_one _) (by rw [setSec _ hsi]; (repeat (first | exact Pl.here | apply Pl.there))) (by simp [flat_len secE_len]; omega) (.inl (by simp)) ?_; refine x_k (List.nil_sublist _) ?_; refine x_nil ?_) | (refine c_region (id := 7) ?_; refine sq qadd64 ?_; refine sq qm ?_; refine l_nil ?_) | refine n_then ?_ | refine c_block ?_ | refine c_skip ?_ | refine n_block ?_ | refine c_exit ?_ | refine n_then_exit ?_ | refine n_block_eq ?_ | refine n_block_ne rfl ?_ | refine c_ret ?_ | refine n_then_ret ?_ | refine n_block_ret ?_ | refine c_cond_t rfl ?_ | refine c_cond_f rfl ?_ | refine r_succ ?_ )
      refine c_round ⟨j + 1, secs.set i0 (tornF fi si kv), m'⟩ ⟨by dsimp only; omega, by dsimp only; rw [List.length_set]; exact hsl, by dsimp only; exact hstep, by dsimp only; omega⟩ (by dsimp only; omega) ⟨rfl, rfl, rfl, rfl, rfl, trivial⟩ (by rfl) (by (repeat (first | exact List.nil_sublist _ | exact List.Sublist.slnil | apply List.Sublist.cons_cons | exact List.Sublist.refl _ | apply List.Sublist.cons)))
  · obtain rfl : j = (keysOf D.M).length := by omega
    rw [List.drop_eq_nil_of_le (Nat.le_refl _), crashK] at hR
    have hq : D.crash fate = ⟨secs, [], D.cl, false, 0, false⟩ := by unfold Dk.crash; rw [← hR]
    rw [hq]
    repeat (first | refine c_seq ?_ | (refine c_region (id := 1) ?_; refine sq (by first | exact dlsst | exact dlssf) ?_; refine l_nil ?_) | (refine c_region (id := 8) ?_; refine sq qm ?_; refine sq qn ?_; refine sq qf ?_; refine sq ql ?_; refine se ?_; refine e_clearMap secV D.M rfl (by (repeat (first | exact Pl.here | apply Pl.there))) (.inl (by simp)) ?_; refine l_nil ?_) | (refine c_region (id := 9) ?_; refine sq qm ?_; refine sq qn ?_; refine sq qf ?_; refine se ?_; refine es1 ?_ (hg := .inl (by simp)); refine l_nil ?_) | (refine c_region (id := 10) ?_; refine sq qm ?_; refine se ?_; refine e_call_upd rfl rfl (by kernel_rfl) rfl (fun w hC hm hL => by have h9 := fuse_c gd gw gm D.secs.length D.fused false D.fuse (-1) w (hL.sub (by (repeat (first | exact List.nil_sublist _ | exact List.Sublist.slnil | apply List.Sublist.cons_cons | exact List.Sublist.refl _ | apply List.Sublist.cons)))); exact h9) (by (repeat (first | exact Pl.here | apply Pl.there))) (.inl (by simp)) ?_; intro m' hm'; refine l_nil ?_) | refine n_then ?_ | refine c_block ?_ | refine c_skip ?_ | refine n_block ?_ | refine c_exit ?_ | refine n_then_exit ?_ | refine n_block_eq ?_ | refine n_block_ne rfl ?_ | refine c_ret ?_ | refine n_then_ret ?_ | refine n_block_ret ?_ | refine c_cond_t rfl ?_ | refine c_cond_f rfl ?_ | refine r_succ ?_ )
    (first | apply r_ret () | apply r_end ()); exact rfl; exact rfl; exact .nil; exact rfl; exact (by unfold DskL; simp only [hsl]; exact (by (repeat (first | exact List.nil_sublist _ | exact List.Sublist.slnil | apply List.Sublist.cons_cons | exact List.Sublist.refl _ | apply List.Sublist.cons)))); exact (by intro g hg; rw [feetD] at hg; exact .inl hg); exact trivial
end Go.Proofs.Ytaccldkgopeggaa
namespace Go.Proofs.Ytaccldkgopeggaa
open Go Go.RowKit Go.Shelf Go.Maps Go.Sort Go.WideElems Go.MapKept Go.WideShapes
set_option linter.unusedVariables false
set_option linter.unusedSimpArgs false
def skKeys_ren : Go.Shelf.Ren := ⟨fun | 7 => 41 | 10 => 50 | n => n, fun | 23 => 59 | 26 => 3 | 3 => 70 | 28 => 79 | 0 => 0 | 27 => 78 | 33 => 68 | 4 => 4 | n => n, fun | n => n⟩
theorem skKeys : Go.Proofs.SlLaysZI.n7 Try.prog skKeys_ren := {
  mixed := by kernel_rfl
  f7 := ⟨Try.f41.name, by decide, Try.func41.trans (congrArg some (by kernel_rfl))⟩
  f10 := ⟨Try.f50.name, by decide, Try.func50.trans (congrArg some (by kernel_rfl))⟩
  t0 := Try.underlying0
  a0 := Try.isAgg0
  z0 := Try.sizeOf0
  v0 := Try.zeroValue0
  t4 := Try.underlying4
  a4 := Try.isAgg4
  z4 := Try.sizeOf4
  v4 := Try.zeroValue4
  t23 := Try.underlying59
  a23 := Try.isAgg59
  z23 := Try.sizeOf59
  v23 := Try.zeroValue59
  t26 := Try.underlying3
  a26 := Try.isAgg3
  z26 := Try.sizeOf3
  v26 := Try.zeroValue3
  t27 := Try.underlying78
  a27 := Try.isAgg78
  z27 := Try.sizeOf78
  v27 := Try.zeroValue78
  t28 := Try.underlying79
  a28 := Try.isAgg79
  z28 := Try.sizeOf79
  v28 := Try.zeroValue79
  t33 := Try.underlying68
  a33 := Try.isAgg68
  z33 := Try.sizeOf68
  v33 := Try.zeroValue68 }
def skSorted_ren : Go.Shelf.Ren := ⟨fun | 6 => 40 | 8 => 48 | 9 => 49 | 11 => 53 | 13 => 55 | 12 => 54 | 23 => 66 | 24 => 67 | 14 => 57 | 15 => 58 | 16 => 59 | 17 => 60 | 18 => 61 | 19 => 62 | 20 => 63 | 21 => 64 | 22 => 65 | 25 => 68 | 26 => 69 | 27 => 70 | 28 => 71 | 29 => 72 | 30 => 73 | 31 => 74 | n => n, fun | 26 => 3 | 28 => 79 | 24 => 76 | 0 => 0 | 3 => 3 | 37 => 92 | 48 => 104 | 50 => 35 | 4 => 4 | 40 => 96 | 39 => 95 | 45 => 101 | 5 => 5 | 9 => 9 | 51 => 106 | 55 => 109 | 57 => 111 | 58 => 112 | 33 => 68 | n => n, fun | n => n⟩
theorem skSorted : Go.Proofs.SlLaysZI.n6 Try.prog skSorted_ren := {
  mixed := by kernel_rfl
  f6 := ⟨Try.f40.name, by decide, Try.func40.trans (congrArg some (by kernel_rfl))⟩
  f8 := ⟨Try.f48.name, by decide, Try.func48.trans (congrArg some (by kernel_rfl))⟩
  f11 := ⟨Try.f53.name, by decide, Try.func53.trans (congrArg some (by kernel_rfl))⟩
  t0 := Try.underlying0
  a0 := Try.isAgg0
  z0 := Try.sizeOf0
  v0 := Try.zeroValue0
  t24 := Try.underlying76
  a24 := Try.isAgg76
  z24 := Try.sizeOf76
  v24 := Try.zeroValue76
  t26 := Try.underlying3
  a26 := Try.isAgg3
  z26 := Try.sizeOf3
  v26 := Try.zeroValue3
  t28 := Try.underlying79
  a28 := Try.isAgg79
  z28 := Try.sizeOf79
  v28 := Try.zeroValue79
  i26 := by kernel_rfl }
def skSort_ren : Go.Shelf.Ren := ⟨fun | 5 => 49 | 8 => 55 | 7 => 54 | 19 => 66 | 20 => 67 | 10 => 57 | 11 => 58 | 12 => 59 | 13 => 60 | 14 => 61 | 15 => 62 | 16 => 63 | 17 => 64 | 18 => 65 | 30 => 68 | 31 => 69 | 32 => 70 | 33 => 71 | 34 => 72 | 35 => 73 | 40 => 74 | n => n, fun | 23 => 76 | 25 => 3 | 3 => 3 | 32 => 92 | 22 => 76 | 0 => 0 | 44 => 104 | 46 => 35 | 4 => 4 | 36 => 96 | 35 => 95 | 41 => 101 | 5 => 5 | 9 => 9 | 53 => 106 | 57 => 109 | 63 => 111 | 64 => 112 | n => n, fun | n => n⟩
theorem skSort : Go.Proofs.SlLaysM.n5 Try.prog skSort_ren := {
  mixed := by kernel_rfl
  f5 := ⟨Try.f49.name, by decide, Try.func49.trans (congrArg some (by kernel_rfl))⟩
  f7 := ⟨Try.f54.name, by decide, Try.func54.trans (congrArg some (by kernel_rfl))⟩
  f8 := Try.func55.trans (congrArg some (by kernel_rfl))
  f10 := ⟨Try.f57.name, by decide, Try.func57.trans (congrArg some (by kernel_rfl))⟩
  f11 := ⟨Try.f58.name, by decide, Try.func58.trans (congrArg some (by kernel_rfl))⟩
  f12 := ⟨Try.f59.name, by decide, Try.func59.trans (congrArg some (by kernel_rfl))⟩
  f13 := ⟨Try.f60.name, by decide, Try.func60.trans (congrArg some (by kernel_rfl))⟩
  f14 := ⟨Try.f61.name, by decide, Try.func61.trans (congrArg some (by kernel_rfl))⟩
  f15 := ⟨Try.f62.name, by decide, Try.func62.trans (congrArg some (by kernel_rfl))⟩
  f16 := ⟨Try.f63.name, by decide, Try.func63.trans (congrArg some (by kernel_rfl))⟩
  f17 := ⟨Try.f64.name, by decide, Try.func64.trans (congrArg some (by kernel_rfl))⟩
  f18 := ⟨Try.f65.name, by decide, Try.func65.trans (congrArg some (by kernel_rfl))⟩
  f19 := Try.func66.trans (congrArg some (by kernel_rfl))
  f20 := Try.func67.trans (congrArg some (by kernel_rfl))
  f30 := ⟨Try.f68.name, by decide, Try.func68.trans (congrArg some (by kernel_rfl))⟩
  f31 := Try.func69.trans (congrArg some (by kernel_rfl))
  f32 := Try.func70.trans (congrArg some (by kernel_rfl))
  f33 := ⟨Try.f71.name, by decide, Try.func71.trans (congrArg some (by kernel_rfl))⟩
  f34 := ⟨Try.f72.name, by decide, Try.func72.trans (congrArg some (by kernel_rfl))⟩
  f35 := ⟨Try.f73.name, by decide, Try.func73.trans (congrArg some (by kernel_rfl))⟩
  f40 := ⟨Try.f74.name, by decide, Try.func74.trans (congrArg some (by kernel_rfl))⟩
  t0 := Try.underlying0
  a0 := Try.isAgg0
  z0 := Try.sizeOf0
  v0 := Try.zeroValue0
  t3 := Try.underlying3
  a3 := Try.isAgg3
  z3 := Try.sizeOf3
  v3 := Try.zeroValue3
  t4 := Try.underlying4
  a4 := Try.isAgg4
  z4 := Try.sizeOf4
  v4 := Try.zeroValue4
  t5 := Try.underlying5
  a5 := Try.isAgg5
  z5 := Try.sizeOf5
  v5 := Try.zeroValue5
  t9 := Try.underlying9
  a9 := Try.isAgg9
  z9 := Try.sizeOf9
  v9 := Try.zeroValue9
  t22 := Try.underlying76
  a22 := Try.isAgg76
  z22 := Try.sizeOf76
  v22 := Try.zeroValue76
  t23 := Try.underlying76
  a23 := Try.isAgg76
  z23 := Try.sizeOf76
  v23 := Try.zeroValue76
  t25 := Try.underlying3
  a25 := Try.isAgg3
  z25 := Try.sizeOf3
  v25 := Try.zeroValue3
  t32 := Try.underlying92
  a32 := Try.isAgg92
  z32 := Try.sizeOf92
  v32 := Try.zeroValue92
  t35 := Try.underlying95
  a35 := Try.isAgg95
  z35 := Try.sizeOf95
  v35 := Try.zeroValue95
  t36 := Try.underlying96
  a36 := Try.isAgg96
  z36 := Try.sizeOf96
  v36 := Try.zeroValue96
  t41 := Try.underlying101
  a41 := Try.isAgg101
  z41 := Try.sizeOf101
  v41 := Try.zeroValue101
  t44 := Try.underlying104
  a44 := Try.isAgg104
  z44 := Try.sizeOf104
  v44 := Try.zeroValue104
  t46 := Try.underlying35
  a46 := Try.isAgg35
  z46 := Try.sizeOf35
  v46 := Try.zeroValue35
  t53 := Try.underlying106
  a53 := Try.isAgg106
  z53 := Try.sizeOf106
  v53 := Try.zeroValue106
  t57 := Try.underlying109
  a57 := Try.isAgg109
  z57 := Try.sizeOf109
  v57 := Try.zeroValue109
  t63 := Try.underlying111
  a63 := Try.isAgg111
  z63 := Try.sizeOf111
  v63 := Try.zeroValue111
  t64 := Try.underlying112
  a64 := Try.isAgg112
  z64 := Try.sizeOf112
  v64 := Try.zeroValue112 }
theorem sk_sorts (m : Nat) : AnyZI.SortsIn Try.prog skSorted_ren Fence.wide m :=
  ⟨fun blk off cap ss W hH hblk hsz => callsIn_wide.2 (AnyM.slices_Sort_int skSort blk off cap ss W hH hblk hsz),
   fun p cap W => callsIn_wide.2 (AnyM.slices_Sort_int_none skSort p cap W)⟩
def skR (_ : Value) : Option (DataW Unit × List MemPlace) := some (.nil, [])
abbrev skE (e : ME (Nat → Int)) : Lit × DataW Unit := (.int .i64 e.1, .nil)
theorem sk_rd {P : Program} {kt : TypeId} (hk : P.underlying kt = some (.int .i64)) (e : ME (Nat → Int)) (hb : 0 ≤ e.1 ∧ e.1 < 16384) : Go.WideElems.rd P kt skR (mEnt secV e) = some (skE e) := by
  have hw : (Lit.int .i64 e.1).wf = true := by
    simp [Lit.wf, IntKind.min, IntKind.max, IntKind.bits, IntKind.signed]
    omega
  simp [Go.WideElems.rd, keyOf, hk, mapKey, mEnt, hw, skR]
abbrev skD (M : List (ME (Nat → Int))) : DataW Unit := .map ((M.map skE).foldr DataW.insert [])
theorem sk_owns {P : Program} {kt : TypeId} (hk : P.underlying kt = some (.int .i64)) (M : List (ME (Nat → Int))) (cl b : Nat) (w : World) (hnd : (M.map (·.1)).Nodup) (hbd : ∀ e ∈ M, 0 ≤ e.1 ∧ e.1 < 16384) (hml : M.length ≤ 16384) (hcl : ∀ e ∈ M, e.2.2 < cl) (hbn : (M.map (·.2.2)).Nodup)
    (hb : w.heap[b]? = some (.map (mEs secV M) cl)) : w.ownsMap P kt skR b M.length (skD M) := by
  refine ⟨_, _, hb, ⟨by simp [mEs, maxLen]; omega, ⟨?_, ?_, ?_⟩, ?_⟩, by simp [mEs], ?_⟩
  · intro x hx
    simp only [mEs, List.mem_map] at hx
    obtain ⟨e, he, rfl⟩ := hx
    exact hcl e he
  · simpa [mEs, Function.comp_def, mEnt] using hbn
  · have h1 : ((mEs secV M).toList.map (·.key)) = (M.map (·.1)).map encZ := by simp [mEs, Function.comp_def, mEnt]
    rw [h1]
    exact List.Pairwise.map _ (fun a b h h2 => h (encZ_inj h2)) hnd
  · intro x hx
    simp only [mEs, List.mem_map] at hx
    obtain ⟨e, he, rfl⟩ := hx
    exact ⟨_, sk_rd hk e (hbd e he)⟩
  · have h1 : (mEs secV M).toList.map (rg P kt skR) = M.map skE := by
      simp only [mEs, List.map_map]
      refine List.map_congr_left fun e he => ?_
      simp [rg, sk_rd hk e (hbd e he)]
    rw [h1]
theorem sk_keys (M : List (ME (Nat → Int))) : (intKeys (skD M)).Perm (M.map (·.1)) := by
  have h1 := (sorted_perm (M.map skE)).map (fun p => Go.intOf p.1)
  have h2 : (M.map skE).map (fun p => Go.intOf p.1) = M.map (·.1) := by simp [Function.comp_def, Go.intOf]
  rw [h2] at h1
  exact h1
theorem merge_eq {a b : List Int} (h : a.Perm b) : (a.mergeSort fun x y => decide (x ≤ y)) = b.mergeSort fun x y => decide (x ≤ y) := by
  have tr : ∀ x y z : Int, decide (x ≤ y) = true → decide (y ≤ z) = true → decide (x ≤ z) = true := by intro x y z; simp; omega
  have to : ∀ x y : Int, (decide (x ≤ y) || decide (y ≤ x)) = true := by intro x y; simp; omega
  refine List.Perm.eq_of_pairwise (le := fun x y : Int => x ≤ y) ?_ ?_ ?_ ?_
  · intro x y _ _ h1 h2; omega
  · exact (List.pairwise_mergeSort tr to a).imp (fun h => by simpa using h)
  · exact (List.pairwise_mergeSort tr to b).imp (fun h => by simpa using h)
  · exact (List.mergeSort_perm _ _).trans (h.trans (List.mergeSort_perm _ _).symm)
set_option maxRecDepth 100000 in
set_option maxHeartbeats 2000000 in
theorem sort_ok : SortOK := by
  intro gm z cl M w hnd hbd hml hcl hbn hL
  have hz := hL.ok (.blk z (.cells #[.map (some gm)] 59 (0, 0))) (by simp)
  have hm := hL.ok (.blk gm (.map (mEs secV M) cl)) (by simp)
  simp only [Chunk.ok] at hz hm
  have hown := sk_owns (P := Try.prog) (kt := 3) Try.underlying3 M cl gm w hnd hbd hml hcl hbn hm
  have hsz : Maps.size (skD M) = M.length := by
    show ((M.map skE).foldr DataW.insert []).length = _
    rw [length_sorted, List.length_map]
  have hcell : w.cell? ⟨z, 0, none⟩ = some (.map (some gm)) := by simp [World.cell?, hz]
  have hseq : SeqGives Fence.wide 2 Try.prog 50 #[.pointer (some ⟨z, 0, none⟩)] encZ (fun ss => ss.Perm (intKeys (skD M))) (Maps.size (skD M)) w :=
    AnyZI.keys_gives (ρ := skKeys_ren) { skKeys with } Fence.wide _ trivial rfl (by omega) z gm M.length (skD M) w (Array.getElem?_eq_some_iff.1 hz).1 hcell hown
  have cS := AnyZI.sorted_in skSorted Fence.wide 5 trivial trivial trivial trivial rfl (by omega) (sk_sorts _) (enters_of Try.func49 (by kernel_rfl) rfl) 50 #[.pointer (some ⟨z, 0, none⟩)] trivial (enters_of Try.func50 (by kernel_rfl) rfl) _ _ (by rw [hsz]; simp [maxLen]; omega) (by rw [hsz]; omega) _ hseq
  refine ⟨Calls.mono ((callsIn_wide (n := 5)).1 cS) ?_⟩
  rintro e w' ⟨v, ss, rfl, hS, ⟨hl1, hrow⟩, hnil, hb⟩
  have hk : (ss.mergeSort fun x y => decide (x ≤ y)) = keysOf M := merge_eq (hS.trans (sk_keys M))
  have hkl : (keysOf M).length = ss.length := by rw [← hk, List.length_mergeSort]
  rw [hk] at hl1 hrow
  rcases hrow with ⟨rfl, h0⟩ | ⟨g, cap, cur, rfl, hg, hh, hc1, hc2, hc3, hc4⟩
  · have h9 : keysOf M = [] := List.eq_nil_of_length_eq_zero (by omega)
    refine ⟨(none, 0, keysOf M), by rw [h9]; rfl, Ch.of_below hb, ?_, ?_, ⟨⟨by rw [h9]; exact Nat.le_refl _, Nat.zero_le _, .inl ⟨rfl, by rw [h9]; rfl⟩⟩, rfl⟩⟩
    · rw [h9]
      exact ⟨fun c hc => by simp at hc; subst hc; simp [Chunk.ok], by simp [feet, Chunk.foot]⟩
    · simp [feet, Chunk.foot]
  · refine ⟨(some ⟨g, 0, none⟩, cap, keysOf M), by dsimp only; rw [hkl], Ch.of_below hb, ?_, ?_, ⟨⟨by dsimp only; omega, hc2, .inr ⟨g, rfl⟩⟩, rfl⟩⟩
    · refine ⟨fun c hc => ?_, by simp [feet, Chunk.foot]⟩
      simp at hc
      subst hc
      refine .inr ⟨g, cur, rfl, hh, hc3, ?_⟩
      rw [List.length_map, hkl]
      simpa using hc4
    · intro g2 hg2
      simp [feet, Chunk.foot] at hg2
      subst hg2
      exact .inr hg
end Go.Proofs.Ytaccldkgopeggaa
namespace Go.Proofs.Ytaccldkgopeggaa
open Go Go.RowKit
set_option linter.unusedVariables false
set_option linter.unusedSimpArgs false
theorem apart_sl {L' A : List Chunk} {b : Option Addr} {cap e sz : Nat} {xs : List Value} (hm : Chunk.sl b cap e sz xs ∈ L') (h : ∀ g ∈ feet A, g ∉ feet L') : ∀ g o, b = some ⟨g, o, none⟩ → g ∉ feet A := by
  intro g o hb hg
  exact h g hg (List.mem_flatMap.2 ⟨_, hm, by rw [hb]; simp [Chunk.foot]⟩)
theorem Dk.new_len (n : Nat) : (Dk.new n).secs.length = n := by simp [Dk.new]
theorem Dk.put_gone (D : Dk) (i : Nat) (f : Nat → Int) : (D.lit.put i f).gone = false := by
  unfold Dk.put; split <;> rfl
set_option maxRecDepth 100000 in
set_option maxHeartbeats 4000000 in
theorem sect_c (gd gw gm : Nat) (D : Dk) (w : World) (hD : Has (DskL gd gw gm D) w) : CA Try.prog 28 [.pointer (some ⟨gd, 0, none⟩)] w (RV (.int .i64 D.secs.length) w) := by
  refine enter (L := DskL gd gw gm D) (X := []) Try.func28 rfl Try.ntmps28 rfl rfl hD ?_
  repeat (first | refine c_seq ?_ | (refine c_region (id := 0) ?_; refine sq qa ?_; refine l_nil ?_) | (refine c_region (id := 1) ?_; refine sq qm ?_; refine sq qn ?_; refine sq qf ?_; refine sq ql ?_; refine sq qls ?_; refine sq qa ?_; refine l_nil ?_) | refine n_then ?_ | refine c_block ?_ | refine c_skip ?_ | refine n_block ?_ | refine c_exit ?_ | refine n_then_exit ?_ | refine n_block_eq ?_ | refine n_block_ne rfl ?_ | refine c_ret ?_ | refine n_then_ret ?_ | refine n_block_ret ?_ | refine c_cond_t rfl ?_ | refine c_cond_f rfl ?_ | refine r_succ ?_ )
  (first | apply r_ret () | apply r_end ()); exact rfl; exact rfl; exact (.tmp rfl .nil); exact rfl; exact (List.nil_sublist _); exact new_nil; exact trivial
end Go.Proofs.Ytaccldkgopeggaa
namespace Go.Proofs.Ytaccldkgopeggaa
open Go Go.RowKit
set_option linter.unusedVariables false
set_option linter.unusedSimpArgs false
structure Dk.OK (n : Nat) (D : Dk) : Prop where
  len : D.secs.length = n
  n9 : n ≤ 16384
  ks : (D.M.map (·.1)).Nodup
  bd : ∀ e ∈ D.M, 0 ≤ e.1 ∧ e.1 < n
  cl : ∀ e ∈ D.M, e.2.2 < D.cl
  bs : (D.M.map (·.2.2)).Nodup
  ml : D.M.length ≤ D.cl
  hf : 0 ≤ D.fuse ∧ D.fuse ≤ 9223372036854775807
theorem Dk.OK.le {n : Nat} {D : Dk} (h : D.OK n) : D.secs.length ≤ 16384 := by rw [h.len]; exact h.n9
theorem Dk.OK.new (n : Nat) (hn : n ≤ 16384) : (Dk.new n).OK n := ⟨Dk.new_len n, hn, .nil, by simp [Dk.new], by simp [Dk.new], .nil, by simp [Dk.new], by simp [Dk.new]⟩
theorem Dk.OK.dead {n : Nat} {D : Dk} (h : D.OK n) : D.dead.OK n := ⟨h.len, h.n9, h.ks, h.bd, h.cl, h.bs, h.ml, h.hf⟩
theorem Dk.OK.lit {n : Nat} {D : Dk} (h : D.OK n) (hp : D.pgone = false) : D.lit.OK n := ⟨h.len, h.n9, h.ks, h.bd, h.cl, h.bs, h.ml, by
  have h1 := h.hf
  unfold Dk.pgone at hp
  simp only [Dk.lit]
  cases hfu : D.fused with
  | false => simpa using h1
  | true =>
    simp [hfu] at hp
    simp
    omega⟩
theorem mFind_none {M : List (ME (Nat → Int))} {i : Int} (h : mFind M i = none) : i ∉ M.map (·.1) := by
  intro hm
  obtain ⟨e, he, hi⟩ := List.mem_map.1 hm
  obtain ⟨f, hf⟩ := mFind_mem he hi
  rw [hf] at h
  cases h
theorem Dk.OK.put {n : Nat} {D : Dk} (h : D.OK n) (i : Nat) (hi : i < n) (f : Nat → Int) : (D.put i f).OK n := by
  unfold Dk.put
  split
  · next hm =>
    refine ⟨by simpa using h.len, h.n9, ?_, ?_, ?_, ?_, by simpa using h.ml, h.hf⟩
    · simp only [List.map_append, List.map_cons, List.map_nil]
      exact List.nodup_append.2 ⟨h.ks, by simp, fun a ha b hb => by simp at hb; subst hb; exact fun e => mFind_none hm (e ▸ ha)⟩
    · intro e he
      rcases List.mem_append.1 he with he | he
      · exact h.bd e he
      · simp at he; subst he; exact ⟨by simp, by simpa using hi⟩
    · intro e he
      rcases List.mem_append.1 he with he | he
      · exact Nat.lt_succ_of_lt (h.cl e he)
      · simp at he; subst he; simp
    · simp only [List.map_append, List.map_cons, List.map_nil]
      refine List.nodup_append.2 ⟨h.bs, by simp, fun a ha b hb => ?_⟩
      simp at hb
      subst hb
      obtain ⟨e, he, rfl⟩ := List.mem_map.1 ha
      have := h.cl e he
      omega
  · exact ⟨by simpa using h.len, h.n9, h.ks, h.bd, h.cl, h.bs, h.ml, h.hf⟩
theorem Dk.OK.still {n : Nat} {D : Dk} (h : D.OK n) : D.still.OK n := ⟨h.len, h.n9, .nil, by simp [Dk.still], by simp [Dk.still], .nil, by simp [Dk.still], h.hf⟩
theorem crashK_len (M : List (ME (Nat → Int))) (fate : List Int) : ∀ (is : List Int) (t : Nat) (secs : List (Nat → Int)), (crashK M fate t is secs).length = secs.length
  | [], _, _ => rfl
  | i :: is, t, secs => by rw [crashK, crashK_len M fate is, List.length_set]
theorem Dk.OK.crash {n : Nat} {D : Dk} (h : D.OK n) (fate : List Int) : (D.crash fate).OK n := ⟨by simp only [Dk.crash, crashK_len]; exact h.len, h.n9, .nil, by simp [Dk.crash], by simp [Dk.crash], .nil, by simp [Dk.crash], by simp [Dk.crash]⟩
theorem put_cl (D : Dk) (i : Nat) (f : Nat → Int) : (D.put i f).cl ≤ D.cl + 1 := by
  unfold Dk.put; split <;> simp
theorem put_fused (D : Dk) (i : Nat) (f : Nat → Int) : (D.put i f).fused = D.fused := by
  unfold Dk.put; split <;> rfl
theorem crash_k {n : Nat} (gd gw gm : Nat) (D : Dk) (h : D.OK n) (hcl : D.cl ≤ 16384) (a : Option Addr) (fl cap0 : Nat) (fate : List Int) (hfl : fate.length = fl) (hfr : ∀ x ∈ fate, 0 ≤ x ∧ x ≤ 255) (hfc : fl ≤ 9223372036854775807) (w : World) (hs : SlE (Value.int .u8) w a fate) (hx : 0 < fl → ∀ g o, a = some ⟨g, o, none⟩ → g ∉ [gd, gw, gm]) (hD : Has (DskL gd gw gm D) w) :
    CA Try.prog 25 [.pointer (some ⟨gd, 0, none⟩), .slice a fl cap0] w (Ret (fun _ : Unit => .tuple #[]) [gd, gw, gm] (fun _ => DskL gd gw gm (D.crash fate)) (fun _ => True) w) :=
  crash_c sort_ok gd gw gm D h.le h.ks (by rw [h.len]; exact h.bd) h.cl (Nat.le_trans h.ml hcl) h.bs a fl cap0 fate hfl hfr hfc w hs hx hD
end Go.Proofs.Ytaccldkgopeggaa
namespace Go.Proofs.Ytaccldkgopeggaa
open Go Go.RowKit
set_option linter.unusedVariables false
set_option linter.unusedSimpArgs false
structure HdK (h : Hd) : Prop where
  ser : 0 ≤ h.ser ∧ h.ser ≤ 18446744073709551615
  cnt : 0 ≤ h.cnt ∧ h.cnt ≤ 18446744073709551615
  nt : RB h.nt
  hi : ∀ j, 16 ≤ j → h.nt j = 0
theorem RB.zero : RB (fun _ => 0) := ⟨fun _ => by omega⟩
theorem hdZ_K : HdK hdZ := ⟨by decide, by decide, RB.zero, fun _ _ => rfl⟩
theorem hdOf_K {F : Nat → Int} (hF : RB F) : HdK (hdOf F) := by
  have h1 := numB_rng hF 0 8
  have h2 := numB_rng hF 8 8
  have e : (256 : Int) ^ 8 = 18446744073709551616 := by decide
  rw [e] at h1 h2
  refine ⟨⟨h1.1, by have := h1.2; simp only [hdOf]; omega⟩, ⟨h2.1, by have := h2.2; simp only [hdOf]; omega⟩, ⟨fun j => ?_⟩, fun j hj => ?_⟩
  · simp only [hdOf]
    split
    · exact hF.h _
    · omega
  · simp only [hdOf]
    rw [if_neg (by omega)]
theorem shN_rng (x : Int) (i : Nat) : 0 ≤ shN x i ∧ shN x i ≤ 255 := by
  unfold shN; omega
theorem secH_RB {h : Hd} (hk : HdK h) : RB (secH h) := by
  refine ⟨fun j => ?_⟩
  unfold secH
  rw [List.getD_eq_getElem?_getD]
  cases hg : (halfL h)[j % 32]? with
  | none => simp
  | some v =>
    have hm : v ∈ halfL h := List.mem_of_getElem? hg
    rw [Option.getD_some]
    unfold halfL at hm
    simp only [List.mem_cons, List.not_mem_nil, or_false] at hm
    rcases hm with rfl | rfl | rfl | rfl | rfl | rfl | rfl | rfl | rfl | rfl | rfl | rfl | rfl | rfl | rfl | rfl | rfl | rfl | rfl | rfl | rfl | rfl | rfl | rfl | rfl | rfl | rfl | rfl | rfl | rfl | rfl | rfl
    · exact shN_rng _ _
    · exact shN_rng _ _
    · exact shN_rng _ _
    · exact shN_rng _ _
    · exact shN_rng _ _
    · exact shN_rng _ _
    · exact shN_rng _ _
    · exact shN_rng _ _
    · exact shN_rng _ _
    · exact shN_rng _ _
    · exact shN_rng _ _
    · exact shN_rng _ _
    · exact shN_rng _ _
    · exact shN_rng _ _
    · exact shN_rng _ _
    · exact shN_rng _ _
    · exact hk.nt.h _
    · exact hk.nt.h _
    · exact hk.nt.h _
    · exact hk.nt.h _
    · exact hk.nt.h _
    · exact hk.nt.h _
    · exact hk.nt.h _
    · exact hk.nt.h _
    · exact hk.nt.h _
    · exact hk.nt.h _
    · exact hk.nt.h _
    · exact hk.nt.h _
    · exact hk.nt.h _
    · exact hk.nt.h _
    · exact hk.nt.h _
    · exact hk.nt.h _
theorem secH_S (h : Hd) : hdS (secH h) := by
  intro j hj
  unfold secH
  rw [show (32 + j) % 32 = j % 32 by omega]
theorem sh0 (x : Int) : shN x 0 = x % 256 := by
  show x / 1 % 256 = _; omega
theorem sh1 (x : Int) : shN x 1 = x / 256 % 256 := rfl
theorem sh2 (x : Int) : shN x 2 = x / 65536 % 256 := rfl
theorem sh3 (x : Int) : shN x 3 = x / 16777216 % 256 := rfl
theorem sh4 (x : Int) : shN x 4 = x / 4294967296 % 256 := rfl
theorem sh5 (x : Int) : shN x 5 = x / 1099511627776 % 256 := rfl
theorem sh6 (x : Int) : shN x 6 = x / 281474976710656 % 256 := rfl
theorem sh7 (x : Int) : shN x 7 = x / 72057594037927936 % 256 := rfl
theorem numB8 (F : Nat → Int) (o : Nat) : numB F o 8 = (((((((F (o + 0) * 256 + F (o + 1)) * 256 + F (o + 2)) * 256 + F (o + 3)) * 256 + F (o + 4)) * 256 + F (o + 5)) * 256 + F (o + 6)) * 256 + F (o + 7)) := by
  simp only [numB]; omega
theorem num_back (x : Int) (hx : 0 ≤ x ∧ x ≤ 18446744073709551615) : ((((((shN x 7 * 256 + shN x 6) * 256 + shN x 5) * 256 + shN x 4) * 256 + shN x 3) * 256 + shN x 2) * 256 + shN x 1) * 256 + shN x 0 = x := by
  rw [sh0, sh1, sh2, sh3, sh4, sh5, sh6, sh7]
  have e7 : x / 72057594037927936 % 256 = x / 72057594037927936 := by omega
  have e6 : x / 72057594037927936 * 256 + x / 281474976710656 % 256 = x / 281474976710656 := by omega
  have e5 : x / 281474976710656 * 256 + x / 1099511627776 % 256 = x / 1099511627776 := by omega
  have e4 : x / 1099511627776 * 256 + x / 4294967296 % 256 = x / 4294967296 := by omega
  have e3 : x / 4294967296 * 256 + x / 16777216 % 256 = x / 16777216 := by omega
  have e2 : x / 16777216 * 256 + x / 65536 % 256 = x / 65536 := by omega
  have e1 : x / 65536 * 256 + x / 256 % 256 = x / 256 := by omega
  rw [e7, e6, e5, e4, e3, e2, e1]
  omega
theorem hdOf_secH {h : Hd} (hk : HdK h) : hdOf (secH h) = h := by
  obtain ⟨s, c, nt⟩ := h
  have h1 : numB (secH ⟨s, c, nt⟩) 0 8 = s := by
    rw [numB8]; exact num_back s hk.ser
  have h2 : numB (secH ⟨s, c, nt⟩) 8 8 = c := by
    rw [numB8]; exact num_back c hk.cnt
  have h3 : (fun j => if j < 16 then secH ⟨s, c, nt⟩ (16 + j) else 0) = nt := by
    funext j
    by_cases hj : j < 16
    · rw [if_pos hj]
      have : ∀ j, j < 16 → secH ⟨s, c, nt⟩ (16 + j) = nt j := by
        intro j hj
        match j, hj with
        | 0, _ => rfl
        | 1, _ => rfl
        | 2, _ => rfl
        | 3, _ => rfl
        | 4, _ => rfl
        | 5, _ => rfl
        | 6, _ => rfl
        | 7, _ => rfl
        | 8, _ => rfl
        | 9, _ => rfl
        | 10, _ => rfl
        | 11, _ => rfl
        | 12, _ => rfl
        | 13, _ => rfl
        | 14, _ => rfl
        | 15, _ => rfl
        | q + 16, h => exact absurd h (by omega)
      exact this j hj
    · rw [if_neg hj]; exact (hk.hi j (by omega)).symm
  unfold hdOf
  rw [h1, h2, h3]
abbrev lgC (gd fr room : Nat) (h : Hd) (s : Value) (ov : Bool) : Array Value := #[.pointer (some ⟨gd, 0, none⟩), .int .i64 fr, .int .i64 room, .int .u64 h.ser, .int .u64 h.cnt, .int .u8 (h.nt 0), .int .u8 (h.nt 1), .int .u8 (h.nt 2), .int .u8 (h.nt 3), .int .u8 (h.nt 4), .int .u8 (h.nt 5), .int .u8 (h.nt 6), .int .u8 (h.nt 7), .int .u8 (h.nt 8), .int .u8 (h.nt 9), .int .u8 (h.nt 10), .int .u8 (h.nt 11), .int .u8 (h.nt 12), .int .u8 (h.nt 13), .int .u8 (h.nt 14), .int .u8 (h.nt 15), s, .bool ov]
abbrev LgB (gl gd fr room : Nat) (h : Hd) (s : Value) (ov : Bool) : Chunk := .blk gl (.cells (lgC gd fr room h s ov) 65 (0, 0))
theorem lg_set (gd fr room : Nat) (h h' : Hd) (s : Value) (ov : Bool) : setA (lgC gd fr room h s ov) 3 (headE h').toArray.toList = lgC gd fr room h' s ov := by
  apply Array.ext'
  simp only [lgC, setA, noteE, Array.toList_setIfInBounds, ← setL_eq, setL, Nat.reduceAdd]
set_option maxRecDepth 100000 in
set_option maxHeartbeats 4000000 in
theorem serial_c (gl gd fr room : Nat) (h : Hd) (s : Value) (ov : Bool) (w : World) (hL0 : Has [LgB gl gd fr room h s ov] w) : CA Try.prog 13 [.pointer (some ⟨gl, 0, none⟩)] w (RV (.int .u64 h.ser) w) := by
  refine enter (L := [LgB gl gd fr room h s ov]) (X := []) Try.func13 rfl Try.ntmps13 rfl rfl hL0 ?_
  repeat (first | refine c_seq ?_ | (refine c_region (id := 0) ?_; refine sq qa ?_; refine l_nil ?_) | (refine c_region (id := 1) ?_; refine sq qm ?_; refine sq qn ?_; refine sq qf ?_; refine sq qf ?_; refine sq ql ?_; refine sq qa ?_; refine l_nil ?_) | refine n_then ?_ | refine c_block ?_ | refine c_skip ?_ | refine n_block ?_ | refine c_exit ?_ | refine n_then_exit ?_ | refine n_block_eq ?_ | refine n_block_ne rfl ?_ | refine c_ret ?_ | refine n_then_ret ?_ | refine n_block_ret ?_ | refine c_cond_t rfl ?_ | refine c_cond_f rfl ?_ | refine r_succ ?_ )
  (first | apply r_ret () | apply r_end ()); exact rfl; exact rfl; exact (.tmp rfl .nil); exact rfl; exact (List.nil_sublist _); exact new_nil; exact trivial
set_option maxRecDepth 100000 in
set_option maxHeartbeats 4000000 in
theorem note_c (gl gd fr room : Nat) (h : Hd) (s : Value) (ov : Bool) (w : World) (hL0 : Has [LgB gl gd fr room h s ov] w) : CA Try.prog 14 [.pointer (some ⟨gl, 0, none⟩)] w (RV (.agg (noteE h.nt).toArray) w) := by
  refine enter (L := [LgB gl gd fr room h s ov]) (X := []) Try.func14 rfl Try.ntmps14 rfl rfl hL0 ?_
  repeat (first | refine c_seq ?_ | (refine c_region (id := 0) ?_; refine se ?_; refine ea ?_; refine l_nil ?_) | (refine c_region (id := 1) ?_; refine sq qm ?_; refine sq qn ?_; refine sq qf ?_; refine sq qf ?_; refine sq (by exact qlr (vs := noteE h.nt) (hr := RdN.blk (by (repeat (first | exact List.Mem.head _ | apply List.Mem.tail))) (by rfl)) (hl := by rfl)) ?_; refine se ?_; refine esa ?_ (hk := by rfl) (ho := by rfl) (hoff := by rfl); refine l_nil ?_) | refine n_then ?_ | refine c_block ?_ | refine c_skip ?_ | refine n_block ?_ | refine c_exit ?_ | refine n_then_exit ?_ | refine n_block_eq ?_ | refine n_block_ne rfl ?_ | refine c_ret ?_ | refine n_then_ret ?_ | refine n_block_ret ?_ | refine c_cond_t rfl ?_ | refine c_cond_f rfl ?_ | refine r_succ ?_ )
  (first | apply r_ret () | apply r_end ()); exact rfl; exact rfl; exact (.row rfl (by (repeat (first | exact List.Mem.head _ | apply List.Mem.tail))) (by rfl) .nil); exact rfl; exact (List.nil_sublist _); exact new_nil; exact trivial
set_option maxRecDepth 100000 in
set_option maxHeartbeats 4000000 in
theorem room_c (gl gd fr room : Nat) (h : Hd) (b : Option Addr) (len cap : Nat) (ov : Bool) (hr : len ≤ room ∧ room ≤ 100000000) (w : World) (hL0 : Has [LgB gl gd fr room h (.slice b len cap) ov] w) : CA Try.prog 21 [.pointer (some ⟨gl, 0, none⟩)] w (RV (.int .i64 ((room : Int) - len)) w) := by
  refine enter (L := [LgB gl gd fr room h (.slice b len cap) ov]) (X := []) Try.func21 rfl Try.ntmps21 rfl rfl hL0 ?_
  repeat (first | refine c_seq ?_ | (refine c_region (id := 0) ?_; refine sq qa ?_; refine l_nil ?_) | (refine x_region (id := 1) none [(0, .n), (1, .n), (2, .n), (3, .q), (4, .n), (5, .n), (6, .n), (7, .q), (8, .n), (9, .n), (10, .n)] _ mixed (by kernel_rfl) (List.Sublist.refl _) ?_; refine xn rfl qm ?_; refine xn rfl qn ?_; refine xn rfl qf ?_; refine xq rfl ql ?_; refine xn rfl qm ?_; refine xn rfl qn ?_; refine xn rfl qf ?_; refine xq rfl ql ?_; refine xn rfl qls ?_; refine xn rfl qsub64 ?_; refine xn rfl qa ?_; refine x_nil ?_) | refine n_then ?_ | refine c_block ?_ | refine c_skip ?_ | refine n_block ?_ | refine c_exit ?_ | refine n_then_exit ?_ | refine n_block_eq ?_ | refine n_block_ne rfl ?_ | refine c_ret ?_ | refine n_then_ret ?_ | refine n_block_ret ?_ | refine c_cond_t rfl ?_ | refine c_cond_f rfl ?_ | refine r_succ ?_ )
  (first | apply r_ret () | apply r_end ()); exact rfl; exact rfl; exact (.tmp rfl .nil); exact rfl; exact (List.nil_sublist _); exact new_nil; exact trivial
set_option maxRecDepth 100000 in
set_option maxHeartbeats 4000000 in
theorem over_c (gl gd fr room : Nat) (h : Hd) (s : Value) (ov : Bool) (w : World) (hL0 : Has [LgB gl gd fr room h s ov] w) : CA Try.prog 22 [.pointer (some ⟨gl, 0, none⟩)] w (RV (.bool ov) w) := by
  cases ov with
  | true =>
    refine enter (L := [LgB gl gd fr room h s true]) (X := []) Try.func22 rfl Try.ntmps22 rfl rfl hL0 ?_
    repeat (first | refine c_seq ?_ | (refine c_region (id := 0) ?_; refine sq qa ?_; refine l_nil ?_) | (refine c_region (id := 1) ?_; refine sq qm ?_; refine sq qn ?_; refine sq qf ?_; refine sq ql ?_; refine sq qm ?_; (first | refine sk ?_ | refine skv ?_ | (refine st_want rfl rfl ?_; refine sq qm ?_)); (first | refine sk ?_ | refine skv ?_ | (refine st_want rfl rfl ?_; refine sq qn ?_)); (first | refine sk ?_ | refine skv ?_ | (refine st_want rfl rfl ?_; refine sq qf ?_)); (first | refine sk ?_ | refine skv ?_ | (refine st_want rfl rfl ?_; refine sq ql ?_)); (first | refine sk ?_ | refine skv ?_ | (refine st_want rfl rfl ?_; refine sq (by exact q_eql_pnil rfl rfl (by kernel_rfl)) ?_)); refine sq (by first | exact qpt | exact qpf) ?_; refine sq qa ?_; refine l_nil ?_) | refine n_then ?_ | refine c_block ?_ | refine c_skip ?_ | refine n_block ?_ | refine c_exit ?_ | refine n_then_exit ?_ | refine n_block_eq ?_ | refine n_block_ne rfl ?_ | refine c_ret ?_ | refine n_then_ret ?_ | refine n_block_ret ?_ | refine c_cond_t rfl ?_ | refine c_cond_f rfl ?_ | refine r_succ ?_ )
    (first | apply r_ret () | apply r_end ()); exact rfl; exact rfl; exact (.tmp rfl .nil); exact rfl; exact (List.nil_sublist _); exact new_nil; exact trivial
  | false =>
    refine enter (L := [LgB gl gd fr room h s false]) (X := []) Try.func22 rfl Try.ntmps22 rfl rfl hL0 ?_
    repeat (first | refine c_seq ?_ | (refine c_region (id := 0) ?_; refine sq qa ?_; refine l_nil ?_) | (refine c_region (id := 1) ?_; refine sq qm ?_; refine sq qn ?_; refine sq qf ?_; refine sq ql ?_; refine sq qm ?_; (first | refine sk ?_ | refine skv ?_ | (refine st_want rfl rfl ?_; refine sq qm ?_)); (first | refine sk ?_ | refine skv ?_ | (refine st_want rfl rfl ?_; refine sq qn ?_)); (first | refine sk ?_ | refine skv ?_ | (refine st_want rfl rfl ?_; refine sq qf ?_)); (first | refine sk ?_ | refine skv ?_ | (refine st_want rfl rfl ?_; refine sq ql ?_)); (first | refine sk ?_ | refine skv ?_ | (refine st_want rfl rfl ?_; refine sq (by exact q_eql_pnil rfl rfl (by kernel_rfl)) ?_)); refine sq (by first | exact qpt | exact qpf) ?_; refine sq qa ?_; refine l_nil ?_) | refine n_then ?_ | refine c_block ?_ | refine c_skip ?_ | refine n_block ?_ | refine c_exit ?_ | refine n_then_exit ?_ | refine n_block_eq ?_ | refine n_block_ne rfl ?_ | refine c_ret ?_ | refine n_then_ret ?_ | refine n_block_ret ?_ | refine c_cond_t rfl ?_ | refine c_cond_f rfl ?_ | refine r_succ ?_ )
    (first | apply r_ret () | apply r_end ()); exact rfl; exact rfl; exact (.tmp rfl .nil); exact rfl; exact (List.nil_sublist _); exact new_nil; exact trivial
set_option maxRecDepth 100000 in
set_option maxHeartbeats 4000000 in
theorem bytes_c (gl gd fr room : Nat) (h : Hd) (b : Option Addr) (cap : Nat) (ov : Bool) (xs : List Int) (hbig : xs.length ≤ 100000000) (w : World) (hs : SlE (Value.int .u8) w b xs) (hL0 : Has [LgB gl gd fr room h (.slice b xs.length cap) ov] w) : CA Try.prog 12 [.pointer (some ⟨gl, 0, none⟩)] w (RLe (Value.int .u8) 5 (fun zs => zs = xs) w) := by
  refine enter (L := [LgB gl gd fr room h (.slice b xs.length cap) ov]) (X := []) Try.func12 rfl Try.ntmps12 rfl rfl hL0 ?_
  repeat (first | refine c_seq ?_ | (refine c_region (id := 0) ?_; refine sq qa ?_; refine l_nil ?_) | (refine c_region (id := 1) ?_; refine sq qm ?_; refine sq qn ?_; refine sq qf ?_; refine sq ql ?_; refine se ?_; refine e_callL (enc := (Value.int .u8)) (e := 5) rfl rfl (by kernel_rfl) rfl (fun w hC hm hL => by exact clone_c b xs.length cap xs rfl hbig w (hs.ch0 hC)) ?_; intro b1 cap1 zs m1 hz1 ho1 hm1; refine sq qa ?_; refine l_nil ?_) | refine n_then ?_ | refine c_block ?_ | refine c_skip ?_ | refine n_block ?_ | refine c_exit ?_ | refine n_then_exit ?_ | refine n_block_eq ?_ | refine n_block_ne rfl ?_ | refine c_ret ?_ | refine n_then_ret ?_ | refine n_block_ret ?_ | refine c_cond_t rfl ?_ | refine c_cond_f rfl ?_ | refine r_succ ?_ )
  subst hz1
  (first | apply r_ret (b1, cap1, zs) | apply r_end (b1, cap1, zs)); exact rfl; exact rfl; exact (.tmp rfl .nil); exact rfl; exact (by exact (by (repeat (first | exact List.nil_sublist _ | exact List.Sublist.slnil | apply List.Sublist.cons_cons | exact List.Sublist.refl _ | apply List.Sublist.cons)))); exact (new_sl ho1.newc new_nil); exact ⟨by have h9 := ho1.ret; exact h9, rfl⟩
set_option maxRecDepth 100000 in
set_option maxHeartbeats 4000000 in
theorem ready_y (gl gd fr room : Nat) (h : Hd) (s : Value) (hser : 0 ≤ h.ser ∧ h.ser < 4611686018427387904) (w : World) (hL0 : Has [LgB gl gd fr room h s false] w) : CA Try.prog 31 [.pointer (some ⟨gl, 0, none⟩)] w (RV (.int .i64 0) w) := by
  refine enter (L := [LgB gl gd fr room h s false]) (X := []) Try.func31 rfl Try.ntmps31 rfl rfl hL0 ?_
  repeat (first | refine c_seq ?_ | (refine c_region (id := 0) ?_; refine sq qa ?_; refine l_nil ?_) | (refine c_region (id := 1) ?_; refine sq qm ?_; refine se ?_; refine ecp rfl rfl (fun w hC hm hL => by exact over_c gl gd fr room h s false w (hL.sub (by (repeat (first | exact List.nil_sublist _ | exact List.Sublist.slnil | apply List.Sublist.cons_cons | exact List.Sublist.refl _ | apply List.Sublist.cons))))) ?_; intro m' hm'; refine l_nil ?_) | (refine c_region (id := 2) ?_; refine sq qa ?_; refine l_nil ?_) | (refine c_region (id := 3) ?_; refine sq qm ?_; refine sq qn ?_; refine sq qf ?_; refine sq qf ?_; refine sq ql ?_; refine sq (by first | exact dgeqt | exact dgeqf) ?_; refine l_nil ?_) | (refine c_region (id := 4) ?_; refine sq qa ?_; refine l_nil ?_) | (refine c_region (id := 5) ?_; refine sq qa ?_; refine l_nil ?_) | refine n_then ?_ | refine c_block ?_ | refine c_skip ?_ | refine n_block ?_ | refine c_exit ?_ | refine n_then_exit ?_ | refine n_block_eq ?_ | refine n_block_ne rfl ?_ | refine c_ret ?_ | refine n_then_ret ?_ | refine n_block_ret ?_ | refine c_cond_t rfl ?_ | refine c_cond_f rfl ?_ | refine r_succ ?_ )
  (first | apply r_ret () | apply r_end ()); exact rfl; exact rfl; exact (.tmp rfl .nil); exact rfl; exact (List.nil_sublist _); exact new_nil; exact trivial
set_option maxRecDepth 100000 in
set_option maxHeartbeats 4000000 in
theorem ready_o (gl gd fr room : Nat) (h : Hd) (s : Value) (w : World) (hL0 : Has [LgB gl gd fr room h s true] w) : CA Try.prog 31 [.pointer (some ⟨gl, 0, none⟩)] w (RV (.int .i64 5) w) := by
  refine enter (L := [LgB gl gd fr room h s true]) (X := []) Try.func31 rfl Try.ntmps31 rfl rfl hL0 ?_
  repeat (first | refine c_seq ?_ | (refine c_region (id := 0) ?_; refine sq qa ?_; refine l_nil ?_) | (refine c_region (id := 1) ?_; refine sq qm ?_; refine se ?_; refine ecp rfl rfl (fun w hC hm hL => by exact over_c gl gd fr room h s true w (hL.sub (by (repeat (first | exact List.nil_sublist _ | exact List.Sublist.slnil | apply List.Sublist.cons_cons | exact List.Sublist.refl _ | apply List.Sublist.cons))))) ?_; intro m' hm'; refine l_nil ?_) | (refine c_region (id := 2) ?_; refine sq qa ?_; refine l_nil ?_) | (refine c_region (id := 3) ?_; refine sq qm ?_; refine sq qn ?_; refine sq qf ?_; refine sq qf ?_; refine sq ql ?_; refine sq (by first | exact dgeqt | exact dgeqf) ?_; refine l_nil ?_) | (refine c_region (id := 4) ?_; refine sq qa ?_; refine l_nil ?_) | (refine c_region (id := 5) ?_; refine sq qa ?_; refine l_nil ?_) | refine n_then ?_ | refine c_block ?_ | refine c_skip ?_ | refine n_block ?_ | refine c_exit ?_ | refine n_then_exit ?_ | refine n_block_eq ?_ | refine n_block_ne rfl ?_ | refine c_ret ?_ | refine n_then_ret ?_ | refine n_block_ret ?_ | refine c_cond_t rfl ?_ | refine c_cond_f rfl ?_ | refine r_succ ?_ )
  (first | apply r_ret () | apply r_end ()); exact rfl; exact rfl; exact (.tmp rfl .nil); exact rfl; exact (List.nil_sublist _); exact new_nil; exact trivial
set_option maxRecDepth 100000 in
set_option maxHeartbeats 4000000 in
theorem end_c (gl gd fr room : Nat) (h : Hd) (s : Value) (ov : Bool) (w : World) (hL0 : Has [LgB gl gd fr room h s ov] w) : CA Try.prog 34 [.pointer (some ⟨gl, 0, none⟩)] w (RU (.int .i64 5) gl (.cells (lgC gd fr room h s true) 65 (0, 0)) w) := by
  refine enter (L := [LgB gl gd fr room h s ov]) (X := [gl]) Try.func34 rfl Try.ntmps34 rfl rfl hL0 ?_
  repeat (first | refine c_seq ?_ | (refine c_region (id := 0) ?_; refine sq qa ?_; refine l_nil ?_) | (refine c_region (id := 1) ?_; refine sq qm ?_; refine sq qn ?_; refine sq qf ?_; refine se ?_; refine es1 ?_ (hg := .inl (by simp)); refine l_nil ?_) | (refine c_region (id := 2) ?_; refine sq qa ?_; refine l_nil ?_) | refine n_then ?_ | refine c_block ?_ | refine c_skip ?_ | refine n_block ?_ | refine c_exit ?_ | refine n_then_exit ?_ | refine n_block_eq ?_ | refine n_block_ne rfl ?_ | refine c_ret ?_ | refine n_then_ret ?_ | refine n_block_ret ?_ | refine c_cond_t rfl ?_ | refine c_cond_f rfl ?_ | refine r_succ ?_ )
  (first | apply r_ret () | apply r_end ()); exact rfl; exact rfl; exact (.tmp rfl .nil); exact rfl; exact (List.Sublist.refl _); exact (by intro g hg; simp [feet, Chunk.foot] at hg; exact .inl (by simp [hg])); exact trivial
end Go.Proofs.Ytaccldkgopeggaa
