/- SealOpens: what it needs, part 2. -/
import Derived.Test.YteopejjlhmghbaaDoorSSealOpensA
namespace Go.Proofs.YteopejjlhmghbaaDoor
open Go
instance : UT Tryd.prog 0 (TypeDesc.tuple #[]) := ⟨Tryd.underlying0⟩
instance : SzT Tryd.prog 0 1 := ⟨by kernel_rfl⟩
instance : ByT Tryd.prog 0 0 := ⟨by kernel_rfl⟩
instance : FlT Tryd.prog 0 := ⟨by kernel_rfl⟩
instance : UT Tryd.prog 1 (TypeDesc.func #[] #[] false) := ⟨Tryd.underlying1⟩
instance : SzT Tryd.prog 1 1 := ⟨by kernel_rfl⟩
instance : ByT Tryd.prog 1 8 := ⟨by kernel_rfl⟩
instance : ZrT Tryd.prog 1 (#[Value.nilFunc]) := ⟨by kernel_rfl⟩
instance : FlT Tryd.prog 1 := ⟨by kernel_rfl⟩
instance : UT Tryd.prog 2 (TypeDesc.int IntKind.i64) := ⟨Tryd.underlying2⟩
instance : SzT Tryd.prog 2 1 := ⟨by kernel_rfl⟩
instance : ByT Tryd.prog 2 8 := ⟨by kernel_rfl⟩
instance : ZrT Tryd.prog 2 (#[Value.int .i64 0]) := ⟨by kernel_rfl⟩
instance : FlT Tryd.prog 2 := ⟨by kernel_rfl⟩
instance : UT Tryd.prog 3 (TypeDesc.int IntKind.i64) := ⟨Tryd.underlying3⟩
instance : SzT Tryd.prog 3 1 := ⟨by kernel_rfl⟩
instance : ByT Tryd.prog 3 8 := ⟨by kernel_rfl⟩
instance : ZrT Tryd.prog 3 (#[Value.int .i64 0]) := ⟨by kernel_rfl⟩
instance : FlT Tryd.prog 3 := ⟨by kernel_rfl⟩
instance : UT Tryd.prog 4 TypeDesc.bool := ⟨Tryd.underlying4⟩
instance : SzT Tryd.prog 4 1 := ⟨by kernel_rfl⟩
instance : ByT Tryd.prog 4 1 := ⟨by kernel_rfl⟩
instance : ZrT Tryd.prog 4 (#[Value.bool false]) := ⟨by kernel_rfl⟩
instance : FlT Tryd.prog 4 := ⟨by kernel_rfl⟩
instance : UT Tryd.prog 5 (TypeDesc.int IntKind.u8) := ⟨Tryd.underlying5⟩
instance : SzT Tryd.prog 5 1 := ⟨by kernel_rfl⟩
instance : ByT Tryd.prog 5 1 := ⟨by kernel_rfl⟩
instance : ZrT Tryd.prog 5 (#[Value.int .u8 0]) := ⟨by kernel_rfl⟩
instance : FlT Tryd.prog 5 := ⟨by kernel_rfl⟩
instance : UT Tryd.prog 6 (TypeDesc.int IntKind.u8) := ⟨Tryd.underlying6⟩
instance : SzT Tryd.prog 6 1 := ⟨by kernel_rfl⟩
instance : ByT Tryd.prog 6 1 := ⟨by kernel_rfl⟩
instance : ZrT Tryd.prog 6 (#[Value.int .u8 0]) := ⟨by kernel_rfl⟩
instance : FlT Tryd.prog 6 := ⟨by kernel_rfl⟩
instance : UT Tryd.prog 7 (TypeDesc.struct #[{ name := "x", type := 2, offset := 0, embedded := false, tag := "", pkgPath := "runtime", byteOffset := 0 }, { name := "y", type := 3, offset := 1, embedded := false, tag := "", pkgPath := "runtime", byteOffset := 8 }, { name := "signed", type := 4, offset := 2, embedded := false, tag := "", pkgPath := "runtime", byteOffset := 16 }, { name := "code", type := 6, offset := 3, embedded := false, tag := "", pkgPath := "runtime", byteOffset := 17 }]) := ⟨Tryd.underlying7⟩
instance : SzT Tryd.prog 7 4 := ⟨by kernel_rfl⟩
instance : ByT Tryd.prog 7 24 := ⟨by kernel_rfl⟩
instance : ZrT Tryd.prog 7 (#[Value.int .i64 0, Value.int .i64 0, Value.bool false, Value.int .u8 0]) := ⟨by kernel_rfl⟩
instance : RwT Tryd.prog 7 4 := ⟨by kernel_rfl⟩
instance : PlT Tryd.prog 7 [(0, 1), (1, 1), (2, 1), (3, 1)] := ⟨by kernel_rfl⟩
instance : UT Tryd.prog 8 (TypeDesc.struct #[{ name := "x", type := 2, offset := 0, embedded := false, tag := "", pkgPath := "runtime", byteOffset := 0 }, { name := "y", type := 3, offset := 1, embedded := false, tag := "", pkgPath := "runtime", byteOffset := 8 }, { name := "signed", type := 4, offset := 2, embedded := false, tag := "", pkgPath := "runtime", byteOffset := 16 }, { name := "code", type := 6, offset := 3, embedded := false, tag := "", pkgPath := "runtime", byteOffset := 17 }]) := ⟨Tryd.underlying8⟩
instance : SzT Tryd.prog 8 4 := ⟨by kernel_rfl⟩
instance : ByT Tryd.prog 8 24 := ⟨by kernel_rfl⟩
instance : ZrT Tryd.prog 8 (#[Value.int .i64 0, Value.int .i64 0, Value.bool false, Value.int .u8 0]) := ⟨by kernel_rfl⟩
instance : RwT Tryd.prog 8 4 := ⟨by kernel_rfl⟩
instance : PlT Tryd.prog 8 [(0, 1), (1, 1), (2, 1), (3, 1)] := ⟨by kernel_rfl⟩
instance : UT Tryd.prog 9 TypeDesc.string := ⟨Tryd.underlying9⟩
instance : SzT Tryd.prog 9 1 := ⟨by kernel_rfl⟩
instance : ByT Tryd.prog 9 16 := ⟨by kernel_rfl⟩
instance : ZrT Tryd.prog 9 (#[Value.string ByteArray.empty]) := ⟨by kernel_rfl⟩
instance : FlT Tryd.prog 9 := ⟨by kernel_rfl⟩
instance : UT Tryd.prog 10 TypeDesc.string := ⟨Tryd.underlying10⟩
instance : SzT Tryd.prog 10 1 := ⟨by kernel_rfl⟩
instance : ByT Tryd.prog 10 16 := ⟨by kernel_rfl⟩
instance : ZrT Tryd.prog 10 (#[Value.string ByteArray.empty]) := ⟨by kernel_rfl⟩
instance : FlT Tryd.prog 10 := ⟨by kernel_rfl⟩
instance : UT Tryd.prog 11 TypeDesc.string := ⟨Tryd.underlying11⟩
instance : SzT Tryd.prog 11 1 := ⟨by kernel_rfl⟩
instance : ByT Tryd.prog 11 16 := ⟨by kernel_rfl⟩
instance : ZrT Tryd.prog 11 (#[Value.string ByteArray.empty]) := ⟨by kernel_rfl⟩
instance : FlT Tryd.prog 11 := ⟨by kernel_rfl⟩
instance : UT Tryd.prog 12 (TypeDesc.int IntKind.u64) := ⟨Tryd.underlying12⟩
instance : SzT Tryd.prog 12 1 := ⟨by kernel_rfl⟩
instance : ByT Tryd.prog 12 8 := ⟨by kernel_rfl⟩
instance : ZrT Tryd.prog 12 (#[Value.int .u64 0]) := ⟨by kernel_rfl⟩
instance : FlT Tryd.prog 12 := ⟨by kernel_rfl⟩
instance : UT Tryd.prog 13 (TypeDesc.struct #[{ name := "msg", type := 9, offset := 0, embedded := false, tag := "", pkgPath := "runtime", byteOffset := 0 }, { name := "addr", type := 12, offset := 1, embedded := false, tag := "", pkgPath := "runtime", byteOffset := 16 }]) := ⟨Tryd.underlying13⟩
instance : SzT Tryd.prog 13 2 := ⟨by kernel_rfl⟩
instance : ByT Tryd.prog 13 24 := ⟨by kernel_rfl⟩
instance : ZrT Tryd.prog 13 (#[Value.string ByteArray.empty, Value.int .u64 0]) := ⟨by kernel_rfl⟩
instance : RwT Tryd.prog 13 2 := ⟨by kernel_rfl⟩
instance : PlT Tryd.prog 13 [(0, 1), (1, 1)] := ⟨by kernel_rfl⟩
instance : UT Tryd.prog 14 (TypeDesc.struct #[{ name := "msg", type := 9, offset := 0, embedded := false, tag := "", pkgPath := "runtime", byteOffset := 0 }, { name := "addr", type := 12, offset := 1, embedded := false, tag := "", pkgPath := "runtime", byteOffset := 16 }]) := ⟨Tryd.underlying14⟩
instance : SzT Tryd.prog 14 2 := ⟨by kernel_rfl⟩
instance : ByT Tryd.prog 14 24 := ⟨by kernel_rfl⟩
instance : ZrT Tryd.prog 14 (#[Value.string ByteArray.empty, Value.int .u64 0]) := ⟨by kernel_rfl⟩
instance : RwT Tryd.prog 14 2 := ⟨by kernel_rfl⟩
instance : PlT Tryd.prog 14 [(0, 1), (1, 1)] := ⟨by kernel_rfl⟩
instance : UT Tryd.prog 15 (TypeDesc.pointer 126) := ⟨Tryd.underlying15⟩
instance : SzT Tryd.prog 15 1 := ⟨by kernel_rfl⟩
instance : ByT Tryd.prog 15 8 := ⟨by kernel_rfl⟩
instance : ZrT Tryd.prog 15 (#[Value.pointer none]) := ⟨by kernel_rfl⟩
instance : FlT Tryd.prog 15 := ⟨by kernel_rfl⟩
instance : UT Tryd.prog 16 (TypeDesc.pointer 129) := ⟨Tryd.underlying16⟩
instance : SzT Tryd.prog 16 1 := ⟨by kernel_rfl⟩
instance : ByT Tryd.prog 16 8 := ⟨by kernel_rfl⟩
instance : ZrT Tryd.prog 16 (#[Value.pointer none]) := ⟨by kernel_rfl⟩
instance : FlT Tryd.prog 16 := ⟨by kernel_rfl⟩
instance : UT Tryd.prog 17 (TypeDesc.pointer 138) := ⟨Tryd.underlying17⟩
instance : SzT Tryd.prog 17 1 := ⟨by kernel_rfl⟩
instance : ByT Tryd.prog 17 8 := ⟨by kernel_rfl⟩
instance : ZrT Tryd.prog 17 (#[Value.pointer none]) := ⟨by kernel_rfl⟩
instance : FlT Tryd.prog 17 := ⟨by kernel_rfl⟩
instance : UT Tryd.prog 18 (TypeDesc.struct #[{ name := "typ", type := 17, offset := 0, embedded := false, tag := "", pkgPath := "internal/runtime/maps", byteOffset := 0 }]) := ⟨Tryd.underlying18⟩
instance : SzT Tryd.prog 18 1 := ⟨by kernel_rfl⟩
instance : ByT Tryd.prog 18 8 := ⟨by kernel_rfl⟩
instance : ZrT Tryd.prog 18 (#[Value.pointer none]) := ⟨by kernel_rfl⟩
instance : RwT Tryd.prog 18 1 := ⟨by kernel_rfl⟩
instance : PlT Tryd.prog 18 [(0, 1)] := ⟨by kernel_rfl⟩
instance : UT Tryd.prog 19 (TypeDesc.struct #[{ name := "typ", type := 17, offset := 0, embedded := false, tag := "", pkgPath := "internal/runtime/maps", byteOffset := 0 }]) := ⟨Tryd.underlying19⟩
instance : SzT Tryd.prog 19 1 := ⟨by kernel_rfl⟩
instance : ByT Tryd.prog 19 8 := ⟨by kernel_rfl⟩
instance : ZrT Tryd.prog 19 (#[Value.pointer none]) := ⟨by kernel_rfl⟩
instance : RwT Tryd.prog 19 1 := ⟨by kernel_rfl⟩
instance : PlT Tryd.prog 19 [(0, 1)] := ⟨by kernel_rfl⟩
instance : UT Tryd.prog 20 (TypeDesc.interface #[]) := ⟨Tryd.underlying20⟩
instance : SzT Tryd.prog 20 1 := ⟨by kernel_rfl⟩
instance : ByT Tryd.prog 20 16 := ⟨by kernel_rfl⟩
instance : ZrT Tryd.prog 20 (#[Value.nilIface]) := ⟨by kernel_rfl⟩
instance : FlT Tryd.prog 20 := ⟨by kernel_rfl⟩
instance : UT Tryd.prog 21 (TypeDesc.int IntKind.i32) := ⟨Tryd.underlying21⟩
instance : SzT Tryd.prog 21 1 := ⟨by kernel_rfl⟩
instance : ByT Tryd.prog 21 4 := ⟨by kernel_rfl⟩
instance : ZrT Tryd.prog 21 (#[Value.int .i32 0]) := ⟨by kernel_rfl⟩
instance : FlT Tryd.prog 21 := ⟨by kernel_rfl⟩
instance : UT Tryd.prog 22 (TypeDesc.array 32 5) := ⟨Tryd.underlying22⟩
instance : SzT Tryd.prog 22 32 := ⟨by kernel_rfl⟩
instance : ByT Tryd.prog 22 32 := ⟨by kernel_rfl⟩
instance : ZrT Tryd.prog 22 ((List.replicate 32 (Value.int .u8 0)).toArray) := ⟨by kernel_rfl⟩
instance : RwT Tryd.prog 22 32 := ⟨by kernel_rfl⟩
instance : UT Tryd.prog 23 (TypeDesc.array 32 5) := ⟨Tryd.underlying23⟩
instance : SzT Tryd.prog 23 32 := ⟨by kernel_rfl⟩
instance : ByT Tryd.prog 23 32 := ⟨by kernel_rfl⟩
instance : ZrT Tryd.prog 23 ((List.replicate 32 (Value.int .u8 0)).toArray) := ⟨by kernel_rfl⟩
instance : RwT Tryd.prog 23 32 := ⟨by kernel_rfl⟩
instance : UT Tryd.prog 24 (TypeDesc.slice 5) := ⟨Tryd.underlying24⟩
instance : SzT Tryd.prog 24 1 := ⟨by kernel_rfl⟩
instance : ByT Tryd.prog 24 24 := ⟨by kernel_rfl⟩
instance : ZrT Tryd.prog 24 (#[Value.slice none 0 0]) := ⟨by kernel_rfl⟩
instance : FlT Tryd.prog 24 := ⟨by kernel_rfl⟩
instance : UT Tryd.prog 25 (TypeDesc.func #[] #[4] false) := ⟨Tryd.underlying25⟩
instance : SzT Tryd.prog 25 1 := ⟨by kernel_rfl⟩
instance : ByT Tryd.prog 25 8 := ⟨by kernel_rfl⟩
instance : ZrT Tryd.prog 25 (#[Value.nilFunc]) := ⟨by kernel_rfl⟩
instance : FlT Tryd.prog 25 := ⟨by kernel_rfl⟩
instance : UT Tryd.prog 26 (TypeDesc.func #[23, 27, 24, 24] #[24] false) := ⟨Tryd.underlying26⟩
instance : SzT Tryd.prog 26 1 := ⟨by kernel_rfl⟩
instance : ByT Tryd.prog 26 8 := ⟨by kernel_rfl⟩
instance : ZrT Tryd.prog 26 (#[Value.nilFunc]) := ⟨by kernel_rfl⟩
instance : FlT Tryd.prog 26 := ⟨by kernel_rfl⟩
instance : UT Tryd.prog 27 (TypeDesc.array 12 5) := ⟨Tryd.underlying27⟩
instance : SzT Tryd.prog 27 12 := ⟨by kernel_rfl⟩
instance : ByT Tryd.prog 27 12 := ⟨by kernel_rfl⟩
instance : ZrT Tryd.prog 27 (#[Value.int .u8 0, Value.int .u8 0, Value.int .u8 0, Value.int .u8 0, Value.int .u8 0, Value.int .u8 0, Value.int .u8 0, Value.int .u8 0, Value.int .u8 0, Value.int .u8 0, Value.int .u8 0, Value.int .u8 0]) := ⟨by kernel_rfl⟩
instance : RwT Tryd.prog 27 12 := ⟨by kernel_rfl⟩
instance : UT Tryd.prog 28 (TypeDesc.int IntKind.i64) := ⟨Tryd.underlying28⟩
instance : SzT Tryd.prog 28 1 := ⟨by kernel_rfl⟩
instance : ByT Tryd.prog 28 8 := ⟨by kernel_rfl⟩
instance : ZrT Tryd.prog 28 (#[Value.int .i64 0]) := ⟨by kernel_rfl⟩
instance : FlT Tryd.prog 28 := ⟨by kernel_rfl⟩
instance : UT Tryd.prog 29 (TypeDesc.tuple #[24, 28]) := ⟨Tryd.underlying29⟩
instance : SzT Tryd.prog 29 1 := ⟨by kernel_rfl⟩
instance : ByT Tryd.prog 29 0 := ⟨by kernel_rfl⟩
instance : FlT Tryd.prog 29 := ⟨by kernel_rfl⟩
instance : UT Tryd.prog 30 (TypeDesc.func #[23, 27, 24, 24] #[24, 28] false) := ⟨Tryd.underlying30⟩
instance : SzT Tryd.prog 30 1 := ⟨by kernel_rfl⟩
instance : ByT Tryd.prog 30 8 := ⟨by kernel_rfl⟩
instance : ZrT Tryd.prog 30 (#[Value.nilFunc]) := ⟨by kernel_rfl⟩
instance : FlT Tryd.prog 30 := ⟨by kernel_rfl⟩
instance : UT Tryd.prog 31 (TypeDesc.func #[23, 24] #[4] false) := ⟨Tryd.underlying31⟩
instance : SzT Tryd.prog 31 1 := ⟨by kernel_rfl⟩
instance : ByT Tryd.prog 31 8 := ⟨by kernel_rfl⟩
instance : ZrT Tryd.prog 31 (#[Value.nilFunc]) := ⟨by kernel_rfl⟩
instance : FlT Tryd.prog 31 := ⟨by kernel_rfl⟩
instance : UT Tryd.prog 32 (TypeDesc.array 2 24) := ⟨Tryd.underlying32⟩
instance : SzT Tryd.prog 32 2 := ⟨by kernel_rfl⟩
instance : ByT Tryd.prog 32 48 := ⟨by kernel_rfl⟩
instance : ZrT Tryd.prog 32 (#[Value.slice none 0 0, Value.slice none 0 0]) := ⟨by kernel_rfl⟩
instance : RwT Tryd.prog 32 2 := ⟨by kernel_rfl⟩
instance : UT Tryd.prog 33 (TypeDesc.int IntKind.u16) := ⟨Tryd.underlying33⟩
instance : SzT Tryd.prog 33 1 := ⟨by kernel_rfl⟩
instance : ByT Tryd.prog 33 2 := ⟨by kernel_rfl⟩
instance : ZrT Tryd.prog 33 (#[Value.int .u16 0]) := ⟨by kernel_rfl⟩
instance : FlT Tryd.prog 33 := ⟨by kernel_rfl⟩
instance : UT Tryd.prog 34 (TypeDesc.func #[23, 24, 24] #[4] false) := ⟨Tryd.underlying34⟩
instance : SzT Tryd.prog 34 1 := ⟨by kernel_rfl⟩
instance : ByT Tryd.prog 34 8 := ⟨by kernel_rfl⟩
instance : ZrT Tryd.prog 34 (#[Value.nilFunc]) := ⟨by kernel_rfl⟩
instance : FlT Tryd.prog 34 := ⟨by kernel_rfl⟩
instance : UT Tryd.prog 35 (TypeDesc.func #[23, 32, 33] #[4] false) := ⟨Tryd.underlying35⟩
instance : SzT Tryd.prog 35 1 := ⟨by kernel_rfl⟩
instance : ByT Tryd.prog 35 8 := ⟨by kernel_rfl⟩
instance : ZrT Tryd.prog 35 (#[Value.nilFunc]) := ⟨by kernel_rfl⟩
instance : FlT Tryd.prog 35 := ⟨by kernel_rfl⟩
instance : UT Tryd.prog 36 (TypeDesc.func #[23, 32, 5] #[4] false) := ⟨Tryd.underlying36⟩
instance : SzT Tryd.prog 36 1 := ⟨by kernel_rfl⟩
instance : ByT Tryd.prog 36 8 := ⟨by kernel_rfl⟩
instance : ZrT Tryd.prog 36 (#[Value.nilFunc]) := ⟨by kernel_rfl⟩
instance : FlT Tryd.prog 36 := ⟨by kernel_rfl⟩
instance : UT Tryd.prog 37 (TypeDesc.func #[23, 27, 38, 24] #[24] false) := ⟨Tryd.underlying37⟩
instance : SzT Tryd.prog 37 1 := ⟨by kernel_rfl⟩
instance : ByT Tryd.prog 37 8 := ⟨by kernel_rfl⟩
instance : ZrT Tryd.prog 37 (#[Value.nilFunc]) := ⟨by kernel_rfl⟩
instance : FlT Tryd.prog 37 := ⟨by kernel_rfl⟩
instance : UT Tryd.prog 38 (TypeDesc.int IntKind.u32) := ⟨Tryd.underlying38⟩
instance : SzT Tryd.prog 38 1 := ⟨by kernel_rfl⟩
instance : ByT Tryd.prog 38 4 := ⟨by kernel_rfl⟩
instance : ZrT Tryd.prog 38 (#[Value.int .u32 0]) := ⟨by kernel_rfl⟩
instance : FlT Tryd.prog 38 := ⟨by kernel_rfl⟩
instance : UT Tryd.prog 39 (TypeDesc.array 16 5) := ⟨Tryd.underlying39⟩
instance : SzT Tryd.prog 39 16 := ⟨by kernel_rfl⟩
instance : ByT Tryd.prog 39 16 := ⟨by kernel_rfl⟩
instance : ZrT Tryd.prog 39 (#[Value.int .u8 0, Value.int .u8 0, Value.int .u8 0, Value.int .u8 0, Value.int .u8 0, Value.int .u8 0, Value.int .u8 0, Value.int .u8 0, Value.int .u8 0, Value.int .u8 0, Value.int .u8 0, Value.int .u8 0, Value.int .u8 0, Value.int .u8 0, Value.int .u8 0, Value.int .u8 0]) := ⟨by kernel_rfl⟩
instance : RwT Tryd.prog 39 16 := ⟨by kernel_rfl⟩
instance : UT Tryd.prog 40 (TypeDesc.func #[23, 27, 24, 24] #[39] false) := ⟨Tryd.underlying40⟩
instance : SzT Tryd.prog 40 1 := ⟨by kernel_rfl⟩
instance : ByT Tryd.prog 40 8 := ⟨by kernel_rfl⟩
instance : ZrT Tryd.prog 40 (#[Value.nilFunc]) := ⟨by kernel_rfl⟩
instance : FlT Tryd.prog 40 := ⟨by kernel_rfl⟩
instance : UT Tryd.prog 41 (TypeDesc.interface #[("Error", 124)]) := ⟨Tryd.underlying41⟩
instance : SzT Tryd.prog 41 1 := ⟨by kernel_rfl⟩
instance : ByT Tryd.prog 41 16 := ⟨by kernel_rfl⟩
instance : ZrT Tryd.prog 41 (#[Value.nilIface]) := ⟨by kernel_rfl⟩
instance : FlT Tryd.prog 41 := ⟨by kernel_rfl⟩
instance : UT Tryd.prog 42 (TypeDesc.interface #[("Error", 124)]) := ⟨Tryd.underlying42⟩
instance : SzT Tryd.prog 42 1 := ⟨by kernel_rfl⟩
instance : ByT Tryd.prog 42 16 := ⟨by kernel_rfl⟩
instance : ZrT Tryd.prog 42 (#[Value.nilIface]) := ⟨by kernel_rfl⟩
instance : FlT Tryd.prog 42 := ⟨by kernel_rfl⟩
instance : UT Tryd.prog 43 (TypeDesc.tuple #[24, 42]) := ⟨Tryd.underlying43⟩
instance : SzT Tryd.prog 43 1 := ⟨by kernel_rfl⟩
instance : ByT Tryd.prog 43 0 := ⟨by kernel_rfl⟩
instance : FlT Tryd.prog 43 := ⟨by kernel_rfl⟩
instance : UT Tryd.prog 44 (TypeDesc.func #[23, 27, 24, 24] #[24, 42] false) := ⟨Tryd.underlying44⟩
instance : SzT Tryd.prog 44 1 := ⟨by kernel_rfl⟩
instance : ByT Tryd.prog 44 8 := ⟨by kernel_rfl⟩
instance : ZrT Tryd.prog 44 (#[Value.nilFunc]) := ⟨by kernel_rfl⟩
instance : FlT Tryd.prog 44 := ⟨by kernel_rfl⟩
instance : UT Tryd.prog 45 (TypeDesc.func #[42] #[28] false) := ⟨Tryd.underlying45⟩
instance : SzT Tryd.prog 45 1 := ⟨by kernel_rfl⟩
instance : ByT Tryd.prog 45 8 := ⟨by kernel_rfl⟩
instance : ZrT Tryd.prog 45 (#[Value.nilFunc]) := ⟨by kernel_rfl⟩
instance : FlT Tryd.prog 45 := ⟨by kernel_rfl⟩
instance : UT Tryd.prog 46 (TypeDesc.func #[22, 27, 24, 24] #[24] false) := ⟨Tryd.underlying46⟩
instance : SzT Tryd.prog 46 1 := ⟨by kernel_rfl⟩
instance : ByT Tryd.prog 46 8 := ⟨by kernel_rfl⟩
instance : ZrT Tryd.prog 46 (#[Value.nilFunc]) := ⟨by kernel_rfl⟩
instance : FlT Tryd.prog 46 := ⟨by kernel_rfl⟩
instance : UT Tryd.prog 47 (TypeDesc.func #[67] #[] false) := ⟨Tryd.underlying47⟩
instance : SzT Tryd.prog 47 1 := ⟨by kernel_rfl⟩
instance : ByT Tryd.prog 47 8 := ⟨by kernel_rfl⟩
instance : ZrT Tryd.prog 47 (#[Value.nilFunc]) := ⟨by kernel_rfl⟩
instance : FlT Tryd.prog 47 := ⟨by kernel_rfl⟩
instance : UT Tryd.prog 48 (TypeDesc.func #[67] #[] false) := ⟨Tryd.underlying48⟩
instance : SzT Tryd.prog 48 1 := ⟨by kernel_rfl⟩
instance : ByT Tryd.prog 48 8 := ⟨by kernel_rfl⟩
instance : ZrT Tryd.prog 48 (#[Value.nilFunc]) := ⟨by kernel_rfl⟩
instance : FlT Tryd.prog 48 := ⟨by kernel_rfl⟩
instance : UT Tryd.prog 49 (TypeDesc.func #[23, 27, 38] #[48] false) := ⟨Tryd.underlying49⟩
instance : SzT Tryd.prog 49 1 := ⟨by kernel_rfl⟩
instance : ByT Tryd.prog 49 8 := ⟨by kernel_rfl⟩
instance : ZrT Tryd.prog 49 (#[Value.nilFunc]) := ⟨by kernel_rfl⟩
instance : FlT Tryd.prog 49 := ⟨by kernel_rfl⟩
instance : UT Tryd.prog 50 (TypeDesc.array 64 5) := ⟨Tryd.underlying50⟩
instance : SzT Tryd.prog 50 64 := ⟨by kernel_rfl⟩
instance : ByT Tryd.prog 50 64 := ⟨by kernel_rfl⟩
instance : ZrT Tryd.prog 50 ((List.replicate 64 (Value.int .u8 0)).toArray) := ⟨by kernel_rfl⟩
instance : RwT Tryd.prog 50 64 := ⟨by kernel_rfl⟩
instance : UT Tryd.prog 51 (TypeDesc.func #[23, 27, 38] #[50] false) := ⟨Tryd.underlying51⟩
instance : SzT Tryd.prog 51 1 := ⟨by kernel_rfl⟩
instance : ByT Tryd.prog 51 8 := ⟨by kernel_rfl⟩
instance : ZrT Tryd.prog 51 (#[Value.nilFunc]) := ⟨by kernel_rfl⟩
instance : FlT Tryd.prog 51 := ⟨by kernel_rfl⟩
instance : UT Tryd.prog 52 (TypeDesc.func #[23, 73] #[39] true) := ⟨Tryd.underlying52⟩
instance : SzT Tryd.prog 52 1 := ⟨by kernel_rfl⟩
instance : ByT Tryd.prog 52 8 := ⟨by kernel_rfl⟩
instance : ZrT Tryd.prog 52 (#[Value.nilFunc]) := ⟨by kernel_rfl⟩
instance : FlT Tryd.prog 52 := ⟨by kernel_rfl⟩
instance : UT Tryd.prog 53 (TypeDesc.func #[3] #[24] false) := ⟨Tryd.underlying53⟩
instance : SzT Tryd.prog 53 1 := ⟨by kernel_rfl⟩
instance : ByT Tryd.prog 53 8 := ⟨by kernel_rfl⟩
instance : ZrT Tryd.prog 53 (#[Value.nilFunc]) := ⟨by kernel_rfl⟩
instance : FlT Tryd.prog 53 := ⟨by kernel_rfl⟩
instance : UT Tryd.prog 54 (TypeDesc.func #[3, 3] #[24] false) := ⟨Tryd.underlying54⟩
instance : SzT Tryd.prog 54 1 := ⟨by kernel_rfl⟩
instance : ByT Tryd.prog 54 8 := ⟨by kernel_rfl⟩
instance : ZrT Tryd.prog 54 (#[Value.nilFunc]) := ⟨by kernel_rfl⟩
instance : FlT Tryd.prog 54 := ⟨by kernel_rfl⟩
instance : UT Tryd.prog 55 (TypeDesc.pointer 57) := ⟨Tryd.underlying55⟩
instance : SzT Tryd.prog 55 1 := ⟨by kernel_rfl⟩
instance : ByT Tryd.prog 55 8 := ⟨by kernel_rfl⟩
instance : ZrT Tryd.prog 55 (#[Value.pointer none]) := ⟨by kernel_rfl⟩
instance : FlT Tryd.prog 55 := ⟨by kernel_rfl⟩
instance : UT Tryd.prog 56 (TypeDesc.struct #[{ name := "inner", type := 42, offset := 0, embedded := false, tag := "", pkgPath := "jalousie/seal", byteOffset := 0 }]) := ⟨Tryd.underlying56⟩
instance : SzT Tryd.prog 56 1 := ⟨by kernel_rfl⟩
instance : ByT Tryd.prog 56 16 := ⟨by kernel_rfl⟩
instance : ZrT Tryd.prog 56 (#[Value.nilIface]) := ⟨by kernel_rfl⟩
instance : RwT Tryd.prog 56 1 := ⟨by kernel_rfl⟩
instance : PlT Tryd.prog 56 [(0, 1)] := ⟨by kernel_rfl⟩
instance : UT Tryd.prog 57 (TypeDesc.struct #[{ name := "inner", type := 42, offset := 0, embedded := false, tag := "", pkgPath := "jalousie/seal", byteOffset := 0 }]) := ⟨Tryd.underlying57⟩
instance : SzT Tryd.prog 57 1 := ⟨by kernel_rfl⟩
instance : ByT Tryd.prog 57 16 := ⟨by kernel_rfl⟩
instance : ZrT Tryd.prog 57 (#[Value.nilIface]) := ⟨by kernel_rfl⟩
instance : RwT Tryd.prog 57 1 := ⟨by kernel_rfl⟩
instance : PlT Tryd.prog 57 [(0, 1)] := ⟨by kernel_rfl⟩
instance : UT Tryd.prog 58 (TypeDesc.pointer 62) := ⟨Tryd.underlying58⟩
instance : SzT Tryd.prog 58 1 := ⟨by kernel_rfl⟩
instance : ByT Tryd.prog 58 8 := ⟨by kernel_rfl⟩
instance : ZrT Tryd.prog 58 (#[Value.pointer none]) := ⟨by kernel_rfl⟩
instance : FlT Tryd.prog 58 := ⟨by kernel_rfl⟩
instance : UT Tryd.prog 59 (TypeDesc.func #[42, 20] #[4] false) := ⟨Tryd.underlying59⟩
instance : SzT Tryd.prog 59 1 := ⟨by kernel_rfl⟩
instance : ByT Tryd.prog 59 8 := ⟨by kernel_rfl⟩
instance : ZrT Tryd.prog 59 (#[Value.nilFunc]) := ⟨by kernel_rfl⟩
instance : FlT Tryd.prog 59 := ⟨by kernel_rfl⟩
instance : UT Tryd.prog 60 (TypeDesc.pointer 58) := ⟨Tryd.underlying60⟩
instance : SzT Tryd.prog 60 1 := ⟨by kernel_rfl⟩
instance : ByT Tryd.prog 60 8 := ⟨by kernel_rfl⟩
instance : ZrT Tryd.prog 60 (#[Value.pointer none]) := ⟨by kernel_rfl⟩
instance : FlT Tryd.prog 60 := ⟨by kernel_rfl⟩
instance : UT Tryd.prog 61 (TypeDesc.struct #[{ name := "number", type := 28, offset := 0, embedded := false, tag := "", pkgPath := "jalousie/seal", byteOffset := 0 }, { name := "cause", type := 42, offset := 1, embedded := false, tag := "", pkgPath := "jalousie/seal", byteOffset := 8 }]) := ⟨Tryd.underlying61⟩
instance : SzT Tryd.prog 61 2 := ⟨by kernel_rfl⟩
instance : ByT Tryd.prog 61 24 := ⟨by kernel_rfl⟩
instance : ZrT Tryd.prog 61 (#[Value.int .i64 0, Value.nilIface]) := ⟨by kernel_rfl⟩
instance : RwT Tryd.prog 61 2 := ⟨by kernel_rfl⟩
instance : PlT Tryd.prog 61 [(0, 1), (1, 1)] := ⟨by kernel_rfl⟩
instance : UT Tryd.prog 62 (TypeDesc.struct #[{ name := "number", type := 28, offset := 0, embedded := false, tag := "", pkgPath := "jalousie/seal", byteOffset := 0 }, { name := "cause", type := 42, offset := 1, embedded := false, tag := "", pkgPath := "jalousie/seal", byteOffset := 8 }]) := ⟨Tryd.underlying62⟩
instance : SzT Tryd.prog 62 2 := ⟨by kernel_rfl⟩
instance : ByT Tryd.prog 62 24 := ⟨by kernel_rfl⟩
instance : ZrT Tryd.prog 62 (#[Value.int .i64 0, Value.nilIface]) := ⟨by kernel_rfl⟩
instance : RwT Tryd.prog 62 2 := ⟨by kernel_rfl⟩
instance : PlT Tryd.prog 62 [(0, 1), (1, 1)] := ⟨by kernel_rfl⟩
instance : UT Tryd.prog 63 (TypeDesc.func #[22, 27, 38, 24] #[24] false) := ⟨Tryd.underlying63⟩
instance : SzT Tryd.prog 63 1 := ⟨by kernel_rfl⟩
instance : ByT Tryd.prog 63 8 := ⟨by kernel_rfl⟩
instance : ZrT Tryd.prog 63 (#[Value.nilFunc]) := ⟨by kernel_rfl⟩
instance : FlT Tryd.prog 63 := ⟨by kernel_rfl⟩
instance : UT Tryd.prog 64 (TypeDesc.func #[22, 27, 38] #[50] false) := ⟨Tryd.underlying64⟩
instance : SzT Tryd.prog 64 1 := ⟨by kernel_rfl⟩
instance : ByT Tryd.prog 64 8 := ⟨by kernel_rfl⟩
instance : ZrT Tryd.prog 64 (#[Value.nilFunc]) := ⟨by kernel_rfl⟩
instance : FlT Tryd.prog 64 := ⟨by kernel_rfl⟩
instance : UT Tryd.prog 65 (TypeDesc.func #[24] #[24] false) := ⟨Tryd.underlying65⟩
instance : SzT Tryd.prog 65 1 := ⟨by kernel_rfl⟩
instance : ByT Tryd.prog 65 8 := ⟨by kernel_rfl⟩
instance : ZrT Tryd.prog 65 (#[Value.nilFunc]) := ⟨by kernel_rfl⟩
instance : FlT Tryd.prog 65 := ⟨by kernel_rfl⟩
instance : UT Tryd.prog 66 (TypeDesc.func #[22, 24] #[39] false) := ⟨Tryd.underlying66⟩
instance : SzT Tryd.prog 66 1 := ⟨by kernel_rfl⟩
instance : ByT Tryd.prog 66 8 := ⟨by kernel_rfl⟩
instance : ZrT Tryd.prog 66 (#[Value.nilFunc]) := ⟨by kernel_rfl⟩
instance : FlT Tryd.prog 66 := ⟨by kernel_rfl⟩
instance : UT Tryd.prog 67 (TypeDesc.func #[50] #[4] false) := ⟨Tryd.underlying67⟩
instance : SzT Tryd.prog 67 1 := ⟨by kernel_rfl⟩
instance : ByT Tryd.prog 67 8 := ⟨by kernel_rfl⟩
instance : ZrT Tryd.prog 67 (#[Value.nilFunc]) := ⟨by kernel_rfl⟩
instance : FlT Tryd.prog 67 := ⟨by kernel_rfl⟩
instance : UT Tryd.prog 68 (TypeDesc.array 16 38) := ⟨Tryd.underlying68⟩
instance : SzT Tryd.prog 68 16 := ⟨by kernel_rfl⟩
instance : ByT Tryd.prog 68 64 := ⟨by kernel_rfl⟩
instance : ZrT Tryd.prog 68 (#[Value.int .u32 0, Value.int .u32 0, Value.int .u32 0, Value.int .u32 0, Value.int .u32 0, Value.int .u32 0, Value.int .u32 0, Value.int .u32 0, Value.int .u32 0, Value.int .u32 0, Value.int .u32 0, Value.int .u32 0, Value.int .u32 0, Value.int .u32 0, Value.int .u32 0, Value.int .u32 0]) := ⟨by kernel_rfl⟩
instance : RwT Tryd.prog 68 16 := ⟨by kernel_rfl⟩
instance : UT Tryd.prog 69 (TypeDesc.func #[23, 27, 38] #[68] false) := ⟨Tryd.underlying69⟩
instance : SzT Tryd.prog 69 1 := ⟨by kernel_rfl⟩
instance : ByT Tryd.prog 69 8 := ⟨by kernel_rfl⟩
instance : ZrT Tryd.prog 69 (#[Value.nilFunc]) := ⟨by kernel_rfl⟩
instance : FlT Tryd.prog 69 := ⟨by kernel_rfl⟩
instance : UT Tryd.prog 70 (TypeDesc.func #[71, 71, 71, 71] #[] false) := ⟨Tryd.underlying70⟩
instance : SzT Tryd.prog 70 1 := ⟨by kernel_rfl⟩
instance : ByT Tryd.prog 70 8 := ⟨by kernel_rfl⟩
instance : ZrT Tryd.prog 70 (#[Value.nilFunc]) := ⟨by kernel_rfl⟩
instance : FlT Tryd.prog 70 := ⟨by kernel_rfl⟩
instance : UT Tryd.prog 71 (TypeDesc.pointer 38) := ⟨Tryd.underlying71⟩
instance : SzT Tryd.prog 71 1 := ⟨by kernel_rfl⟩
instance : ByT Tryd.prog 71 8 := ⟨by kernel_rfl⟩
instance : ZrT Tryd.prog 71 (#[Value.pointer none]) := ⟨by kernel_rfl⟩
instance : FlT Tryd.prog 71 := ⟨by kernel_rfl⟩
instance : UT Tryd.prog 72 (TypeDesc.func #[24, 38] #[] false) := ⟨Tryd.underlying72⟩
instance : SzT Tryd.prog 72 1 := ⟨by kernel_rfl⟩
instance : ByT Tryd.prog 72 8 := ⟨by kernel_rfl⟩
instance : ZrT Tryd.prog 72 (#[Value.nilFunc]) := ⟨by kernel_rfl⟩
instance : FlT Tryd.prog 72 := ⟨by kernel_rfl⟩
instance : UT Tryd.prog 73 (TypeDesc.slice 24) := ⟨Tryd.underlying73⟩
instance : SzT Tryd.prog 73 1 := ⟨by kernel_rfl⟩
instance : ByT Tryd.prog 73 24 := ⟨by kernel_rfl⟩
instance : ZrT Tryd.prog 73 (#[Value.slice none 0 0]) := ⟨by kernel_rfl⟩
instance : FlT Tryd.prog 73 := ⟨by kernel_rfl⟩
instance : UT Tryd.prog 74 (TypeDesc.int IntKind.u64) := ⟨Tryd.underlying74⟩
instance : SzT Tryd.prog 74 1 := ⟨by kernel_rfl⟩
instance : ByT Tryd.prog 74 8 := ⟨by kernel_rfl⟩
instance : ZrT Tryd.prog 74 (#[Value.int .u64 0]) := ⟨by kernel_rfl⟩
instance : FlT Tryd.prog 74 := ⟨by kernel_rfl⟩
instance : UT Tryd.prog 75 (TypeDesc.struct #[{ name := "low", type := 74, offset := 0, embedded := false, tag := "", pkgPath := "jalousie/poly", byteOffset := 0 }, { name := "middle", type := 74, offset := 1, embedded := false, tag := "", pkgPath := "jalousie/poly", byteOffset := 8 }, { name := "high", type := 74, offset := 2, embedded := false, tag := "", pkgPath := "jalousie/poly", byteOffset := 16 }, { name := "rLow", type := 74, offset := 3, embedded := false, tag := "", pkgPath := "jalousie/poly", byteOffset := 24 }, { name := "rHigh", type := 74, offset := 4, embedded := false, tag := "", pkgPath := "jalousie/poly", byteOffset := 32 }]) := ⟨Tryd.underlying75⟩
instance : SzT Tryd.prog 75 5 := ⟨by kernel_rfl⟩
instance : ByT Tryd.prog 75 40 := ⟨by kernel_rfl⟩
instance : ZrT Tryd.prog 75 (#[Value.int .u64 0, Value.int .u64 0, Value.int .u64 0, Value.int .u64 0, Value.int .u64 0]) := ⟨by kernel_rfl⟩
instance : RwT Tryd.prog 75 5 := ⟨by kernel_rfl⟩
instance : PlT Tryd.prog 75 [(0, 1), (1, 1), (2, 1), (3, 1), (4, 1)] := ⟨by kernel_rfl⟩
instance : UT Tryd.prog 76 (TypeDesc.struct #[{ name := "low", type := 74, offset := 0, embedded := false, tag := "", pkgPath := "jalousie/poly", byteOffset := 0 }, { name := "middle", type := 74, offset := 1, embedded := false, tag := "", pkgPath := "jalousie/poly", byteOffset := 8 }, { name := "high", type := 74, offset := 2, embedded := false, tag := "", pkgPath := "jalousie/poly", byteOffset := 16 }, { name := "rLow", type := 74, offset := 3, embedded := false, tag := "", pkgPath := "jalousie/poly", byteOffset := 24 }, { name := "rHigh", type := 74, offset := 4, embedded := false, tag := "", pkgPath := "jalousie/poly", byteOffset := 32 }]) := ⟨Tryd.underlying76⟩
instance : SzT Tryd.prog 76 5 := ⟨by kernel_rfl⟩
instance : ByT Tryd.prog 76 40 := ⟨by kernel_rfl⟩
instance : ZrT Tryd.prog 76 (#[Value.int .u64 0, Value.int .u64 0, Value.int .u64 0, Value.int .u64 0, Value.int .u64 0]) := ⟨by kernel_rfl⟩
instance : RwT Tryd.prog 76 5 := ⟨by kernel_rfl⟩
instance : PlT Tryd.prog 76 [(0, 1), (1, 1), (2, 1), (3, 1), (4, 1)] := ⟨by kernel_rfl⟩
instance : UT Tryd.prog 77 (TypeDesc.func #[23] #[76] false) := ⟨Tryd.underlying77⟩
instance : SzT Tryd.prog 77 1 := ⟨by kernel_rfl⟩
instance : ByT Tryd.prog 77 8 := ⟨by kernel_rfl⟩
instance : ZrT Tryd.prog 77 (#[Value.nilFunc]) := ⟨by kernel_rfl⟩
instance : FlT Tryd.prog 77 := ⟨by kernel_rfl⟩
instance : UT Tryd.prog 78 (TypeDesc.func #[24] #[] false) := ⟨Tryd.underlying78⟩
instance : SzT Tryd.prog 78 1 := ⟨by kernel_rfl⟩
instance : ByT Tryd.prog 78 8 := ⟨by kernel_rfl⟩
instance : ZrT Tryd.prog 78 (#[Value.nilFunc]) := ⟨by kernel_rfl⟩
instance : FlT Tryd.prog 78 := ⟨by kernel_rfl⟩
instance : UT Tryd.prog 79 (TypeDesc.func #[23] #[39] false) := ⟨Tryd.underlying79⟩
instance : SzT Tryd.prog 79 1 := ⟨by kernel_rfl⟩
instance : ByT Tryd.prog 79 8 := ⟨by kernel_rfl⟩
instance : ZrT Tryd.prog 79 (#[Value.nilFunc]) := ⟨by kernel_rfl⟩
instance : FlT Tryd.prog 79 := ⟨by kernel_rfl⟩
instance : UT Tryd.prog 80 (TypeDesc.func #[24, 24] #[4] false) := ⟨Tryd.underlying80⟩
instance : SzT Tryd.prog 80 1 := ⟨by kernel_rfl⟩
instance : ByT Tryd.prog 80 8 := ⟨by kernel_rfl⟩
instance : ZrT Tryd.prog 80 (#[Value.nilFunc]) := ⟨by kernel_rfl⟩
instance : FlT Tryd.prog 80 := ⟨by kernel_rfl⟩
instance : UT Tryd.prog 81 TypeDesc.unsafePointer := ⟨Tryd.underlying81⟩
instance : SzT Tryd.prog 81 1 := ⟨by kernel_rfl⟩
instance : ByT Tryd.prog 81 8 := ⟨by kernel_rfl⟩
instance : ZrT Tryd.prog 81 (#[Value.pointer none]) := ⟨by kernel_rfl⟩
instance : FlT Tryd.prog 81 := ⟨by kernel_rfl⟩
instance : UT Tryd.prog 82 (TypeDesc.int IntKind.u64) := ⟨Tryd.underlying82⟩
instance : SzT Tryd.prog 82 1 := ⟨by kernel_rfl⟩
instance : ByT Tryd.prog 82 8 := ⟨by kernel_rfl⟩
instance : ZrT Tryd.prog 82 (#[Value.int .u64 0]) := ⟨by kernel_rfl⟩
instance : FlT Tryd.prog 82 := ⟨by kernel_rfl⟩
instance : UT Tryd.prog 83 (TypeDesc.struct #[{ name := "typ_", type := 17, offset := 0, embedded := false, tag := "", pkgPath := "internal/reflectlite", byteOffset := 0 }, { name := "ptr", type := 81, offset := 1, embedded := false, tag := "", pkgPath := "internal/reflectlite", byteOffset := 8 }, { name := "flag", type := 82, offset := 2, embedded := true, tag := "", pkgPath := "internal/reflectlite", byteOffset := 16 }]) := ⟨Tryd.underlying83⟩
instance : SzT Tryd.prog 83 3 := ⟨by kernel_rfl⟩
instance : ByT Tryd.prog 83 24 := ⟨by kernel_rfl⟩
instance : ZrT Tryd.prog 83 (#[Value.pointer none, Value.pointer none, Value.int .u64 0]) := ⟨by kernel_rfl⟩
instance : RwT Tryd.prog 83 3 := ⟨by kernel_rfl⟩
instance : PlT Tryd.prog 83 [(0, 1), (1, 1), (2, 1)] := ⟨by kernel_rfl⟩
instance : UT Tryd.prog 84 (TypeDesc.struct #[{ name := "typ_", type := 17, offset := 0, embedded := false, tag := "", pkgPath := "internal/reflectlite", byteOffset := 0 }, { name := "ptr", type := 81, offset := 1, embedded := false, tag := "", pkgPath := "internal/reflectlite", byteOffset := 8 }, { name := "flag", type := 82, offset := 2, embedded := true, tag := "", pkgPath := "internal/reflectlite", byteOffset := 16 }]) := ⟨Tryd.underlying84⟩
instance : SzT Tryd.prog 84 3 := ⟨by kernel_rfl⟩
instance : ByT Tryd.prog 84 24 := ⟨by kernel_rfl⟩
instance : ZrT Tryd.prog 84 (#[Value.pointer none, Value.pointer none, Value.int .u64 0]) := ⟨by kernel_rfl⟩
instance : RwT Tryd.prog 84 3 := ⟨by kernel_rfl⟩
instance : PlT Tryd.prog 84 [(0, 1), (1, 1), (2, 1)] := ⟨by kernel_rfl⟩
instance : UT Tryd.prog 85 (TypeDesc.func #[20] #[84] false) := ⟨Tryd.underlying85⟩
instance : SzT Tryd.prog 85 1 := ⟨by kernel_rfl⟩
instance : ByT Tryd.prog 85 8 := ⟨by kernel_rfl⟩
instance : ZrT Tryd.prog 85 (#[Value.nilFunc]) := ⟨by kernel_rfl⟩
instance : FlT Tryd.prog 85 := ⟨by kernel_rfl⟩
instance : UT Tryd.prog 86 (TypeDesc.interface #[("AssignableTo", 91), ("Comparable", 25), ("Elem", 88), ("Implements", 91), ("Kind", 90), ("Name", 124), ("PkgPath", 124), ("Size", 139), ("String", 124), ("internal/reflectlite.common", 131), ("internal/reflectlite.uncommon", 140)]) := ⟨Tryd.underlying86⟩
instance : SzT Tryd.prog 86 1 := ⟨by kernel_rfl⟩
instance : ByT Tryd.prog 86 16 := ⟨by kernel_rfl⟩
instance : ZrT Tryd.prog 86 (#[Value.nilIface]) := ⟨by kernel_rfl⟩
instance : FlT Tryd.prog 86 := ⟨by kernel_rfl⟩
instance : UT Tryd.prog 87 (TypeDesc.interface #[("AssignableTo", 91), ("Comparable", 25), ("Elem", 88), ("Implements", 91), ("Kind", 90), ("Name", 124), ("PkgPath", 124), ("Size", 139), ("String", 124), ("internal/reflectlite.common", 131), ("internal/reflectlite.uncommon", 140)]) := ⟨Tryd.underlying87⟩
instance : SzT Tryd.prog 87 1 := ⟨by kernel_rfl⟩
instance : ByT Tryd.prog 87 16 := ⟨by kernel_rfl⟩
instance : ZrT Tryd.prog 87 (#[Value.nilIface]) := ⟨by kernel_rfl⟩
instance : FlT Tryd.prog 87 := ⟨by kernel_rfl⟩
instance : UT Tryd.prog 88 (TypeDesc.func #[] #[87] false) := ⟨Tryd.underlying88⟩
instance : SzT Tryd.prog 88 1 := ⟨by kernel_rfl⟩
instance : ByT Tryd.prog 88 8 := ⟨by kernel_rfl⟩
instance : ZrT Tryd.prog 88 (#[Value.nilFunc]) := ⟨by kernel_rfl⟩
instance : FlT Tryd.prog 88 := ⟨by kernel_rfl⟩
instance : UT Tryd.prog 89 (TypeDesc.int IntKind.u8) := ⟨Tryd.underlying89⟩
instance : SzT Tryd.prog 89 1 := ⟨by kernel_rfl⟩
instance : ByT Tryd.prog 89 1 := ⟨by kernel_rfl⟩
instance : ZrT Tryd.prog 89 (#[Value.int .u8 0]) := ⟨by kernel_rfl⟩
instance : FlT Tryd.prog 89 := ⟨by kernel_rfl⟩
instance : UT Tryd.prog 90 (TypeDesc.func #[] #[89] false) := ⟨Tryd.underlying90⟩
instance : SzT Tryd.prog 90 1 := ⟨by kernel_rfl⟩
instance : ByT Tryd.prog 90 8 := ⟨by kernel_rfl⟩
instance : ZrT Tryd.prog 90 (#[Value.nilFunc]) := ⟨by kernel_rfl⟩
instance : FlT Tryd.prog 90 := ⟨by kernel_rfl⟩
instance : UT Tryd.prog 91 (TypeDesc.func #[87] #[4] false) := ⟨Tryd.underlying91⟩
instance : SzT Tryd.prog 91 1 := ⟨by kernel_rfl⟩
instance : ByT Tryd.prog 91 8 := ⟨by kernel_rfl⟩
instance : ZrT Tryd.prog 91 (#[Value.nilFunc]) := ⟨by kernel_rfl⟩
instance : FlT Tryd.prog 91 := ⟨by kernel_rfl⟩
instance : UT Tryd.prog 92 (TypeDesc.func #[42, 20, 84, 87] #[4] false) := ⟨Tryd.underlying92⟩
instance : SzT Tryd.prog 92 1 := ⟨by kernel_rfl⟩
instance : ByT Tryd.prog 92 8 := ⟨by kernel_rfl⟩
instance : ZrT Tryd.prog 92 (#[Value.nilFunc]) := ⟨by kernel_rfl⟩
instance : FlT Tryd.prog 92 := ⟨by kernel_rfl⟩
instance : UT Tryd.prog 93 (TypeDesc.func #[22, 27, 38, 3] #[24] false) := ⟨Tryd.underlying93⟩
instance : SzT Tryd.prog 93 1 := ⟨by kernel_rfl⟩
instance : ByT Tryd.prog 93 8 := ⟨by kernel_rfl⟩
instance : ZrT Tryd.prog 93 (#[Value.nilFunc]) := ⟨by kernel_rfl⟩
instance : FlT Tryd.prog 93 := ⟨by kernel_rfl⟩
instance : UT Tryd.prog 94 (TypeDesc.func #[24] #[38] false) := ⟨Tryd.underlying94⟩
instance : SzT Tryd.prog 94 1 := ⟨by kernel_rfl⟩
instance : ByT Tryd.prog 94 8 := ⟨by kernel_rfl⟩
instance : ZrT Tryd.prog 94 (#[Value.nilFunc]) := ⟨by kernel_rfl⟩
instance : FlT Tryd.prog 94 := ⟨by kernel_rfl⟩
instance : UT Tryd.prog 95 (TypeDesc.func #[68, 3, 3, 3, 3] #[68] false) := ⟨Tryd.underlying95⟩
instance : SzT Tryd.prog 95 1 := ⟨by kernel_rfl⟩
instance : ByT Tryd.prog 95 8 := ⟨by kernel_rfl⟩
instance : ZrT Tryd.prog 95 (#[Value.nilFunc]) := ⟨by kernel_rfl⟩
instance : FlT Tryd.prog 95 := ⟨by kernel_rfl⟩
instance : UT Tryd.prog 96 (TypeDesc.slice 3) := ⟨Tryd.underlying96⟩
instance : SzT Tryd.prog 96 1 := ⟨by kernel_rfl⟩
instance : ByT Tryd.prog 96 24 := ⟨by kernel_rfl⟩
instance : ZrT Tryd.prog 96 (#[Value.slice none 0 0]) := ⟨by kernel_rfl⟩
instance : FlT Tryd.prog 96 := ⟨by kernel_rfl⟩
instance : UT Tryd.prog 97 (TypeDesc.func #[24] #[96] false) := ⟨Tryd.underlying97⟩
instance : SzT Tryd.prog 97 1 := ⟨by kernel_rfl⟩
instance : ByT Tryd.prog 97 8 := ⟨by kernel_rfl⟩
instance : ZrT Tryd.prog 97 (#[Value.nilFunc]) := ⟨by kernel_rfl⟩
instance : FlT Tryd.prog 97 := ⟨by kernel_rfl⟩
instance : UT Tryd.prog 98 (TypeDesc.func #[96] #[96] false) := ⟨Tryd.underlying98⟩
instance : SzT Tryd.prog 98 1 := ⟨by kernel_rfl⟩
instance : ByT Tryd.prog 98 8 := ⟨by kernel_rfl⟩
instance : ZrT Tryd.prog 98 (#[Value.nilFunc]) := ⟨by kernel_rfl⟩
instance : FlT Tryd.prog 98 := ⟨by kernel_rfl⟩
instance : UT Tryd.prog 99 (TypeDesc.func #[96, 96] #[96] false) := ⟨Tryd.underlying99⟩
instance : SzT Tryd.prog 99 1 := ⟨by kernel_rfl⟩
instance : ByT Tryd.prog 99 8 := ⟨by kernel_rfl⟩
instance : ZrT Tryd.prog 99 (#[Value.nilFunc]) := ⟨by kernel_rfl⟩
instance : FlT Tryd.prog 99 := ⟨by kernel_rfl⟩
instance : UT Tryd.prog 100 (TypeDesc.func #[38, 3] #[38] false) := ⟨Tryd.underlying100⟩
instance : SzT Tryd.prog 100 1 := ⟨by kernel_rfl⟩
instance : ByT Tryd.prog 100 8 := ⟨by kernel_rfl⟩
instance : ZrT Tryd.prog 100 (#[Value.nilFunc]) := ⟨by kernel_rfl⟩
instance : FlT Tryd.prog 100 := ⟨by kernel_rfl⟩
instance : UT Tryd.prog 101 (TypeDesc.func #[24] #[74] false) := ⟨Tryd.underlying101⟩
instance : SzT Tryd.prog 101 1 := ⟨by kernel_rfl⟩
instance : ByT Tryd.prog 101 8 := ⟨by kernel_rfl⟩
instance : ZrT Tryd.prog 101 (#[Value.nilFunc]) := ⟨by kernel_rfl⟩
instance : FlT Tryd.prog 101 := ⟨by kernel_rfl⟩
instance : UT Tryd.prog 102 (TypeDesc.pointer 76) := ⟨Tryd.underlying102⟩
instance : SzT Tryd.prog 102 1 := ⟨by kernel_rfl⟩
instance : ByT Tryd.prog 102 8 := ⟨by kernel_rfl⟩
instance : ZrT Tryd.prog 102 (#[Value.pointer none]) := ⟨by kernel_rfl⟩
instance : FlT Tryd.prog 102 := ⟨by kernel_rfl⟩
instance : UT Tryd.prog 103 (TypeDesc.tuple #[74, 74]) := ⟨Tryd.underlying103⟩
instance : SzT Tryd.prog 103 1 := ⟨by kernel_rfl⟩
instance : ByT Tryd.prog 103 0 := ⟨by kernel_rfl⟩
instance : FlT Tryd.prog 103 := ⟨by kernel_rfl⟩
instance : UT Tryd.prog 104 (TypeDesc.func #[74, 74, 74] #[74, 74] false) := ⟨Tryd.underlying104⟩
instance : SzT Tryd.prog 104 1 := ⟨by kernel_rfl⟩
instance : ByT Tryd.prog 104 8 := ⟨by kernel_rfl⟩
instance : ZrT Tryd.prog 104 (#[Value.nilFunc]) := ⟨by kernel_rfl⟩
instance : FlT Tryd.prog 104 := ⟨by kernel_rfl⟩
instance : UT Tryd.prog 105 (TypeDesc.struct #[{ name := "Type", type := 17, offset := 0, embedded := true, tag := "", pkgPath := "", byteOffset := 0 }]) := ⟨Tryd.underlying105⟩
instance : SzT Tryd.prog 105 1 := ⟨by kernel_rfl⟩
instance : ByT Tryd.prog 105 8 := ⟨by kernel_rfl⟩
instance : ZrT Tryd.prog 105 (#[Value.pointer none]) := ⟨by kernel_rfl⟩
instance : RwT Tryd.prog 105 1 := ⟨by kernel_rfl⟩
instance : PlT Tryd.prog 105 [(0, 1)] := ⟨by kernel_rfl⟩
instance : UT Tryd.prog 106 (TypeDesc.struct #[{ name := "Type", type := 17, offset := 0, embedded := true, tag := "", pkgPath := "", byteOffset := 0 }]) := ⟨Tryd.underlying106⟩
instance : SzT Tryd.prog 106 1 := ⟨by kernel_rfl⟩
instance : ByT Tryd.prog 106 8 := ⟨by kernel_rfl⟩
instance : ZrT Tryd.prog 106 (#[Value.pointer none]) := ⟨by kernel_rfl⟩
instance : RwT Tryd.prog 106 1 := ⟨by kernel_rfl⟩
instance : PlT Tryd.prog 106 [(0, 1)] := ⟨by kernel_rfl⟩
instance : UT Tryd.prog 107 (TypeDesc.pointer 142) := ⟨Tryd.underlying107⟩
instance : SzT Tryd.prog 107 1 := ⟨by kernel_rfl⟩
instance : ByT Tryd.prog 107 8 := ⟨by kernel_rfl⟩
instance : ZrT Tryd.prog 107 (#[Value.pointer none]) := ⟨by kernel_rfl⟩
instance : FlT Tryd.prog 107 := ⟨by kernel_rfl⟩
instance : UT Tryd.prog 108 (TypeDesc.func #[20] #[87] false) := ⟨Tryd.underlying108⟩
instance : SzT Tryd.prog 108 1 := ⟨by kernel_rfl⟩
instance : ByT Tryd.prog 108 8 := ⟨by kernel_rfl⟩
instance : ZrT Tryd.prog 108 (#[Value.nilFunc]) := ⟨by kernel_rfl⟩
instance : FlT Tryd.prog 108 := ⟨by kernel_rfl⟩
instance : UT Tryd.prog 109 (TypeDesc.func #[] #[84] false) := ⟨Tryd.underlying109⟩
instance : SzT Tryd.prog 109 1 := ⟨by kernel_rfl⟩
instance : ByT Tryd.prog 109 8 := ⟨by kernel_rfl⟩
instance : ZrT Tryd.prog 109 (#[Value.nilFunc]) := ⟨by kernel_rfl⟩
instance : FlT Tryd.prog 109 := ⟨by kernel_rfl⟩
instance : UT Tryd.prog 110 (TypeDesc.func #[84] #[] false) := ⟨Tryd.underlying110⟩
instance : SzT Tryd.prog 110 1 := ⟨by kernel_rfl⟩
instance : ByT Tryd.prog 110 8 := ⟨by kernel_rfl⟩
instance : ZrT Tryd.prog 110 (#[Value.nilFunc]) := ⟨by kernel_rfl⟩
instance : FlT Tryd.prog 110 := ⟨by kernel_rfl⟩
instance : UT Tryd.prog 111 (TypeDesc.interface #[("As", 113)]) := ⟨Tryd.underlying111⟩
instance : SzT Tryd.prog 111 1 := ⟨by kernel_rfl⟩
instance : ByT Tryd.prog 111 16 := ⟨by kernel_rfl⟩
instance : ZrT Tryd.prog 111 (#[Value.nilIface]) := ⟨by kernel_rfl⟩
instance : FlT Tryd.prog 111 := ⟨by kernel_rfl⟩
instance : UT Tryd.prog 112 (TypeDesc.tuple #[111, 4]) := ⟨Tryd.underlying112⟩
instance : SzT Tryd.prog 112 1 := ⟨by kernel_rfl⟩
instance : ByT Tryd.prog 112 0 := ⟨by kernel_rfl⟩
instance : FlT Tryd.prog 112 := ⟨by kernel_rfl⟩
instance : UT Tryd.prog 113 (TypeDesc.func #[20] #[4] false) := ⟨Tryd.underlying113⟩
instance : SzT Tryd.prog 113 1 := ⟨by kernel_rfl⟩
instance : ByT Tryd.prog 113 8 := ⟨by kernel_rfl⟩
instance : ZrT Tryd.prog 113 (#[Value.nilFunc]) := ⟨by kernel_rfl⟩
instance : FlT Tryd.prog 113 := ⟨by kernel_rfl⟩
instance : UT Tryd.prog 114 (TypeDesc.interface #[("Unwrap", 115)]) := ⟨Tryd.underlying114⟩
instance : SzT Tryd.prog 114 1 := ⟨by kernel_rfl⟩
instance : ByT Tryd.prog 114 16 := ⟨by kernel_rfl⟩
instance : ZrT Tryd.prog 114 (#[Value.nilIface]) := ⟨by kernel_rfl⟩
instance : FlT Tryd.prog 114 := ⟨by kernel_rfl⟩
instance : UT Tryd.prog 115 (TypeDesc.func #[] #[42] false) := ⟨Tryd.underlying115⟩
instance : SzT Tryd.prog 115 1 := ⟨by kernel_rfl⟩
instance : ByT Tryd.prog 115 8 := ⟨by kernel_rfl⟩
instance : ZrT Tryd.prog 115 (#[Value.nilFunc]) := ⟨by kernel_rfl⟩
instance : FlT Tryd.prog 115 := ⟨by kernel_rfl⟩
instance : UT Tryd.prog 116 (TypeDesc.interface #[("Unwrap", 118)]) := ⟨Tryd.underlying116⟩
instance : SzT Tryd.prog 116 1 := ⟨by kernel_rfl⟩
instance : ByT Tryd.prog 116 16 := ⟨by kernel_rfl⟩
instance : ZrT Tryd.prog 116 (#[Value.nilIface]) := ⟨by kernel_rfl⟩
instance : FlT Tryd.prog 116 := ⟨by kernel_rfl⟩
instance : UT Tryd.prog 117 (TypeDesc.slice 42) := ⟨Tryd.underlying117⟩
instance : SzT Tryd.prog 117 1 := ⟨by kernel_rfl⟩
instance : ByT Tryd.prog 117 24 := ⟨by kernel_rfl⟩
instance : ZrT Tryd.prog 117 (#[Value.slice none 0 0]) := ⟨by kernel_rfl⟩
instance : FlT Tryd.prog 117 := ⟨by kernel_rfl⟩
instance : UT Tryd.prog 118 (TypeDesc.func #[] #[117] false) := ⟨Tryd.underlying118⟩
instance : SzT Tryd.prog 118 1 := ⟨by kernel_rfl⟩
instance : ByT Tryd.prog 118 8 := ⟨by kernel_rfl⟩
instance : ZrT Tryd.prog 118 (#[Value.nilFunc]) := ⟨by kernel_rfl⟩
instance : FlT Tryd.prog 118 := ⟨by kernel_rfl⟩
instance : UT Tryd.prog 119 (TypeDesc.func #[96] #[4] false) := ⟨Tryd.underlying119⟩
instance : SzT Tryd.prog 119 1 := ⟨by kernel_rfl⟩
instance : ByT Tryd.prog 119 8 := ⟨by kernel_rfl⟩
instance : ZrT Tryd.prog 119 (#[Value.nilFunc]) := ⟨by kernel_rfl⟩
instance : FlT Tryd.prog 119 := ⟨by kernel_rfl⟩
instance : UT Tryd.prog 120 (TypeDesc.int IntKind.u64) := ⟨Tryd.underlying120⟩
instance : SzT Tryd.prog 120 1 := ⟨by kernel_rfl⟩
instance : ByT Tryd.prog 120 8 := ⟨by kernel_rfl⟩
instance : ZrT Tryd.prog 120 (#[Value.int .u64 0]) := ⟨by kernel_rfl⟩
instance : FlT Tryd.prog 120 := ⟨by kernel_rfl⟩
instance : UT Tryd.prog 121 (TypeDesc.func #[74, 74] #[74, 74] false) := ⟨Tryd.underlying121⟩
instance : SzT Tryd.prog 121 1 := ⟨by kernel_rfl⟩
instance : ByT Tryd.prog 121 8 := ⟨by kernel_rfl⟩
instance : ZrT Tryd.prog 121 (#[Value.nilFunc]) := ⟨by kernel_rfl⟩
instance : FlT Tryd.prog 121 := ⟨by kernel_rfl⟩
instance : UT Tryd.prog 122 (TypeDesc.func #[74, 74] #[] false) := ⟨Tryd.underlying122⟩
instance : SzT Tryd.prog 122 1 := ⟨by kernel_rfl⟩
instance : ByT Tryd.prog 122 8 := ⟨by kernel_rfl⟩
instance : ZrT Tryd.prog 122 (#[Value.nilFunc]) := ⟨by kernel_rfl⟩
instance : FlT Tryd.prog 122 := ⟨by kernel_rfl⟩
instance : UT Tryd.prog 123 (TypeDesc.pointer 144) := ⟨Tryd.underlying123⟩
instance : SzT Tryd.prog 123 1 := ⟨by kernel_rfl⟩
instance : ByT Tryd.prog 123 8 := ⟨by kernel_rfl⟩
instance : ZrT Tryd.prog 123 (#[Value.pointer none]) := ⟨by kernel_rfl⟩
instance : FlT Tryd.prog 123 := ⟨by kernel_rfl⟩
instance : UT Tryd.prog 124 (TypeDesc.func #[] #[9] false) := ⟨Tryd.underlying124⟩
instance : SzT Tryd.prog 124 1 := ⟨by kernel_rfl⟩
instance : ByT Tryd.prog 124 8 := ⟨by kernel_rfl⟩
instance : ZrT Tryd.prog 124 (#[Value.nilFunc]) := ⟨by kernel_rfl⟩
instance : FlT Tryd.prog 124 := ⟨by kernel_rfl⟩
instance : UT Tryd.prog 125 (TypeDesc.struct #[{ name := "_interface", type := 17, offset := 0, embedded := false, tag := "", pkgPath := "runtime", byteOffset := 0 }, { name := "concrete", type := 17, offset := 1, embedded := false, tag := "", pkgPath := "runtime", byteOffset := 8 }, { name := "asserted", type := 17, offset := 2, embedded := false, tag := "", pkgPath := "runtime", byteOffset := 16 }, { name := "missingMethod", type := 9, offset := 3, embedded := false, tag := "", pkgPath := "runtime", byteOffset := 24 }]) := ⟨Tryd.underlying125⟩
instance : SzT Tryd.prog 125 4 := ⟨by kernel_rfl⟩
instance : ByT Tryd.prog 125 40 := ⟨by kernel_rfl⟩
instance : ZrT Tryd.prog 125 (#[Value.pointer none, Value.pointer none, Value.pointer none, Value.string ByteArray.empty]) := ⟨by kernel_rfl⟩
instance : RwT Tryd.prog 125 4 := ⟨by kernel_rfl⟩
instance : PlT Tryd.prog 125 [(0, 1), (1, 1), (2, 1), (3, 1)] := ⟨by kernel_rfl⟩
instance : UT Tryd.prog 126 (TypeDesc.struct #[{ name := "_interface", type := 17, offset := 0, embedded := false, tag := "", pkgPath := "runtime", byteOffset := 0 }, { name := "concrete", type := 17, offset := 1, embedded := false, tag := "", pkgPath := "runtime", byteOffset := 8 }, { name := "asserted", type := 17, offset := 2, embedded := false, tag := "", pkgPath := "runtime", byteOffset := 16 }, { name := "missingMethod", type := 9, offset := 3, embedded := false, tag := "", pkgPath := "runtime", byteOffset := 24 }]) := ⟨Tryd.underlying126⟩
instance : SzT Tryd.prog 126 4 := ⟨by kernel_rfl⟩
instance : ByT Tryd.prog 126 40 := ⟨by kernel_rfl⟩
instance : ZrT Tryd.prog 126 (#[Value.pointer none, Value.pointer none, Value.pointer none, Value.string ByteArray.empty]) := ⟨by kernel_rfl⟩
instance : RwT Tryd.prog 126 4 := ⟨by kernel_rfl⟩
instance : PlT Tryd.prog 126 [(0, 1), (1, 1), (2, 1), (3, 1)] := ⟨by kernel_rfl⟩
instance : UT Tryd.prog 127 (TypeDesc.array 0 16) := ⟨Tryd.underlying127⟩
instance : SzT Tryd.prog 127 0 := ⟨by kernel_rfl⟩
instance : ByT Tryd.prog 127 0 := ⟨by kernel_rfl⟩
instance : ZrT Tryd.prog 127 (#[]) := ⟨by kernel_rfl⟩
instance : RwT Tryd.prog 127 0 := ⟨by kernel_rfl⟩
instance : UT Tryd.prog 128 (TypeDesc.struct #[{ name := "_", type := 127, offset := 0, embedded := false, tag := "", pkgPath := "runtime", byteOffset := 0 }]) := ⟨Tryd.underlying128⟩
instance : SzT Tryd.prog 128 0 := ⟨by kernel_rfl⟩
instance : ByT Tryd.prog 128 0 := ⟨by kernel_rfl⟩
instance : ZrT Tryd.prog 128 (#[]) := ⟨by kernel_rfl⟩
instance : RwT Tryd.prog 128 0 := ⟨by kernel_rfl⟩
instance : PlT Tryd.prog 128 [(0, 0)] := ⟨by kernel_rfl⟩
instance : UT Tryd.prog 129 (TypeDesc.struct #[{ name := "_", type := 127, offset := 0, embedded := false, tag := "", pkgPath := "runtime", byteOffset := 0 }]) := ⟨Tryd.underlying129⟩
instance : SzT Tryd.prog 129 0 := ⟨by kernel_rfl⟩
instance : ByT Tryd.prog 129 0 := ⟨by kernel_rfl⟩
instance : ZrT Tryd.prog 129 (#[]) := ⟨by kernel_rfl⟩
instance : RwT Tryd.prog 129 0 := ⟨by kernel_rfl⟩
instance : PlT Tryd.prog 129 [(0, 0)] := ⟨by kernel_rfl⟩
instance : UT Tryd.prog 130 (TypeDesc.func #[] #[3] false) := ⟨Tryd.underlying130⟩
instance : SzT Tryd.prog 130 1 := ⟨by kernel_rfl⟩
instance : ByT Tryd.prog 130 8 := ⟨by kernel_rfl⟩
instance : ZrT Tryd.prog 130 (#[Value.nilFunc]) := ⟨by kernel_rfl⟩
instance : FlT Tryd.prog 130 := ⟨by kernel_rfl⟩
instance : UT Tryd.prog 131 (TypeDesc.func #[] #[17] false) := ⟨Tryd.underlying131⟩
instance : SzT Tryd.prog 131 1 := ⟨by kernel_rfl⟩
instance : ByT Tryd.prog 131 8 := ⟨by kernel_rfl⟩
instance : ZrT Tryd.prog 131 (#[Value.nilFunc]) := ⟨by kernel_rfl⟩
instance : FlT Tryd.prog 131 := ⟨by kernel_rfl⟩
instance : UT Tryd.prog 132 (TypeDesc.int IntKind.u8) := ⟨Tryd.underlying132⟩
instance : SzT Tryd.prog 132 1 := ⟨by kernel_rfl⟩
instance : ByT Tryd.prog 132 1 := ⟨by kernel_rfl⟩
instance : ZrT Tryd.prog 132 (#[Value.int .u8 0]) := ⟨by kernel_rfl⟩
instance : FlT Tryd.prog 132 := ⟨by kernel_rfl⟩
instance : UT Tryd.prog 133 (TypeDesc.func #[81, 81] #[4] false) := ⟨Tryd.underlying133⟩
instance : SzT Tryd.prog 133 1 := ⟨by kernel_rfl⟩
instance : ByT Tryd.prog 133 8 := ⟨by kernel_rfl⟩
instance : ZrT Tryd.prog 133 (#[Value.nilFunc]) := ⟨by kernel_rfl⟩
instance : FlT Tryd.prog 133 := ⟨by kernel_rfl⟩
instance : UT Tryd.prog 134 (TypeDesc.pointer 5) := ⟨Tryd.underlying134⟩
instance : SzT Tryd.prog 134 1 := ⟨by kernel_rfl⟩
instance : ByT Tryd.prog 134 8 := ⟨by kernel_rfl⟩
instance : ZrT Tryd.prog 134 (#[Value.pointer none]) := ⟨by kernel_rfl⟩
instance : FlT Tryd.prog 134 := ⟨by kernel_rfl⟩
instance : UT Tryd.prog 135 (TypeDesc.int IntKind.i32) := ⟨Tryd.underlying135⟩
instance : SzT Tryd.prog 135 1 := ⟨by kernel_rfl⟩
instance : ByT Tryd.prog 135 4 := ⟨by kernel_rfl⟩
instance : ZrT Tryd.prog 135 (#[Value.int .i32 0]) := ⟨by kernel_rfl⟩
instance : FlT Tryd.prog 135 := ⟨by kernel_rfl⟩
instance : UT Tryd.prog 136 (TypeDesc.int IntKind.i32) := ⟨Tryd.underlying136⟩
instance : SzT Tryd.prog 136 1 := ⟨by kernel_rfl⟩
instance : ByT Tryd.prog 136 4 := ⟨by kernel_rfl⟩
instance : ZrT Tryd.prog 136 (#[Value.int .i32 0]) := ⟨by kernel_rfl⟩
instance : FlT Tryd.prog 136 := ⟨by kernel_rfl⟩
instance : UT Tryd.prog 137 (TypeDesc.struct #[{ name := "Size_", type := 12, offset := 0, embedded := false, tag := "", pkgPath := "", byteOffset := 0 }, { name := "PtrBytes", type := 12, offset := 1, embedded := false, tag := "", pkgPath := "", byteOffset := 8 }, { name := "Hash", type := 38, offset := 2, embedded := false, tag := "", pkgPath := "", byteOffset := 16 }, { name := "TFlag", type := 132, offset := 3, embedded := false, tag := "", pkgPath := "", byteOffset := 20 }, { name := "Align_", type := 5, offset := 4, embedded := false, tag := "", pkgPath := "", byteOffset := 21 }, { name := "FieldAlign_", type := 5, offset := 5, embedded := false, tag := "", pkgPath := "", byteOffset := 22 }, { name := "Kind_", type := 89, offset := 6, embedded := false, tag := "", pkgPath := "", byteOffset := 23 }, { name := "Equal", type := 133, offset := 7, embedded := false, tag := "", pkgPath := "", byteOffset := 24 }, { name := "GCData", type := 134, offset := 8, embedded := false, tag := "", pkgPath := "", byteOffset := 32 }, { name := "Str", type := 135, offset := 9, embedded := false, tag := "", pkgPath := "", byteOffset := 40 }, { name := "PtrToThis", type := 136, offset := 10, embedded := false, tag := "", pkgPath := "", byteOffset := 44 }]) := ⟨Tryd.underlying137⟩
instance : SzT Tryd.prog 137 11 := ⟨by kernel_rfl⟩
instance : ByT Tryd.prog 137 48 := ⟨by kernel_rfl⟩
instance : ZrT Tryd.prog 137 (#[Value.int .u64 0, Value.int .u64 0, Value.int .u32 0, Value.int .u8 0, Value.int .u8 0, Value.int .u8 0, Value.int .u8 0, Value.nilFunc, Value.pointer none, Value.int .i32 0, Value.int .i32 0]) := ⟨by kernel_rfl⟩
instance : RwT Tryd.prog 137 11 := ⟨by kernel_rfl⟩
instance : PlT Tryd.prog 137 [(0, 1), (1, 1), (2, 1), (3, 1), (4, 1), (5, 1), (6, 1), (7, 1), (8, 1), (9, 1), (10, 1)] := ⟨by kernel_rfl⟩
instance : UT Tryd.prog 138 (TypeDesc.struct #[{ name := "Size_", type := 12, offset := 0, embedded := false, tag := "", pkgPath := "", byteOffset := 0 }, { name := "PtrBytes", type := 12, offset := 1, embedded := false, tag := "", pkgPath := "", byteOffset := 8 }, { name := "Hash", type := 38, offset := 2, embedded := false, tag := "", pkgPath := "", byteOffset := 16 }, { name := "TFlag", type := 132, offset := 3, embedded := false, tag := "", pkgPath := "", byteOffset := 20 }, { name := "Align_", type := 5, offset := 4, embedded := false, tag := "", pkgPath := "", byteOffset := 21 }, { name := "FieldAlign_", type := 5, offset := 5, embedded := false, tag := "", pkgPath := "", byteOffset := 22 }, { name := "Kind_", type := 89, offset := 6, embedded := false, tag := "", pkgPath := "", byteOffset := 23 }, { name := "Equal", type := 133, offset := 7, embedded := false, tag := "", pkgPath := "", byteOffset := 24 }, { name := "GCData", type := 134, offset := 8, embedded := false, tag := "", pkgPath := "", byteOffset := 32 }, { name := "Str", type := 135, offset := 9, embedded := false, tag := "", pkgPath := "", byteOffset := 40 }, { name := "PtrToThis", type := 136, offset := 10, embedded := false, tag := "", pkgPath := "", byteOffset := 44 }]) := ⟨Tryd.underlying138⟩
instance : SzT Tryd.prog 138 11 := ⟨by kernel_rfl⟩
instance : ByT Tryd.prog 138 48 := ⟨by kernel_rfl⟩
instance : ZrT Tryd.prog 138 (#[Value.int .u64 0, Value.int .u64 0, Value.int .u32 0, Value.int .u8 0, Value.int .u8 0, Value.int .u8 0, Value.int .u8 0, Value.nilFunc, Value.pointer none, Value.int .i32 0, Value.int .i32 0]) := ⟨by kernel_rfl⟩
instance : RwT Tryd.prog 138 11 := ⟨by kernel_rfl⟩
instance : PlT Tryd.prog 138 [(0, 1), (1, 1), (2, 1), (3, 1), (4, 1), (5, 1), (6, 1), (7, 1), (8, 1), (9, 1), (10, 1)] := ⟨by kernel_rfl⟩
instance : UT Tryd.prog 139 (TypeDesc.func #[] #[12] false) := ⟨Tryd.underlying139⟩
instance : SzT Tryd.prog 139 1 := ⟨by kernel_rfl⟩
instance : ByT Tryd.prog 139 8 := ⟨by kernel_rfl⟩
instance : ZrT Tryd.prog 139 (#[Value.nilFunc]) := ⟨by kernel_rfl⟩
instance : FlT Tryd.prog 139 := ⟨by kernel_rfl⟩
instance : UT Tryd.prog 140 (TypeDesc.func #[] #[145] false) := ⟨Tryd.underlying140⟩
instance : SzT Tryd.prog 140 1 := ⟨by kernel_rfl⟩
instance : ByT Tryd.prog 140 8 := ⟨by kernel_rfl⟩
instance : ZrT Tryd.prog 140 (#[Value.nilFunc]) := ⟨by kernel_rfl⟩
instance : FlT Tryd.prog 140 := ⟨by kernel_rfl⟩
instance : UT Tryd.prog 141 (TypeDesc.struct #[{ name := "Method", type := 9, offset := 0, embedded := false, tag := "", pkgPath := "", byteOffset := 0 }, { name := "Kind", type := 89, offset := 1, embedded := false, tag := "", pkgPath := "", byteOffset := 16 }]) := ⟨Tryd.underlying141⟩
instance : SzT Tryd.prog 141 2 := ⟨by kernel_rfl⟩
instance : ByT Tryd.prog 141 24 := ⟨by kernel_rfl⟩
instance : ZrT Tryd.prog 141 (#[Value.string ByteArray.empty, Value.int .u8 0]) := ⟨by kernel_rfl⟩
instance : RwT Tryd.prog 141 2 := ⟨by kernel_rfl⟩
instance : PlT Tryd.prog 141 [(0, 1), (1, 1)] := ⟨by kernel_rfl⟩
instance : UT Tryd.prog 142 (TypeDesc.struct #[{ name := "Method", type := 9, offset := 0, embedded := false, tag := "", pkgPath := "", byteOffset := 0 }, { name := "Kind", type := 89, offset := 1, embedded := false, tag := "", pkgPath := "", byteOffset := 16 }]) := ⟨Tryd.underlying142⟩
instance : SzT Tryd.prog 142 2 := ⟨by kernel_rfl⟩
instance : ByT Tryd.prog 142 24 := ⟨by kernel_rfl⟩
instance : ZrT Tryd.prog 142 (#[Value.string ByteArray.empty, Value.int .u8 0]) := ⟨by kernel_rfl⟩
instance : RwT Tryd.prog 142 2 := ⟨by kernel_rfl⟩
instance : PlT Tryd.prog 142 [(0, 1), (1, 1)] := ⟨by kernel_rfl⟩
instance : UT Tryd.prog 143 (TypeDesc.struct #[{ name := "s", type := 9, offset := 0, embedded := false, tag := "", pkgPath := "errors", byteOffset := 0 }]) := ⟨Tryd.underlying143⟩
instance : SzT Tryd.prog 143 1 := ⟨by kernel_rfl⟩
instance : ByT Tryd.prog 143 16 := ⟨by kernel_rfl⟩
instance : ZrT Tryd.prog 143 (#[Value.string ByteArray.empty]) := ⟨by kernel_rfl⟩
instance : RwT Tryd.prog 143 1 := ⟨by kernel_rfl⟩
instance : PlT Tryd.prog 143 [(0, 1)] := ⟨by kernel_rfl⟩
instance : UT Tryd.prog 144 (TypeDesc.struct #[{ name := "s", type := 9, offset := 0, embedded := false, tag := "", pkgPath := "errors", byteOffset := 0 }]) := ⟨Tryd.underlying144⟩
instance : SzT Tryd.prog 144 1 := ⟨by kernel_rfl⟩
instance : ByT Tryd.prog 144 16 := ⟨by kernel_rfl⟩
instance : ZrT Tryd.prog 144 (#[Value.string ByteArray.empty]) := ⟨by kernel_rfl⟩
instance : RwT Tryd.prog 144 1 := ⟨by kernel_rfl⟩
instance : PlT Tryd.prog 144 [(0, 1)] := ⟨by kernel_rfl⟩
instance : UT Tryd.prog 145 (TypeDesc.pointer 148) := ⟨Tryd.underlying145⟩
instance : SzT Tryd.prog 145 1 := ⟨by kernel_rfl⟩
instance : ByT Tryd.prog 145 8 := ⟨by kernel_rfl⟩
instance : ZrT Tryd.prog 145 (#[Value.pointer none]) := ⟨by kernel_rfl⟩
instance : FlT Tryd.prog 145 := ⟨by kernel_rfl⟩
instance : UT Tryd.prog 146 (TypeDesc.func #[] #[149] false) := ⟨Tryd.underlying146⟩
instance : SzT Tryd.prog 146 1 := ⟨by kernel_rfl⟩
instance : ByT Tryd.prog 146 8 := ⟨by kernel_rfl⟩
instance : ZrT Tryd.prog 146 (#[Value.nilFunc]) := ⟨by kernel_rfl⟩
instance : FlT Tryd.prog 146 := ⟨by kernel_rfl⟩
instance : UT Tryd.prog 147 (TypeDesc.struct #[{ name := "PkgPath", type := 135, offset := 0, embedded := false, tag := "", pkgPath := "", byteOffset := 0 }, { name := "Mcount", type := 33, offset := 1, embedded := false, tag := "", pkgPath := "", byteOffset := 4 }, { name := "Xcount", type := 33, offset := 2, embedded := false, tag := "", pkgPath := "", byteOffset := 6 }, { name := "Moff", type := 38, offset := 3, embedded := false, tag := "", pkgPath := "", byteOffset := 8 }, { name := "_", type := 38, offset := 4, embedded := false, tag := "", pkgPath := "internal/abi", byteOffset := 12 }]) := ⟨Tryd.underlying147⟩
instance : SzT Tryd.prog 147 5 := ⟨by kernel_rfl⟩
instance : ByT Tryd.prog 147 16 := ⟨by kernel_rfl⟩
instance : ZrT Tryd.prog 147 (#[Value.int .i32 0, Value.int .u16 0, Value.int .u16 0, Value.int .u32 0, Value.int .u32 0]) := ⟨by kernel_rfl⟩
instance : RwT Tryd.prog 147 5 := ⟨by kernel_rfl⟩
instance : PlT Tryd.prog 147 [(0, 1), (1, 1), (2, 1), (3, 1), (4, 1)] := ⟨by kernel_rfl⟩
instance : UT Tryd.prog 148 (TypeDesc.struct #[{ name := "PkgPath", type := 135, offset := 0, embedded := false, tag := "", pkgPath := "", byteOffset := 0 }, { name := "Mcount", type := 33, offset := 1, embedded := false, tag := "", pkgPath := "", byteOffset := 4 }, { name := "Xcount", type := 33, offset := 2, embedded := false, tag := "", pkgPath := "", byteOffset := 6 }, { name := "Moff", type := 38, offset := 3, embedded := false, tag := "", pkgPath := "", byteOffset := 8 }, { name := "_", type := 38, offset := 4, embedded := false, tag := "", pkgPath := "internal/abi", byteOffset := 12 }]) := ⟨Tryd.underlying148⟩
instance : SzT Tryd.prog 148 5 := ⟨by kernel_rfl⟩
instance : ByT Tryd.prog 148 16 := ⟨by kernel_rfl⟩
instance : ZrT Tryd.prog 148 (#[Value.int .i32 0, Value.int .u16 0, Value.int .u16 0, Value.int .u32 0, Value.int .u32 0]) := ⟨by kernel_rfl⟩
instance : RwT Tryd.prog 148 5 := ⟨by kernel_rfl⟩
instance : PlT Tryd.prog 148 [(0, 1), (1, 1), (2, 1), (3, 1), (4, 1)] := ⟨by kernel_rfl⟩
instance : UT Tryd.prog 149 (TypeDesc.slice 152) := ⟨Tryd.underlying149⟩
instance : SzT Tryd.prog 149 1 := ⟨by kernel_rfl⟩
instance : ByT Tryd.prog 149 24 := ⟨by kernel_rfl⟩
instance : ZrT Tryd.prog 149 (#[Value.slice none 0 0]) := ⟨by kernel_rfl⟩
instance : FlT Tryd.prog 149 := ⟨by kernel_rfl⟩
instance : UT Tryd.prog 150 (TypeDesc.int IntKind.i32) := ⟨Tryd.underlying150⟩
instance : SzT Tryd.prog 150 1 := ⟨by kernel_rfl⟩
instance : ByT Tryd.prog 150 4 := ⟨by kernel_rfl⟩
instance : ZrT Tryd.prog 150 (#[Value.int .i32 0]) := ⟨by kernel_rfl⟩
instance : FlT Tryd.prog 150 := ⟨by kernel_rfl⟩
instance : UT Tryd.prog 151 (TypeDesc.struct #[{ name := "Name", type := 135, offset := 0, embedded := false, tag := "", pkgPath := "", byteOffset := 0 }, { name := "Mtyp", type := 136, offset := 1, embedded := false, tag := "", pkgPath := "", byteOffset := 4 }, { name := "Ifn", type := 150, offset := 2, embedded := false, tag := "", pkgPath := "", byteOffset := 8 }, { name := "Tfn", type := 150, offset := 3, embedded := false, tag := "", pkgPath := "", byteOffset := 12 }]) := ⟨Tryd.underlying151⟩
instance : SzT Tryd.prog 151 4 := ⟨by kernel_rfl⟩
instance : ByT Tryd.prog 151 16 := ⟨by kernel_rfl⟩
instance : ZrT Tryd.prog 151 (#[Value.int .i32 0, Value.int .i32 0, Value.int .i32 0, Value.int .i32 0]) := ⟨by kernel_rfl⟩
instance : RwT Tryd.prog 151 4 := ⟨by kernel_rfl⟩
instance : PlT Tryd.prog 151 [(0, 1), (1, 1), (2, 1), (3, 1)] := ⟨by kernel_rfl⟩
instance : UT Tryd.prog 152 (TypeDesc.struct #[{ name := "Name", type := 135, offset := 0, embedded := false, tag := "", pkgPath := "", byteOffset := 0 }, { name := "Mtyp", type := 136, offset := 1, embedded := false, tag := "", pkgPath := "", byteOffset := 4 }, { name := "Ifn", type := 150, offset := 2, embedded := false, tag := "", pkgPath := "", byteOffset := 8 }, { name := "Tfn", type := 150, offset := 3, embedded := false, tag := "", pkgPath := "", byteOffset := 12 }]) := ⟨Tryd.underlying152⟩
instance : SzT Tryd.prog 152 4 := ⟨by kernel_rfl⟩
instance : ByT Tryd.prog 152 16 := ⟨by kernel_rfl⟩
instance : ZrT Tryd.prog 152 (#[Value.int .i32 0, Value.int .i32 0, Value.int .i32 0, Value.int .i32 0]) := ⟨by kernel_rfl⟩
instance : RwT Tryd.prog 152 4 := ⟨by kernel_rfl⟩
instance : PlT Tryd.prog 152 [(0, 1), (1, 1), (2, 1), (3, 1)] := ⟨by kernel_rfl⟩
instance : UT Tryd.prog 153 (TypeDesc.func #[9] #[42] false) := ⟨Tryd.underlying153⟩
instance : SzT Tryd.prog 153 1 := ⟨by kernel_rfl⟩
instance : ByT Tryd.prog 153 8 := ⟨by kernel_rfl⟩
instance : ZrT Tryd.prog 153 (#[Value.nilFunc]) := ⟨by kernel_rfl⟩
instance : FlT Tryd.prog 153 := ⟨by kernel_rfl⟩
instance : UT Tryd.prog 154 (TypeDesc.pointer 42) := ⟨Tryd.underlying154⟩
instance : SzT Tryd.prog 154 1 := ⟨by kernel_rfl⟩
instance : ByT Tryd.prog 154 8 := ⟨by kernel_rfl⟩
instance : ZrT Tryd.prog 154 (#[Value.pointer none]) := ⟨by kernel_rfl⟩
instance : FlT Tryd.prog 154 := ⟨by kernel_rfl⟩
theorem mixed : Tryd.prog.follows .mixedOrders = true := by kernel_rfl
end Go.Proofs.YteopejjlhmghbaaDoor
namespace Go.Proofs.YteopejjlhmghbaaDoor
open Go
section
variable {P : Program} {ops : Array Oper} {Q : Exit → Act → World → Prop} {md : Region.Mode} {S : World → Prop}
def Gives (P : Program) (S : World → Prop) (dst : Option Tmp) (v : Value) : Result Next → Prop
  | .ok (.value u) w' => (dst = none ∨ u = v) ∧ S w'
  | .ok .skip w' => (dst = none ∨ undef = v) ∧ S w'
  | .ok (.enter f args) w' => Calls P f args w' fun e w'' => ∃ u, e = .returned u ∧ (dst = none ∨ u = v) ∧ S w''
  | .ok (.row row args) w' => Go.Rows P row args w' fun u w'' => (dst = none ∨ u = v) ∧ S w''
  | _ => False
def YieldsU (P : Program) (ops : Array Oper) (S : World → Prop) (o : Oper) (v : Value) (a : Act) : Prop :=
  (Region.wanted o (yielded ops a.tmps) = true ∧ ∀ w, S w → Gives P S o.dst v ((execOp a.eval o).run P w)) ∨
  (Region.wanted o (yielded ops a.tmps) = false ∧ v = undef)
theorem put_eq {a : Act} {dst : Option Tmp} {u v : Value} (h : dst = none ∨ u = v) : a.put dst u = a.put dst v := by
  rcases h with rfl | rfl <;> rfl
theorem YieldsU.wpOp {i : Nat} {o : Oper} {v : Value} {a : Act} (hi : ops[i]? = some o) (hy : YieldsU P ops S o v a)
    {K : Act → World → Prop} {w : World} (hS : S w) (h : ∀ w', S w' → K (a.put o.dst v) w') : wpOp P ops Q i K a w := by
  unfold Go.wpOp
  simp only [hi]
  rcases hy with ⟨hw, hv⟩ | ⟨hw, rfl⟩
  · rw [if_pos hw]
    refine .inl ?_
    have hg := hv w hS
    unfold Oper.wp
    generalize (execOp a.eval o).run P w = r at *
    cases r with
    | ok n w' =>
      cases n <;> simp only [Gives] at hg <;> simp only [Oper.upon]
      case value u => rw [put_eq hg.1]; exact h _ hg.2
      case skip => rw [put_eq hg.1]; exact h _ hg.2
      case enter f args =>
        refine Calls.mono hg fun e w'' he => ?_
        obtain ⟨u, rfl, h1, h2⟩ := he
        simp only
        rw [put_eq h1]; exact h _ h2
      case row row args => exact Rows.mono hg fun u w'' he => by rw [put_eq he.1]; exact h _ he.2
    | halt x w' => simp only [Gives] at hg
  · rw [if_neg (by simp [hw])]; exact h _ hS
theorem YieldsU.of_same {o : Oper} {v : Value} {a a' : Act} (hy : YieldsU P ops S o v a) (he : execOp a'.eval o = execOp a.eval o)
    (hw : Region.wanted o (yielded ops a'.tmps) = Region.wanted o (yielded ops a.tmps)) : YieldsU P ops S o v a' := by
  unfold YieldsU at *
  rw [he, hw]
  exact hy
def ListU (P : Program) (ops : Array Oper) (S : World → Prop) (Q : Exit → Act → World → Prop) : List Oper → Act → Prop
  | [], a => ∀ w, S w → Q .normal a w
  | o :: rest, a => ∃ a1, (∀ w, S w → ∀ K : Act → World → Prop, (∀ w', S w' → K a1 w') →
      if Region.wanted o (yielded ops a.tmps) then Oper.wp P o a w K (fun _ _ _ => False) else K (a.put o.dst undef) w) ∧ a1.defers = a.defers ∧ ListU P ops S Q rest a1
theorem ListU.cons {o : Oper} {rest : List Oper} {a a1 : Act} (h : ∀ w, S w → ∀ K : Act → World → Prop, (∀ w', S w' → K a1 w') →
      if Region.wanted o (yielded ops a.tmps) then Oper.wp P o a w K (fun _ _ _ => False) else K (a.put o.dst undef) w) (hd : a1.defers = a.defers)
    (hr : ListU P ops S Q rest a1) : ListU P ops S Q (o :: rest) a := ⟨a1, h, hd, hr⟩
end
end Go.Proofs.YteopejjlhmghbaaDoor
namespace Go.Proofs.YteopejjlhmghbaaDoor
open Go Go.ChangeShapes Go.WideShapes Go.ChangeAt Go.RowKit
set_option linter.unusedVariables false
def rl (s : Nat) (x : Int) : Int := bits .or .u32 (x * 2 ^ s % 4294967296) (x / 2 ^ (32 - s))
def l1 (x : Int) : Int := x * 2 % 4294967296 + x / 2147483648
def lf : Nat → Int → Int | 0, x => x | n + 1, x => l1 (lf n x)
theorem ret_in {p : IntKind} {a a' : Int} (h : a' = a) : Ending.returned (.int p a) = Ending.returned (.int p a') := by rw [h]
theorem l1_bd {x : Int} (h : 0 ≤ x ∧ x ≤ 4294967295) : 0 ≤ l1 x ∧ l1 x ≤ 4294967295 := by unfold l1; omega
theorem rot16 (x : Int) (h0 : 0 ≤ x) (h1 : x ≤ 4294967295) (w : World) : Calls Tryd.prog 48 #[.int .u32 x, .int .i64 16] w fun e w' => e = .returned (.int .u32 (rl 16 x)) ∧ w' = w := by
  have hb : bits BinOp.and IntKind.u64 16 31 = 16 := by decide
  go_enter Tryd.func48, Tryd.ntmps48
  go_wp2
  go_ret
  exact ⟨ret_in (by simp [rl]), rfl⟩
theorem rot12 (x : Int) (h0 : 0 ≤ x) (h1 : x ≤ 4294967295) (w : World) : Calls Tryd.prog 48 #[.int .u32 x, .int .i64 12] w fun e w' => e = .returned (.int .u32 (rl 12 x)) ∧ w' = w := by
  have hb : bits BinOp.and IntKind.u64 12 31 = 12 := by decide
  go_enter Tryd.func48, Tryd.ntmps48
  go_wp2
  go_ret
  exact ⟨ret_in (by simp [rl]), rfl⟩
theorem rot8 (x : Int) (h0 : 0 ≤ x) (h1 : x ≤ 4294967295) (w : World) : Calls Tryd.prog 48 #[.int .u32 x, .int .i64 8] w fun e w' => e = .returned (.int .u32 (rl 8 x)) ∧ w' = w := by
  have hb : bits BinOp.and IntKind.u64 8 31 = 8 := by decide
  go_enter Tryd.func48, Tryd.ntmps48
  go_wp2
  go_ret
  exact ⟨ret_in (by simp [rl]), rfl⟩
theorem rot7 (x : Int) (h0 : 0 ≤ x) (h1 : x ≤ 4294967295) (w : World) : Calls Tryd.prog 48 #[.int .u32 x, .int .i64 7] w fun e w' => e = .returned (.int .u32 (rl 7 x)) ∧ w' = w := by
  have hb : bits BinOp.and IntKind.u64 7 31 = 7 := by decide
  go_enter Tryd.func48, Tryd.ntmps48
  go_wp2
  go_ret
  exact ⟨ret_in (by simp [rl]), rfl⟩
theorem lf_bd {x : Int} (h0 : 0 ≤ x) (h1 : x ≤ 4294967295) : ∀ k, 0 ≤ lf k x ∧ lf k x ≤ 4294967295
  | 0 => ⟨h0, h1⟩
  | k + 1 => l1_bd (lf_bd h0 h1 k)
theorem left_any (x : Int) (n : Nat) (hn : n ≤ 32) (h0 : 0 ≤ x) (h1 : x ≤ 4294967295) (w : World) : Calls Tryd.prog 56 #[.int .u32 x, .int .i64 n] w fun e w' => e = .returned (.int .u32 (lf n x)) ∧ w' = w := by
  go_enter Tryd.func56, Tryd.ntmps56
  go_wp2
  go_loopw [0, 5] (fun v i wz => ∃ k : Nat, k ≤ n ∧ i = .int .i64 k ∧ v = .int .u32 (lf k x) ∧ wz = w) (fun _ i _ => n - (intOf i).toNat)
  case atStart => exact ⟨0, by omega, rfl, rfl, rfl⟩
  case round =>
    obtain ⟨k, hk, rfl, rfl, rfl⟩ := hrel
    by_cases hlt : k < n
    · have k1 : (k : Int) < (n : Int) := by omega
      have hb := lf_bd h0 h1 k
      have e : (lf k x).tdiv 2147483648 = lf k x / 2147483648 := Int.tdiv_eq_ediv_of_nonneg hb.1
      go_wp2
      refine ⟨⟨k + 1, by omega, by go_num, ?_, trivial⟩, by simp [intOf]; omega⟩
      simp only [lf, l1]
    · go_wp2
      go_ret
      obtain rfl : k = n := by omega
      exact ⟨rfl, rfl⟩
end Go.Proofs.YteopejjlhmghbaaDoor
namespace Go.Proofs.YteopejjlhmghbaaDoor
open Go Go.ChangeShapes Go.WideShapes Go.ChangeAt Go.RowKit
set_option linter.unusedVariables false
theorem l1_lo {y : Int} (h : 0 ≤ y ∧ y < 2147483648) : l1 y = 2 * y := by
  have q1 : y / 2147483648 = 0 := by omega
  have q2 : y * 2 % 4294967296 = y * 2 := by omega
  unfold l1
  rw [q1, q2]
  omega
theorem l1_hi {y : Int} (h : 0 ≤ y ∧ y < 2147483648) : l1 (2147483648 + y) = 2 * y + 1 := by
  have q1 : (2147483648 + y) / 2147483648 = 1 := by omega
  have q2 : (2147483648 + y) * 2 % 4294967296 = y * 2 := by omega
  unfold l1
  rw [q1, q2]
  omega
theorem lf_0 (x : Int) : lf 0 x = x := rfl
theorem lf_1 {x : Int} (h : 0 ≤ x ∧ x ≤ 4294967295) : lf 1 x = x * 2 % 4294967296 + x / 2147483648 := by
  show l1 (lf 0 x) = _
  rw [lf_0]
  obtain ⟨a, c, d, hx, hc0, hc1, hd0, hd1⟩ : ∃ a c d : Int, x = (2 * a + c) * 2147483648 + d ∧ 0 ≤ c ∧ c ≤ 1 ∧ 0 ≤ d ∧ d < 2147483648 := ⟨x / 2147483648 / 2, x / 2147483648 % 2, x % 2147483648, by omega, by omega, by omega, by omega, by omega⟩
  have ha : 0 ≤ a ∧ a < 1 := by omega
  have e3 : x * 2 % 4294967296 = d * 2 := by omega
  have e4 : x / 2147483648 = 2 * a + c := by omega
  rw [e3, e4, hx]
  have hy : 0 ≤ d * 1 + a ∧ d * 1 + a < 2147483648 := by omega
  have hc : c = 0 ∨ c = 1 := by omega
  clear hx h e3 e4
  rcases hc with rfl | rfl
  · rw [show ((2 * a + 0) * 2147483648 + d) = d * 1 + a by omega, l1_lo hy]; omega
  · rw [show ((2 * a + 1) * 2147483648 + d) = 2147483648 + (d * 1 + a) by omega, l1_hi hy]; omega
theorem lf_2 {x : Int} (h : 0 ≤ x ∧ x ≤ 4294967295) : lf 2 x = x * 4 % 4294967296 + x / 1073741824 := by
  show l1 (lf 1 x) = _
  rw [lf_1 h]
  obtain ⟨a, c, d, hx, hc0, hc1, hd0, hd1⟩ : ∃ a c d : Int, x = (2 * a + c) * 1073741824 + d ∧ 0 ≤ c ∧ c ≤ 1 ∧ 0 ≤ d ∧ d < 1073741824 := ⟨x / 1073741824 / 2, x / 1073741824 % 2, x % 1073741824, by omega, by omega, by omega, by omega, by omega⟩
  have ha : 0 ≤ a ∧ a < 2 := by omega
  have e3 : x * 4 % 4294967296 = d * 4 := by omega
  have e4 : x / 1073741824 = 2 * a + c := by omega
  have e1 : x * 2 % 4294967296 = c * 2147483648 + d * 2 := by omega
  have e2 : x / 2147483648 = a := by omega
  rw [e1, e2, e3, e4]
  have hy : 0 ≤ d * 2 + a ∧ d * 2 + a < 2147483648 := by omega
  have hc : c = 0 ∨ c = 1 := by omega
  clear hx h e3 e4
  rcases hc with rfl | rfl
  · rw [show (0 * 2147483648 + d * 2 + a) = d * 2 + a by omega, l1_lo hy]; omega
  · rw [show (1 * 2147483648 + d * 2 + a) = 2147483648 + (d * 2 + a) by omega, l1_hi hy]; omega
theorem lf_3 {x : Int} (h : 0 ≤ x ∧ x ≤ 4294967295) : lf 3 x = x * 8 % 4294967296 + x / 536870912 := by
  show l1 (lf 2 x) = _
  rw [lf_2 h]
  obtain ⟨a, c, d, hx, hc0, hc1, hd0, hd1⟩ : ∃ a c d : Int, x = (2 * a + c) * 536870912 + d ∧ 0 ≤ c ∧ c ≤ 1 ∧ 0 ≤ d ∧ d < 536870912 := ⟨x / 536870912 / 2, x / 536870912 % 2, x % 536870912, by omega, by omega, by omega, by omega, by omega⟩
  have ha : 0 ≤ a ∧ a < 4 := by omega
  have e3 : x * 8 % 4294967296 = d * 8 := by omega
  have e4 : x / 536870912 = 2 * a + c := by omega
  have e1 : x * 4 % 4294967296 = c * 2147483648 + d * 4 := by omega
  have e2 : x / 1073741824 = a := by omega
  rw [e1, e2, e3, e4]
  have hy : 0 ≤ d * 4 + a ∧ d * 4 + a < 2147483648 := by omega
  have hc : c = 0 ∨ c = 1 := by omega
  clear hx h e3 e4
  rcases hc with rfl | rfl
  · rw [show (0 * 2147483648 + d * 4 + a) = d * 4 + a by omega, l1_lo hy]; omega
  · rw [show (1 * 2147483648 + d * 4 + a) = 2147483648 + (d * 4 + a) by omega, l1_hi hy]; omega
theorem lf_4 {x : Int} (h : 0 ≤ x ∧ x ≤ 4294967295) : lf 4 x = x * 16 % 4294967296 + x / 268435456 := by
  show l1 (lf 3 x) = _
  rw [lf_3 h]
  obtain ⟨a, c, d, hx, hc0, hc1, hd0, hd1⟩ : ∃ a c d : Int, x = (2 * a + c) * 268435456 + d ∧ 0 ≤ c ∧ c ≤ 1 ∧ 0 ≤ d ∧ d < 268435456 := ⟨x / 268435456 / 2, x / 268435456 % 2, x % 268435456, by omega, by omega, by omega, by omega, by omega⟩
  have ha : 0 ≤ a ∧ a < 8 := by omega
  have e3 : x * 16 % 4294967296 = d * 16 := by omega
  have e4 : x / 268435456 = 2 * a + c := by omega
  have e1 : x * 8 % 4294967296 = c * 2147483648 + d * 8 := by omega
  have e2 : x / 536870912 = a := by omega
  rw [e1, e2, e3, e4]
  have hy : 0 ≤ d * 8 + a ∧ d * 8 + a < 2147483648 := by omega
  have hc : c = 0 ∨ c = 1 := by omega
  clear hx h e3 e4
  rcases hc with rfl | rfl
  · rw [show (0 * 2147483648 + d * 8 + a) = d * 8 + a by omega, l1_lo hy]; omega
  · rw [show (1 * 2147483648 + d * 8 + a) = 2147483648 + (d * 8 + a) by omega, l1_hi hy]; omega
theorem lf_5 {x : Int} (h : 0 ≤ x ∧ x ≤ 4294967295) : lf 5 x = x * 32 % 4294967296 + x / 134217728 := by
  show l1 (lf 4 x) = _
  rw [lf_4 h]
  obtain ⟨a, c, d, hx, hc0, hc1, hd0, hd1⟩ : ∃ a c d : Int, x = (2 * a + c) * 134217728 + d ∧ 0 ≤ c ∧ c ≤ 1 ∧ 0 ≤ d ∧ d < 134217728 := ⟨x / 134217728 / 2, x / 134217728 % 2, x % 134217728, by omega, by omega, by omega, by omega, by omega⟩
  have ha : 0 ≤ a ∧ a < 16 := by omega
  have e3 : x * 32 % 4294967296 = d * 32 := by omega
  have e4 : x / 134217728 = 2 * a + c := by omega
  have e1 : x * 16 % 4294967296 = c * 2147483648 + d * 16 := by omega
  have e2 : x / 268435456 = a := by omega
  rw [e1, e2, e3, e4]
  have hy : 0 ≤ d * 16 + a ∧ d * 16 + a < 2147483648 := by omega
  have hc : c = 0 ∨ c = 1 := by omega
  clear hx h e3 e4
  rcases hc with rfl | rfl
  · rw [show (0 * 2147483648 + d * 16 + a) = d * 16 + a by omega, l1_lo hy]; omega
  · rw [show (1 * 2147483648 + d * 16 + a) = 2147483648 + (d * 16 + a) by omega, l1_hi hy]; omega
theorem lf_6 {x : Int} (h : 0 ≤ x ∧ x ≤ 4294967295) : lf 6 x = x * 64 % 4294967296 + x / 67108864 := by
  show l1 (lf 5 x) = _
  rw [lf_5 h]
  obtain ⟨a, c, d, hx, hc0, hc1, hd0, hd1⟩ : ∃ a c d : Int, x = (2 * a + c) * 67108864 + d ∧ 0 ≤ c ∧ c ≤ 1 ∧ 0 ≤ d ∧ d < 67108864 := ⟨x / 67108864 / 2, x / 67108864 % 2, x % 67108864, by omega, by omega, by omega, by omega, by omega⟩
  have ha : 0 ≤ a ∧ a < 32 := by omega
  have e3 : x * 64 % 4294967296 = d * 64 := by omega
  have e4 : x / 67108864 = 2 * a + c := by omega
  have e1 : x * 32 % 4294967296 = c * 2147483648 + d * 32 := by omega
  have e2 : x / 134217728 = a := by omega
  rw [e1, e2, e3, e4]
  have hy : 0 ≤ d * 32 + a ∧ d * 32 + a < 2147483648 := by omega
  have hc : c = 0 ∨ c = 1 := by omega
  clear hx h e3 e4
  rcases hc with rfl | rfl
  · rw [show (0 * 2147483648 + d * 32 + a) = d * 32 + a by omega, l1_lo hy]; omega
  · rw [show (1 * 2147483648 + d * 32 + a) = 2147483648 + (d * 32 + a) by omega, l1_hi hy]; omega
theorem lf_7 {x : Int} (h : 0 ≤ x ∧ x ≤ 4294967295) : lf 7 x = x * 128 % 4294967296 + x / 33554432 := by
  show l1 (lf 6 x) = _
  rw [lf_6 h]
  obtain ⟨a, c, d, hx, hc0, hc1, hd0, hd1⟩ : ∃ a c d : Int, x = (2 * a + c) * 33554432 + d ∧ 0 ≤ c ∧ c ≤ 1 ∧ 0 ≤ d ∧ d < 33554432 := ⟨x / 33554432 / 2, x / 33554432 % 2, x % 33554432, by omega, by omega, by omega, by omega, by omega⟩
  have ha : 0 ≤ a ∧ a < 64 := by omega
  have e3 : x * 128 % 4294967296 = d * 128 := by omega
  have e4 : x / 33554432 = 2 * a + c := by omega
  have e1 : x * 64 % 4294967296 = c * 2147483648 + d * 64 := by omega
  have e2 : x / 67108864 = a := by omega
  rw [e1, e2, e3, e4]
  have hy : 0 ≤ d * 64 + a ∧ d * 64 + a < 2147483648 := by omega
  have hc : c = 0 ∨ c = 1 := by omega
  clear hx h e3 e4
  rcases hc with rfl | rfl
  · rw [show (0 * 2147483648 + d * 64 + a) = d * 64 + a by omega, l1_lo hy]; omega
  · rw [show (1 * 2147483648 + d * 64 + a) = 2147483648 + (d * 64 + a) by omega, l1_hi hy]; omega
theorem lf_8 {x : Int} (h : 0 ≤ x ∧ x ≤ 4294967295) : lf 8 x = x * 256 % 4294967296 + x / 16777216 := by
  show l1 (lf 7 x) = _
  rw [lf_7 h]
  obtain ⟨a, c, d, hx, hc0, hc1, hd0, hd1⟩ : ∃ a c d : Int, x = (2 * a + c) * 16777216 + d ∧ 0 ≤ c ∧ c ≤ 1 ∧ 0 ≤ d ∧ d < 16777216 := ⟨x / 16777216 / 2, x / 16777216 % 2, x % 16777216, by omega, by omega, by omega, by omega, by omega⟩
  have ha : 0 ≤ a ∧ a < 128 := by omega
  have e3 : x * 256 % 4294967296 = d * 256 := by omega
  have e4 : x / 16777216 = 2 * a + c := by omega
  have e1 : x * 128 % 4294967296 = c * 2147483648 + d * 128 := by omega
  have e2 : x / 33554432 = a := by omega
  rw [e1, e2, e3, e4]
  have hy : 0 ≤ d * 128 + a ∧ d * 128 + a < 2147483648 := by omega
  have hc : c = 0 ∨ c = 1 := by omega
  clear hx h e3 e4
  rcases hc with rfl | rfl
  · rw [show (0 * 2147483648 + d * 128 + a) = d * 128 + a by omega, l1_lo hy]; omega
  · rw [show (1 * 2147483648 + d * 128 + a) = 2147483648 + (d * 128 + a) by omega, l1_hi hy]; omega
theorem lf_9 {x : Int} (h : 0 ≤ x ∧ x ≤ 4294967295) : lf 9 x = x * 512 % 4294967296 + x / 8388608 := by
  show l1 (lf 8 x) = _
  rw [lf_8 h]
  obtain ⟨a, c, d, hx, hc0, hc1, hd0, hd1⟩ : ∃ a c d : Int, x = (2 * a + c) * 8388608 + d ∧ 0 ≤ c ∧ c ≤ 1 ∧ 0 ≤ d ∧ d < 8388608 := ⟨x / 8388608 / 2, x / 8388608 % 2, x % 8388608, by omega, by omega, by omega, by omega, by omega⟩
  have ha : 0 ≤ a ∧ a < 256 := by omega
  have e3 : x * 512 % 4294967296 = d * 512 := by omega
  have e4 : x / 8388608 = 2 * a + c := by omega
  have e1 : x * 256 % 4294967296 = c * 2147483648 + d * 256 := by omega
  have e2 : x / 16777216 = a := by omega
  rw [e1, e2, e3, e4]
  have hy : 0 ≤ d * 256 + a ∧ d * 256 + a < 2147483648 := by omega
  have hc : c = 0 ∨ c = 1 := by omega
  clear hx h e3 e4
  rcases hc with rfl | rfl
  · rw [show (0 * 2147483648 + d * 256 + a) = d * 256 + a by omega, l1_lo hy]; omega
  · rw [show (1 * 2147483648 + d * 256 + a) = 2147483648 + (d * 256 + a) by omega, l1_hi hy]; omega
theorem lf_10 {x : Int} (h : 0 ≤ x ∧ x ≤ 4294967295) : lf 10 x = x * 1024 % 4294967296 + x / 4194304 := by
  show l1 (lf 9 x) = _
  rw [lf_9 h]
  obtain ⟨a, c, d, hx, hc0, hc1, hd0, hd1⟩ : ∃ a c d : Int, x = (2 * a + c) * 4194304 + d ∧ 0 ≤ c ∧ c ≤ 1 ∧ 0 ≤ d ∧ d < 4194304 := ⟨x / 4194304 / 2, x / 4194304 % 2, x % 4194304, by omega, by omega, by omega, by omega, by omega⟩
  have ha : 0 ≤ a ∧ a < 512 := by omega
  have e3 : x * 1024 % 4294967296 = d * 1024 := by omega
  have e4 : x / 4194304 = 2 * a + c := by omega
  have e1 : x * 512 % 4294967296 = c * 2147483648 + d * 512 := by omega
  have e2 : x / 8388608 = a := by omega
  rw [e1, e2, e3, e4]
  have hy : 0 ≤ d * 512 + a ∧ d * 512 + a < 2147483648 := by omega
  have hc : c = 0 ∨ c = 1 := by omega
  clear hx h e3 e4
  rcases hc with rfl | rfl
  · rw [show (0 * 2147483648 + d * 512 + a) = d * 512 + a by omega, l1_lo hy]; omega
  · rw [show (1 * 2147483648 + d * 512 + a) = 2147483648 + (d * 512 + a) by omega, l1_hi hy]; omega
theorem lf_11 {x : Int} (h : 0 ≤ x ∧ x ≤ 4294967295) : lf 11 x = x * 2048 % 4294967296 + x / 2097152 := by
  show l1 (lf 10 x) = _
  rw [lf_10 h]
  obtain ⟨a, c, d, hx, hc0, hc1, hd0, hd1⟩ : ∃ a c d : Int, x = (2 * a + c) * 2097152 + d ∧ 0 ≤ c ∧ c ≤ 1 ∧ 0 ≤ d ∧ d < 2097152 := ⟨x / 2097152 / 2, x / 2097152 % 2, x % 2097152, by omega, by omega, by omega, by omega, by omega⟩
  have ha : 0 ≤ a ∧ a < 1024 := by omega
  have e3 : x * 2048 % 4294967296 = d * 2048 := by omega
  have e4 : x / 2097152 = 2 * a + c := by omega
  have e1 : x * 1024 % 4294967296 = c * 2147483648 + d * 1024 := by omega
  have e2 : x / 4194304 = a := by omega
  rw [e1, e2, e3, e4]
  have hy : 0 ≤ d * 1024 + a ∧ d * 1024 + a < 2147483648 := by omega
  have hc : c = 0 ∨ c = 1 := by omega
  clear hx h e3 e4
  rcases hc with rfl | rfl
  · rw [show (0 * 2147483648 + d * 1024 + a) = d * 1024 + a by omega, l1_lo hy]; omega
  · rw [show (1 * 2147483648 + d * 1024 + a) = 2147483648 + (d * 1024 + a) by omega, l1_hi hy]; omega
theorem lf_12 {x : Int} (h : 0 ≤ x ∧ x ≤ 4294967295) : lf 12 x = x * 4096 % 4294967296 + x / 1048576 := by
  show l1 (lf 11 x) = _
  rw [lf_11 h]
  obtain ⟨a, c, d, hx, hc0, hc1, hd0, hd1⟩ : ∃ a c d : Int, x = (2 * a + c) * 1048576 + d ∧ 0 ≤ c ∧ c ≤ 1 ∧ 0 ≤ d ∧ d < 1048576 := ⟨x / 1048576 / 2, x / 1048576 % 2, x % 1048576, by omega, by omega, by omega, by omega, by omega⟩
  have ha : 0 ≤ a ∧ a < 2048 := by omega
  have e3 : x * 4096 % 4294967296 = d * 4096 := by omega
  have e4 : x / 1048576 = 2 * a + c := by omega
  have e1 : x * 2048 % 4294967296 = c * 2147483648 + d * 2048 := by omega
  have e2 : x / 2097152 = a := by omega
  rw [e1, e2, e3, e4]
  have hy : 0 ≤ d * 2048 + a ∧ d * 2048 + a < 2147483648 := by omega
  have hc : c = 0 ∨ c = 1 := by omega
  clear hx h e3 e4
  rcases hc with rfl | rfl
  · rw [show (0 * 2147483648 + d * 2048 + a) = d * 2048 + a by omega, l1_lo hy]; omega
  · rw [show (1 * 2147483648 + d * 2048 + a) = 2147483648 + (d * 2048 + a) by omega, l1_hi hy]; omega
theorem lf_13 {x : Int} (h : 0 ≤ x ∧ x ≤ 4294967295) : lf 13 x = x * 8192 % 4294967296 + x / 524288 := by
  show l1 (lf 12 x) = _
  rw [lf_12 h]
  obtain ⟨a, c, d, hx, hc0, hc1, hd0, hd1⟩ : ∃ a c d : Int, x = (2 * a + c) * 524288 + d ∧ 0 ≤ c ∧ c ≤ 1 ∧ 0 ≤ d ∧ d < 524288 := ⟨x / 524288 / 2, x / 524288 % 2, x % 524288, by omega, by omega, by omega, by omega, by omega⟩
  have ha : 0 ≤ a ∧ a < 4096 := by omega
  have e3 : x * 8192 % 4294967296 = d * 8192 := by omega
  have e4 : x / 524288 = 2 * a + c := by omega
  have e1 : x * 4096 % 4294967296 = c * 2147483648 + d * 4096 := by omega
  have e2 : x / 1048576 = a := by omega
  rw [e1, e2, e3, e4]
  have hy : 0 ≤ d * 4096 + a ∧ d * 4096 + a < 2147483648 := by omega
  have hc : c = 0 ∨ c = 1 := by omega
  clear hx h e3 e4
  rcases hc with rfl | rfl
  · rw [show (0 * 2147483648 + d * 4096 + a) = d * 4096 + a by omega, l1_lo hy]; omega
  · rw [show (1 * 2147483648 + d * 4096 + a) = 2147483648 + (d * 4096 + a) by omega, l1_hi hy]; omega
theorem lf_14 {x : Int} (h : 0 ≤ x ∧ x ≤ 4294967295) : lf 14 x = x * 16384 % 4294967296 + x / 262144 := by
  show l1 (lf 13 x) = _
  rw [lf_13 h]
  obtain ⟨a, c, d, hx, hc0, hc1, hd0, hd1⟩ : ∃ a c d : Int, x = (2 * a + c) * 262144 + d ∧ 0 ≤ c ∧ c ≤ 1 ∧ 0 ≤ d ∧ d < 262144 := ⟨x / 262144 / 2, x / 262144 % 2, x % 262144, by omega, by omega, by omega, by omega, by omega⟩
  have ha : 0 ≤ a ∧ a < 8192 := by omega
  have e3 : x * 16384 % 4294967296 = d * 16384 := by omega
  have e4 : x / 262144 = 2 * a + c := by omega
  have e1 : x * 8192 % 4294967296 = c * 2147483648 + d * 8192 := by omega
  have e2 : x / 524288 = a := by omega
  rw [e1, e2, e3, e4]
  have hy : 0 ≤ d * 8192 + a ∧ d * 8192 + a < 2147483648 := by omega
  have hc : c = 0 ∨ c = 1 := by omega
  clear hx h e3 e4
  rcases hc with rfl | rfl
  · rw [show (0 * 2147483648 + d * 8192 + a) = d * 8192 + a by omega, l1_lo hy]; omega
  · rw [show (1 * 2147483648 + d * 8192 + a) = 2147483648 + (d * 8192 + a) by omega, l1_hi hy]; omega
theorem lf_15 {x : Int} (h : 0 ≤ x ∧ x ≤ 4294967295) : lf 15 x = x * 32768 % 4294967296 + x / 131072 := by
  show l1 (lf 14 x) = _
  rw [lf_14 h]
  obtain ⟨a, c, d, hx, hc0, hc1, hd0, hd1⟩ : ∃ a c d : Int, x = (2 * a + c) * 131072 + d ∧ 0 ≤ c ∧ c ≤ 1 ∧ 0 ≤ d ∧ d < 131072 := ⟨x / 131072 / 2, x / 131072 % 2, x % 131072, by omega, by omega, by omega, by omega, by omega⟩
  have ha : 0 ≤ a ∧ a < 16384 := by omega
  have e3 : x * 32768 % 4294967296 = d * 32768 := by omega
  have e4 : x / 131072 = 2 * a + c := by omega
  have e1 : x * 16384 % 4294967296 = c * 2147483648 + d * 16384 := by omega
  have e2 : x / 262144 = a := by omega
  rw [e1, e2, e3, e4]
  have hy : 0 ≤ d * 16384 + a ∧ d * 16384 + a < 2147483648 := by omega
  have hc : c = 0 ∨ c = 1 := by omega
  clear hx h e3 e4
  rcases hc with rfl | rfl
  · rw [show (0 * 2147483648 + d * 16384 + a) = d * 16384 + a by omega, l1_lo hy]; omega
  · rw [show (1 * 2147483648 + d * 16384 + a) = 2147483648 + (d * 16384 + a) by omega, l1_hi hy]; omega
theorem lf_16 {x : Int} (h : 0 ≤ x ∧ x ≤ 4294967295) : lf 16 x = x * 65536 % 4294967296 + x / 65536 := by
  show l1 (lf 15 x) = _
  rw [lf_15 h]
  obtain ⟨a, c, d, hx, hc0, hc1, hd0, hd1⟩ : ∃ a c d : Int, x = (2 * a + c) * 65536 + d ∧ 0 ≤ c ∧ c ≤ 1 ∧ 0 ≤ d ∧ d < 65536 := ⟨x / 65536 / 2, x / 65536 % 2, x % 65536, by omega, by omega, by omega, by omega, by omega⟩
  have ha : 0 ≤ a ∧ a < 32768 := by omega
  have e3 : x * 65536 % 4294967296 = d * 65536 := by omega
  have e4 : x / 65536 = 2 * a + c := by omega
  have e1 : x * 32768 % 4294967296 = c * 2147483648 + d * 32768 := by omega
  have e2 : x / 131072 = a := by omega
  rw [e1, e2, e3, e4]
  have hy : 0 ≤ d * 32768 + a ∧ d * 32768 + a < 2147483648 := by omega
  have hc : c = 0 ∨ c = 1 := by omega
  clear hx h e3 e4
  rcases hc with rfl | rfl
  · rw [show (0 * 2147483648 + d * 32768 + a) = d * 32768 + a by omega, l1_lo hy]; omega
  · rw [show (1 * 2147483648 + d * 32768 + a) = 2147483648 + (d * 32768 + a) by omega, l1_hi hy]; omega
theorem or_mul (a b i m : Nat) (hm : m = 2 ^ i) (h : a < m) : a ||| (b * m) = b * m + a := by
  subst hm
  rw [Nat.or_comm, ← Nat.shiftLeft_eq, Nat.shiftLeft_add_eq_or_of_lt h]
theorem rl_16 {x : Int} (h : 0 ≤ x ∧ x ≤ 4294967295) : rl 16 x = lf 16 x := by
  obtain ⟨n, rfl⟩ := Int.eq_ofNat_of_zero_le h.1
  have e1 : ((n : Int) * 2 ^ 16 % 4294967296) = ((n % 65536 * 65536 : Nat) : Int) := by omega
  have e2 : ((n : Int) / 2 ^ (32 - 16)) = ((n / 65536 : Nat) : Int) := by omega
  rw [lf_16 h]
  unfold rl
  rw [e1, e2, u32_or_nat _ _ (by omega) (by omega), Nat.or_comm, or_mul _ _ 16 65536 (by decide) (by omega)]
  omega
theorem rotl16 (x : Int) (h : 0 ≤ x ∧ x ≤ 4294967295) (w : World) : Calls Tryd.prog 48 #[.int .u32 x, .int .i64 16] w fun e w' => e = .returned (.int .u32 (lf 16 x)) ∧ w' = w := by
  rw [← rl_16 h]
  exact rot16 x h.1 h.2 w
theorem rl_12 {x : Int} (h : 0 ≤ x ∧ x ≤ 4294967295) : rl 12 x = lf 12 x := by
  obtain ⟨n, rfl⟩ := Int.eq_ofNat_of_zero_le h.1
  have e1 : ((n : Int) * 2 ^ 12 % 4294967296) = ((n % 1048576 * 4096 : Nat) : Int) := by omega
  have e2 : ((n : Int) / 2 ^ (32 - 12)) = ((n / 1048576 : Nat) : Int) := by omega
  rw [lf_12 h]
  unfold rl
  rw [e1, e2, u32_or_nat _ _ (by omega) (by omega), Nat.or_comm, or_mul _ _ 12 4096 (by decide) (by omega)]
  omega
theorem rotl12 (x : Int) (h : 0 ≤ x ∧ x ≤ 4294967295) (w : World) : Calls Tryd.prog 48 #[.int .u32 x, .int .i64 12] w fun e w' => e = .returned (.int .u32 (lf 12 x)) ∧ w' = w := by
  rw [← rl_12 h]
  exact rot12 x h.1 h.2 w
theorem rl_8 {x : Int} (h : 0 ≤ x ∧ x ≤ 4294967295) : rl 8 x = lf 8 x := by
  obtain ⟨n, rfl⟩ := Int.eq_ofNat_of_zero_le h.1
  have e1 : ((n : Int) * 2 ^ 8 % 4294967296) = ((n % 16777216 * 256 : Nat) : Int) := by omega
  have e2 : ((n : Int) / 2 ^ (32 - 8)) = ((n / 16777216 : Nat) : Int) := by omega
  rw [lf_8 h]
  unfold rl
  rw [e1, e2, u32_or_nat _ _ (by omega) (by omega), Nat.or_comm, or_mul _ _ 8 256 (by decide) (by omega)]
  omega
theorem rotl8 (x : Int) (h : 0 ≤ x ∧ x ≤ 4294967295) (w : World) : Calls Tryd.prog 48 #[.int .u32 x, .int .i64 8] w fun e w' => e = .returned (.int .u32 (lf 8 x)) ∧ w' = w := by
  rw [← rl_8 h]
  exact rot8 x h.1 h.2 w
theorem rl_7 {x : Int} (h : 0 ≤ x ∧ x ≤ 4294967295) : rl 7 x = lf 7 x := by
  obtain ⟨n, rfl⟩ := Int.eq_ofNat_of_zero_le h.1
  have e1 : ((n : Int) * 2 ^ 7 % 4294967296) = ((n % 33554432 * 128 : Nat) : Int) := by omega
  have e2 : ((n : Int) / 2 ^ (32 - 7)) = ((n / 33554432 : Nat) : Int) := by omega
  rw [lf_7 h]
  unfold rl
  rw [e1, e2, u32_or_nat _ _ (by omega) (by omega), Nat.or_comm, or_mul _ _ 7 128 (by decide) (by omega)]
  omega
theorem rotl7 (x : Int) (h : 0 ≤ x ∧ x ≤ 4294967295) (w : World) : Calls Tryd.prog 48 #[.int .u32 x, .int .i64 7] w fun e w' => e = .returned (.int .u32 (lf 7 x)) ∧ w' = w := by
  rw [← rl_7 h]
  exact rot7 x h.1 h.2 w
end Go.Proofs.YteopejjlhmghbaaDoor
namespace Go.Proofs.YteopejjlhmghbaaDoor
open Go Go.RowKit
set_option linter.unusedVariables false
set_option linter.unusedSimpArgs false
theorem xor32_bd (a b : Int) : 0 ≤ bits .xor .u32 a b ∧ bits .xor .u32 a b ≤ 4294967295 := by
  unfold bits
  simp only [IntKind.wrap_u32']
  omega
theorem rot16c (a b : Int) (w : World) : CA Tryd.prog 48 [.int .u32 (bits .xor .u32 a b), .int .i64 16] w (RV (.int .u32 (lf 16 (bits .xor .u32 a b))) w) := ret_same (rotl16 _ (xor32_bd _ _) w)
theorem left16c (a b : Int) (w : World) : CA Tryd.prog 56 [.int .u32 (bits .xor .u32 a b), .int .i64 16] w (RV (.int .u32 (lf 16 (bits .xor .u32 a b))) w) := ret_same (left_any _ 16 (by omega) (xor32_bd _ _).1 (xor32_bd _ _).2 w)
theorem rot12c (a b : Int) (w : World) : CA Tryd.prog 48 [.int .u32 (bits .xor .u32 a b), .int .i64 12] w (RV (.int .u32 (lf 12 (bits .xor .u32 a b))) w) := ret_same (rotl12 _ (xor32_bd _ _) w)
theorem left12c (a b : Int) (w : World) : CA Tryd.prog 56 [.int .u32 (bits .xor .u32 a b), .int .i64 12] w (RV (.int .u32 (lf 12 (bits .xor .u32 a b))) w) := ret_same (left_any _ 12 (by omega) (xor32_bd _ _).1 (xor32_bd _ _).2 w)
theorem rot8c (a b : Int) (w : World) : CA Tryd.prog 48 [.int .u32 (bits .xor .u32 a b), .int .i64 8] w (RV (.int .u32 (lf 8 (bits .xor .u32 a b))) w) := ret_same (rotl8 _ (xor32_bd _ _) w)
theorem left8c (a b : Int) (w : World) : CA Tryd.prog 56 [.int .u32 (bits .xor .u32 a b), .int .i64 8] w (RV (.int .u32 (lf 8 (bits .xor .u32 a b))) w) := ret_same (left_any _ 8 (by omega) (xor32_bd _ _).1 (xor32_bd _ _).2 w)
theorem rot7c (a b : Int) (w : World) : CA Tryd.prog 48 [.int .u32 (bits .xor .u32 a b), .int .i64 7] w (RV (.int .u32 (lf 7 (bits .xor .u32 a b))) w) := ret_same (rotl7 _ (xor32_bd _ _) w)
theorem left7c (a b : Int) (w : World) : CA Tryd.prog 56 [.int .u32 (bits .xor .u32 a b), .int .i64 7] w (RV (.int .u32 (lf 7 (bits .xor .u32 a b))) w) := ret_same (left_any _ 7 (by omega) (xor32_bd _ _).1 (xor32_bd _ _).2 w)
def W32 (x : Int) : Prop := 0 ≤ x ∧ x ≤ 4294967295
def q4 (a b c d : Int) : Int × Int × Int × Int :=
  let a1 := (a + b) % 4294967296
  let d1 := lf 16 (bits .xor .u32 d a1)
  let c1 := (c + d1) % 4294967296
  let b1 := lf 12 (bits .xor .u32 b c1)
  let a2 := (a1 + b1) % 4294967296
  let d2 := lf 8 (bits .xor .u32 d1 a2)
  let c2 := (c1 + d2) % 4294967296
  let b2 := lf 7 (bits .xor .u32 b1 c2)
  (a2, b2, c2, d2)
set_option maxRecDepth 100000 in
set_option maxHeartbeats 1000000 in
theorem pq_0_4_8_12 (g : Nat) (x0 x1 x2 x3 x4 x5 x6 x7 x8 x9 x10 x11 x12 x13 x14 x15 A B C D : Int) (h : q4 x0 x4 x8 x12 = (A, B, C, D)) (w : World) (hL : Has [.blk g (.cells #[.int .u32 x0, .int .u32 x1, .int .u32 x2, .int .u32 x3, .int .u32 x4, .int .u32 x5, .int .u32 x6, .int .u32 x7, .int .u32 x8, .int .u32 x9, .int .u32 x10, .int .u32 x11, .int .u32 x12, .int .u32 x13, .int .u32 x14, .int .u32 x15] 68 (0, 0))] w) :
    CA Tryd.prog 30 [.pointer (some ⟨g, 0, none⟩), .pointer (some ⟨g, 4, none⟩), .pointer (some ⟨g, 8, none⟩), .pointer (some ⟨g, 12, none⟩)] w (Ret (fun (_ : Unit) => .tuple #[]) [g] (fun _ => [.blk g (.cells #[.int .u32 A, .int .u32 x1, .int .u32 x2, .int .u32 x3, .int .u32 B, .int .u32 x5, .int .u32 x6, .int .u32 x7, .int .u32 C, .int .u32 x9, .int .u32 x10, .int .u32 x11, .int .u32 D, .int .u32 x13, .int .u32 x14, .int .u32 x15] 68 (0, 0))]) (fun _ => True) w) := by
  have e1 : (q4 x0 x4 x8 x12).1 = A := by rw [h]
  have e2 : (q4 x0 x4 x8 x12).2.1 = B := by rw [h]
  have e3 : (q4 x0 x4 x8 x12).2.2.1 = C := by rw [h]
  have e4 : (q4 x0 x4 x8 x12).2.2.2 = D := by rw [h]
  rw [← e1, ← e2, ← e3, ← e4]
  clear e1 e2 e3 e4 h
  refine enter (L := _) (X := [g]) Tryd.func30 rfl Tryd.ntmps30 rfl rfl hL ?_
  repeat (first | refine c_seq ?_ | (refine x_region (id := 0) (some 8) [(0, .n), (1, .n), (2, .q), (3, .n), (4, .n), (5, .q), (6, .n), (7, .n), (8, .b)] _ mixed (by kernel_rfl) (List.Sublist.refl _) ?_; refine xn rfl qm ?_; refine xn rfl qn ?_; refine xq rfl ql ?_; refine xn rfl qm ?_; refine xn rfl qn ?_; refine xq rfl ql ?_; refine xn rfl qadd32 ?_; refine xn rfl qn ?_; refine x_b rfl ?_; (first | refine es1 ?_ | refine es2 ?_ | refine es3 ?_); refine x_k (List.nil_sublist _) ?_; refine x_nil ?_) | (refine x_region (id := 1) (some 10) [(0, .n), (1, .n), (2, .n), (3, .q), (4, .n), (5, .n), (6, .q), (7, .n), (8, .e), (9, .n), (10, .b)] _ mixed (by kernel_rfl) (List.Sublist.refl _) ?_; refine xn rfl qm ?_; refine xn rfl qm ?_; refine xn rfl qn ?_; refine xq rfl ql ?_; refine xn rfl qm ?_; refine xn rfl qn ?_; refine xq rfl ql ?_; refine xn rfl qxor ?_; refine x_e rfl ?_; refine ecp rfl rfl (fun w hC hm hL => by (first | exact rot16c _ _ w | exact rot12c _ _ w | exact rot8c _ _ w | exact rot7c _ _ w)) ?_; intro m' hm'; refine xk ?_; refine xn rfl qn ?_; refine x_b rfl ?_; (first | refine es1 ?_ | refine es2 ?_ | refine es3 ?_); refine x_k (List.nil_sublist _) ?_; refine x_nil ?_) | (refine x_region (id := 2) (some 8) [(0, .n), (1, .n), (2, .q), (3, .n), (4, .n), (5, .q), (6, .n), (7, .n), (8, .b)] _ mixed (by kernel_rfl) (List.Sublist.refl _) ?_; refine xn rfl qm ?_; refine xn rfl qn ?_; refine xq rfl ql ?_; refine xn rfl qm ?_; refine xn rfl qn ?_; refine xq rfl ql ?_; refine xn rfl qadd32 ?_; refine xn rfl qn ?_; refine x_b rfl ?_; (first | refine es1 ?_ | refine es2 ?_ | refine es3 ?_); refine x_k (List.nil_sublist _) ?_; refine x_nil ?_) | (refine x_region (id := 3) (some 10) [(0, .n), (1, .n), (2, .n), (3, .q), (4, .n), (5, .n), (6, .q), (7, .n), (8, .e), (9, .n), (10, .b)] _ mixed (by kernel_rfl) (List.Sublist.refl _) ?_; refine xn rfl qm ?_; refine xn rfl qm ?_; refine xn rfl qn ?_; refine xq rfl ql ?_; refine xn rfl qm ?_; refine xn rfl qn ?_; refine xq rfl ql ?_; refine xn rfl qxor ?_; refine x_e rfl ?_; refine ecp rfl rfl (fun w hC hm hL => by (first | exact rot16c _ _ w | exact rot12c _ _ w | exact rot8c _ _ w | exact rot7c _ _ w)) ?_; intro m' hm'; refine xk ?_; refine xn rfl qn ?_; refine x_b rfl ?_; (first | refine es1 ?_ | refine es2 ?_ | refine es3 ?_); refine x_k (List.nil_sublist _) ?_; refine x_nil ?_) | (refine x_region (id := 4) (some 8) [(0, .n), (1, .n), (2, .q), (3, .n), (4, .n), (5, .q), (6, .n), (7, .n), (8, .b)] _ mixed (by kernel_rfl) (List.Sublist.refl _) ?_; refine xn rfl qm ?_; refine xn rfl qn ?_; refine xq rfl ql ?_; refine xn rfl qm ?_; refine xn rfl qn ?_; refine xq rfl ql ?_; refine xn rfl qadd32 ?_; refine xn rfl qn ?_; refine x_b rfl ?_; (first | refine es1 ?_ | refine es2 ?_ | refine es3 ?_); refine x_k (List.nil_sublist _) ?_; refine x_nil ?_) | (refine x_region (id := 5) (some 10) [(0, .n), (1, .n), (2, .n), (3, .q), (4, .n), (5, .n), (6, .q), (7, .n), (8, .e), (9, .n), (10, .b)] _ mixed (by kernel_rfl) (List.Sublist.refl _) ?_; refine xn rfl qm ?_; refine xn rfl qm ?_; refine xn rfl qn ?_; refine xq rfl ql ?_; refine xn rfl qm ?_; refine xn rfl qn ?_; refine xq rfl ql ?_; refine xn rfl qxor ?_; refine x_e rfl ?_; refine ecp rfl rfl (fun w hC hm hL => by (first | exact rot16c _ _ w | exact rot12c _ _ w | exact rot8c _ _ w | exact rot7c _ _ w)) ?_; intro m' hm'; refine xk ?_; refine xn rfl qn ?_; refine x_b rfl ?_; (first | refine es1 ?_ | refine es2 ?_ | refine es3 ?_); refine x_k (List.nil_sublist _) ?_; refine x_nil ?_) | (refine x_region (id := 6) (some 8) [(0, .n), (1, .n), (2, .q), (3, .n), (4, .n), (5, .q), (6, .n), (7, .n), (8, .b)] _ mixed (by kernel_rfl) (List.Sublist.refl _) ?_; refine xn rfl qm ?_; refine xn rfl qn ?_; refine xq rfl ql ?_; refine xn rfl qm ?_; refine xn rfl qn ?_; refine xq rfl ql ?_; refine xn rfl qadd32 ?_; refine xn rfl qn ?_; refine x_b rfl ?_; (first | refine es1 ?_ | refine es2 ?_ | refine es3 ?_); refine x_k (List.nil_sublist _) ?_; refine x_nil ?_) | (refine x_region (id := 7) (some 10) [(0, .n), (1, .n), (2, .n), (3, .q), (4, .n), (5, .n), (6, .q), (7, .n), (8, .e), (9, .n), (10, .b)] _ mixed (by kernel_rfl) (List.Sublist.refl _) ?_; refine xn rfl qm ?_; refine xn rfl qm ?_; refine xn rfl qn ?_; refine xq rfl ql ?_; refine xn rfl qm ?_; refine xn rfl qn ?_; refine xq rfl ql ?_; refine xn rfl qxor ?_; refine x_e rfl ?_; refine ecp rfl rfl (fun w hC hm hL => by (first | exact rot16c _ _ w | exact rot12c _ _ w | exact rot8c _ _ w | exact rot7c _ _ w)) ?_; intro m' hm'; refine xk ?_; refine xn rfl qn ?_; refine x_b rfl ?_; (first | refine es1 ?_ | refine es2 ?_ | refine es3 ?_); refine x_k (List.nil_sublist _) ?_; refine x_nil ?_) | refine n_then ?_ | refine c_block ?_ | refine c_skip ?_ | refine n_block ?_ | refine c_exit ?_ | refine n_then_exit ?_ | refine n_block_eq ?_ | refine n_block_ne rfl ?_ | refine c_ret ?_ | refine n_then_ret ?_ | refine n_block_ret ?_ | refine c_cond_t rfl ?_ | refine c_cond_f rfl ?_ | refine r_succ ?_ )
  (first | apply r_ret () | apply r_end ()); exact rfl; exact rfl; exact .nil; exact rfl; exact (List.Sublist.refl _); exact (new_blk (.inl (by simp)) new_nil); exact trivial
set_option maxRecDepth 100000 in
set_option maxHeartbeats 1000000 in
theorem rq_0_4_8_12 (x0 x1 x2 x3 x4 x5 x6 x7 x8 x9 x10 x11 x12 x13 x14 x15 A B C D : Int) (h : q4 x0 x4 x8 x12 = (A, B, C, D)) (w : World) :
    CA Tryd.prog 42 [.agg #[.int .u32 x0, .int .u32 x1, .int .u32 x2, .int .u32 x3, .int .u32 x4, .int .u32 x5, .int .u32 x6, .int .u32 x7, .int .u32 x8, .int .u32 x9, .int .u32 x10, .int .u32 x11, .int .u32 x12, .int .u32 x13, .int .u32 x14, .int .u32 x15], .int .i64 0, .int .i64 4, .int .i64 8, .int .i64 12] w (RV (.agg #[.int .u32 A, .int .u32 x1, .int .u32 x2, .int .u32 x3, .int .u32 B, .int .u32 x5, .int .u32 x6, .int .u32 x7, .int .u32 C, .int .u32 x9, .int .u32 x10, .int .u32 x11, .int .u32 D, .int .u32 x13, .int .u32 x14, .int .u32 x15]) w) := by
  have e1 : (q4 x0 x4 x8 x12).1 = A := by rw [h]
  have e2 : (q4 x0 x4 x8 x12).2.1 = B := by rw [h]
  have e3 : (q4 x0 x4 x8 x12).2.2.1 = C := by rw [h]
  have e4 : (q4 x0 x4 x8 x12).2.2.2 = D := by rw [h]
  rw [← e1, ← e2, ← e3, ← e4]
  clear e1 e2 e3 e4 h
  refine enter (L := []) (X := []) Tryd.func42 rfl Tryd.ntmps42 rfl rfl (Has.nil _) ?_
  repeat (first | refine c_seq ?_ | (refine c_region (id := 0) ?_; refine se ?_; refine eb ?_; refine se ?_; refine ea ?_; refine l_nil ?_) | (refine x_region (id := 1) (some 9) [(0, .n), (1, .n), (2, .n), (3, .q), (4, .n), (5, .n), (6, .q), (7, .n), (8, .n), (9, .b)] _ mixed (by kernel_rfl) (List.Sublist.refl _) ?_; refine xn rfl qm ?_; refine xn rfl qm ?_; refine xn rfl qia ?_; refine xq rfl ql ?_; refine xn rfl qm ?_; refine xn rfl qia ?_; refine xq rfl ql ?_; refine xn rfl qadd32 ?_; refine xn rfl qia ?_; refine x_b rfl ?_; (first | refine es1 ?_ | refine es2 ?_ | refine es3 ?_); refine x_k (List.nil_sublist _) ?_; refine x_nil ?_) | (refine x_region (id := 2) (some 10) [(0, .n), (1, .n), (2, .n), (3, .q), (4, .n), (5, .n), (6, .q), (7, .n), (8, .e), (9, .n), (10, .b)] _ mixed (by kernel_rfl) (List.Sublist.refl _) ?_; refine xn rfl qm ?_; refine xn rfl qm ?_; refine xn rfl qia ?_; refine xq rfl ql ?_; refine xn rfl qm ?_; refine xn rfl qia ?_; refine xq rfl ql ?_; refine xn rfl qxor ?_; refine x_e rfl ?_; refine ecp rfl rfl (fun w hC hm hL => by (first | exact left16c _ _ w | exact left12c _ _ w | exact left8c _ _ w | exact left7c _ _ w)) ?_; intro m' hm'; refine xk ?_; refine xn rfl qia ?_; refine x_b rfl ?_; (first | refine es1 ?_ | refine es2 ?_ | refine es3 ?_); refine x_k (List.nil_sublist _) ?_; refine x_nil ?_) | (refine x_region (id := 3) (some 9) [(0, .n), (1, .n), (2, .n), (3, .q), (4, .n), (5, .n), (6, .q), (7, .n), (8, .n), (9, .b)] _ mixed (by kernel_rfl) (List.Sublist.refl _) ?_; refine xn rfl qm ?_; refine xn rfl qm ?_; refine xn rfl qia ?_; refine xq rfl ql ?_; refine xn rfl qm ?_; refine xn rfl qia ?_; refine xq rfl ql ?_; refine xn rfl qadd32 ?_; refine xn rfl qia ?_; refine x_b rfl ?_; (first | refine es1 ?_ | refine es2 ?_ | refine es3 ?_); refine x_k (List.nil_sublist _) ?_; refine x_nil ?_) | (refine x_region (id := 4) (some 10) [(0, .n), (1, .n), (2, .n), (3, .q), (4, .n), (5, .n), (6, .q), (7, .n), (8, .e), (9, .n), (10, .b)] _ mixed (by kernel_rfl) (List.Sublist.refl _) ?_; refine xn rfl qm ?_; refine xn rfl qm ?_; refine xn rfl qia ?_; refine xq rfl ql ?_; refine xn rfl qm ?_; refine xn rfl qia ?_; refine xq rfl ql ?_; refine xn rfl qxor ?_; refine x_e rfl ?_; refine ecp rfl rfl (fun w hC hm hL => by (first | exact left16c _ _ w | exact left12c _ _ w | exact left8c _ _ w | exact left7c _ _ w)) ?_; intro m' hm'; refine xk ?_; refine xn rfl qia ?_; refine x_b rfl ?_; (first | refine es1 ?_ | refine es2 ?_ | refine es3 ?_); refine x_k (List.nil_sublist _) ?_; refine x_nil ?_) | (refine x_region (id := 5) (some 9) [(0, .n), (1, .n), (2, .n), (3, .q), (4, .n), (5, .n), (6, .q), (7, .n), (8, .n), (9, .b)] _ mixed (by kernel_rfl) (List.Sublist.refl _) ?_; refine xn rfl qm ?_; refine xn rfl qm ?_; refine xn rfl qia ?_; refine xq rfl ql ?_; refine xn rfl qm ?_; refine xn rfl qia ?_; refine xq rfl ql ?_; refine xn rfl qadd32 ?_; refine xn rfl qia ?_; refine x_b rfl ?_; (first | refine es1 ?_ | refine es2 ?_ | refine es3 ?_); refine x_k (List.nil_sublist _) ?_; refine x_nil ?_) | (refine x_region (id := 6) (some 10) [(0, .n), (1, .n), (2, .n), (3, .q), (4, .n), (5, .n), (6, .q), (7, .n), (8, .e), (9, .n), (10, .b)] _ mixed (by kernel_rfl) (List.Sublist.refl _) ?_; refine xn rfl qm ?_; refine xn rfl qm ?_; refine xn rfl qia ?_; refine xq rfl ql ?_; refine xn rfl qm ?_; refine xn rfl qia ?_; refine xq rfl ql ?_; refine xn rfl qxor ?_; refine x_e rfl ?_; refine ecp rfl rfl (fun w hC hm hL => by (first | exact left16c _ _ w | exact left12c _ _ w | exact left8c _ _ w | exact left7c _ _ w)) ?_; intro m' hm'; refine xk ?_; refine xn rfl qia ?_; refine x_b rfl ?_; (first | refine es1 ?_ | refine es2 ?_ | refine es3 ?_); refine x_k (List.nil_sublist _) ?_; refine x_nil ?_) | (refine x_region (id := 7) (some 9) [(0, .n), (1, .n), (2, .n), (3, .q), (4, .n), (5, .n), (6, .q), (7, .n), (8, .n), (9, .b)] _ mixed (by kernel_rfl) (List.Sublist.refl _) ?_; refine xn rfl qm ?_; refine xn rfl qm ?_; refine xn rfl qia ?_; refine xq rfl ql ?_; refine xn rfl qm ?_; refine xn rfl qia ?_; refine xq rfl ql ?_; refine xn rfl qadd32 ?_; refine xn rfl qia ?_; refine x_b rfl ?_; (first | refine es1 ?_ | refine es2 ?_ | refine es3 ?_); refine x_k (List.nil_sublist _) ?_; refine x_nil ?_) | (refine x_region (id := 8) (some 10) [(0, .n), (1, .n), (2, .n), (3, .q), (4, .n), (5, .n), (6, .q), (7, .n), (8, .e), (9, .n), (10, .b)] _ mixed (by kernel_rfl) (List.Sublist.refl _) ?_; refine xn rfl qm ?_; refine xn rfl qm ?_; refine xn rfl qia ?_; refine xq rfl ql ?_; refine xn rfl qm ?_; refine xn rfl qia ?_; refine xq rfl ql ?_; refine xn rfl qxor ?_; refine x_e rfl ?_; refine ecp rfl rfl (fun w hC hm hL => by (first | exact left16c _ _ w | exact left12c _ _ w | exact left8c _ _ w | exact left7c _ _ w)) ?_; intro m' hm'; refine xk ?_; refine xn rfl qia ?_; refine x_b rfl ?_; (first | refine es1 ?_ | refine es2 ?_ | refine es3 ?_); refine x_k (List.nil_sublist _) ?_; refine x_nil ?_) | (refine c_region (id := 9) ?_; refine sq (by first | exact qlb | exact qlr) ?_; refine se ?_; refine esa ?_; refine l_nil ?_) | refine n_then ?_ | refine c_block ?_ | refine c_skip ?_ | refine n_block ?_ | refine c_exit ?_ | refine n_then_exit ?_ | refine n_block_eq ?_ | refine n_block_ne rfl ?_ | refine c_ret ?_ | refine n_then_ret ?_ | refine n_block_ret ?_ | refine c_cond_t rfl ?_ | refine c_cond_f rfl ?_ | refine r_succ ?_ )
  (first | apply r_ret () | apply r_end ()); exact rfl; exact rfl; exact (.row rfl (by (repeat (first | exact List.Mem.head _ | apply List.Mem.tail))) (by rfl) .nil); exact rfl; exact (List.nil_sublist _); exact new_nil; exact trivial
set_option maxRecDepth 100000 in
set_option maxHeartbeats 1000000 in
theorem pq_1_5_9_13 (g : Nat) (x0 x1 x2 x3 x4 x5 x6 x7 x8 x9 x10 x11 x12 x13 x14 x15 A B C D : Int) (h : q4 x1 x5 x9 x13 = (A, B, C, D)) (w : World) (hL : Has [.blk g (.cells #[.int .u32 x0, .int .u32 x1, .int .u32 x2, .int .u32 x3, .int .u32 x4, .int .u32 x5, .int .u32 x6, .int .u32 x7, .int .u32 x8, .int .u32 x9, .int .u32 x10, .int .u32 x11, .int .u32 x12, .int .u32 x13, .int .u32 x14, .int .u32 x15] 68 (0, 0))] w) :
    CA Tryd.prog 30 [.pointer (some ⟨g, 1, none⟩), .pointer (some ⟨g, 5, none⟩), .pointer (some ⟨g, 9, none⟩), .pointer (some ⟨g, 13, none⟩)] w (Ret (fun (_ : Unit) => .tuple #[]) [g] (fun _ => [.blk g (.cells #[.int .u32 x0, .int .u32 A, .int .u32 x2, .int .u32 x3, .int .u32 x4, .int .u32 B, .int .u32 x6, .int .u32 x7, .int .u32 x8, .int .u32 C, .int .u32 x10, .int .u32 x11, .int .u32 x12, .int .u32 D, .int .u32 x14, .int .u32 x15] 68 (0, 0))]) (fun _ => True) w) := by
  have e1 : (q4 x1 x5 x9 x13).1 = A := by rw [h]
  have e2 : (q4 x1 x5 x9 x13).2.1 = B := by rw [h]
  have e3 : (q4 x1 x5 x9 x13).2.2.1 = C := by rw [h]
  have e4 : (q4 x1 x5 x9 x13).2.2.2 = D := by rw [h]
  rw [← e1, ← e2, ← e3, ← e4]
  clear e1 e2 e3 e4 h
  refine enter (L := _) (X := [g]) Tryd.func30 rfl Tryd.ntmps30 rfl rfl hL ?_
  repeat (first | refine c_seq ?_ | (refine x_region (id := 0) (some 8) [(0, .n), (1, .n), (2, .q), (3, .n), (4, .n), (5, .q), (6, .n), (7, .n), (8, .b)] _ mixed (by kernel_rfl) (List.Sublist.refl _) ?_; refine xn rfl qm ?_; refine xn rfl qn ?_; refine xq rfl ql ?_; refine xn rfl qm ?_; refine xn rfl qn ?_; refine xq rfl ql ?_; refine xn rfl qadd32 ?_; refine xn rfl qn ?_; refine x_b rfl ?_; (first | refine es1 ?_ | refine es2 ?_ | refine es3 ?_); refine x_k (List.nil_sublist _) ?_; refine x_nil ?_) | (refine x_region (id := 1) (some 10) [(0, .n), (1, .n), (2, .n), (3, .q), (4, .n), (5, .n), (6, .q), (7, .n), (8, .e), (9, .n), (10, .b)] _ mixed (by kernel_rfl) (List.Sublist.refl _) ?_; refine xn rfl qm ?_; refine xn rfl qm ?_; refine xn rfl qn ?_; refine xq rfl ql ?_; refine xn rfl qm ?_; refine xn rfl qn ?_; refine xq rfl ql ?_; refine xn rfl qxor ?_; refine x_e rfl ?_; refine ecp rfl rfl (fun w hC hm hL => by (first | exact rot16c _ _ w | exact rot12c _ _ w | exact rot8c _ _ w | exact rot7c _ _ w)) ?_; intro m' hm'; refine xk ?_; refine xn rfl qn ?_; refine x_b rfl ?_; (first | refine es1 ?_ | refine es2 ?_ | refine es3 ?_); refine x_k (List.nil_sublist _) ?_; refine x_nil ?_) | (refine x_region (id := 2) (some 8) [(0, .n), (1, .n), (2, .q), (3, .n), (4, .n), (5, .q), (6, .n), (7, .n), (8, .b)] _ mixed (by kernel_rfl) (List.Sublist.refl _) ?_; refine xn rfl qm ?_; refine xn rfl qn ?_; refine xq rfl ql ?_; refine xn rfl qm ?_; refine xn rfl qn ?_; refine xq rfl ql ?_; refine xn rfl qadd32 ?_; refine xn rfl qn ?_; refine x_b rfl ?_; (first | refine es1 ?_ | refine es2 ?_ | refine es3 ?_); refine x_k (List.nil_sublist _) ?_; refine x_nil ?_) | (refine x_region (id := 3) (some 10) [(0, .n), (1, .n), (2, .n), (3, .q), (4, .n), (5, .n), (6, .q), (7, .n), (8, .e), (9, .n), (10, .b)] _ mixed (by kernel_rfl) (List.Sublist.refl _) ?_; refine xn rfl qm ?_; refine xn rfl qm ?_; refine xn rfl qn ?_; refine xq rfl ql ?_; refine xn rfl qm ?_; refine xn rfl qn ?_; refine xq rfl ql ?_; refine xn rfl qxor ?_; refine x_e rfl ?_; refine ecp rfl rfl (fun w hC hm hL => by (first | exact rot16c _ _ w | exact rot12c _ _ w | exact rot8c _ _ w | exact rot7c _ _ w)) ?_; intro m' hm'; refine xk ?_; refine xn rfl qn ?_; refine x_b rfl ?_; (first | refine es1 ?_ | refine es2 ?_ | refine es3 ?_); refine x_k (List.nil_sublist _) ?_; refine x_nil ?_) | (refine x_region (id := 4) (some 8) [(0, .n), (1, .n), (2, .q), (3, .n), (4, .n), (5, .q), (6, .n), (7, .n), (8, .b)] _ mixed (by kernel_rfl) (List.Sublist.refl _) ?_; refine xn rfl qm ?_; refine xn rfl qn ?_; refine xq rfl ql ?_; refine xn rfl qm ?_; refine xn rfl qn ?_; refine xq rfl ql ?_; refine xn rfl qadd32 ?_; refine xn rfl qn ?_; refine x_b rfl ?_; (first | refine es1 ?_ | refine es2 ?_ | refine es3 ?_); refine x_k (List.nil_sublist _) ?_; refine x_nil ?_) | (refine x_region (id := 5) (some 10) [(0, .n), (1, .n), (2, .n), (3, .q), (4, .n), (5, .n), (6, .q), (7, .n), (8, .e), (9, .n), (10, .b)] _ mixed (by kernel_rfl) (List.Sublist.refl _) ?_; refine xn rfl qm ?_; refine xn rfl qm ?_; refine xn rfl qn ?_; refine xq rfl ql ?_; refine xn rfl qm ?_; refine xn rfl qn ?_; refine xq rfl ql ?_; refine xn rfl qxor ?_; refine x_e rfl ?_; refine ecp rfl rfl (fun w hC hm hL => by (first | exact rot16c _ _ w | exact rot12c _ _ w | exact rot8c _ _ w | exact rot7c _ _ w)) ?_; intro m' hm'; refine xk ?_; refine xn rfl qn ?_; refine x_b rfl ?_; (first | refine es1 ?_ | refine es2 ?_ | refine es3 ?_); refine x_k (List.nil_sublist _) ?_; refine x_nil ?_) | (refine x_region (id := 6) (some 8) [(0, .n), (1, .n), (2, .q), (3, .n), (4, .n), (5, .q), (6, .n), (7, .n), (8, .b)] _ mixed (by kernel_rfl) (List.Sublist.refl _) ?_; refine xn rfl qm ?_; refine xn rfl qn ?_; refine xq rfl ql ?_; refine xn rfl qm ?_; refine xn rfl qn ?_; refine xq rfl ql ?_; refine xn rfl qadd32 ?_; refine xn rfl qn ?_; refine x_b rfl ?_; (first | refine es1 ?_ | refine es2 ?_ | refine es3 ?_); refine x_k (List.nil_sublist _) ?_; refine x_nil ?_) | (refine x_region (id := 7) (some 10) [(0, .n), (1, .n), (2, .n), (3, .q), (4, .n), (5, .n), (6, .q), (7, .n), (8, .e), (9, .n), (10, .b)] _ mixed (by kernel_rfl) (List.Sublist.refl _) ?_; refine xn rfl qm ?_; refine xn rfl qm ?_; refine xn rfl qn ?_; refine xq rfl ql ?_; refine xn rfl qm ?_; refine xn rfl qn ?_; refine xq rfl ql ?_; refine xn rfl qxor ?_; refine x_e rfl ?_; refine ecp rfl rfl (fun w hC hm hL => by (first | exact rot16c _ _ w | exact rot12c _ _ w | exact rot8c _ _ w | exact rot7c _ _ w)) ?_; intro m' hm'; refine xk ?_; refine xn rfl qn ?_; refine x_b rfl ?_; (first | refine es1 ?_ | refine es2 ?_ | refine es3 ?_); refine x_k (List.nil_sublist _) ?_; refine x_nil ?_) | refine n_then ?_ | refine c_block ?_ | refine c_skip ?_ | refine n_block ?_ | refine c_exit ?_ | refine n_then_exit ?_ | refine n_block_eq ?_ | refine n_block_ne rfl ?_ | refine c_ret ?_ | refine n_then_ret ?_ | refine n_block_ret ?_ | refine c_cond_t rfl ?_ | refine c_cond_f rfl ?_ | refine r_succ ?_ )
  (first | apply r_ret () | apply r_end ()); exact rfl; exact rfl; exact .nil; exact rfl; exact (List.Sublist.refl _); exact (new_blk (.inl (by simp)) new_nil); exact trivial
set_option maxRecDepth 100000 in
set_option maxHeartbeats 1000000 in
theorem rq_1_5_9_13 (x0 x1 x2 x3 x4 x5 x6 x7 x8 x9 x10 x11 x12 x13 x14 x15 A B C D : Int) (h : q4 x1 x5 x9 x13 = (A, B, C, D)) (w : World) :
    CA Tryd.prog 42 [.agg #[.int .u32 x0, .int .u32 x1, .int .u32 x2, .int .u32 x3, .int .u32 x4, .int .u32 x5, .int .u32 x6, .int .u32 x7, .int .u32 x8, .int .u32 x9, .int .u32 x10, .int .u32 x11, .int .u32 x12, .int .u32 x13, .int .u32 x14, .int .u32 x15], .int .i64 1, .int .i64 5, .int .i64 9, .int .i64 13] w (RV (.agg #[.int .u32 x0, .int .u32 A, .int .u32 x2, .int .u32 x3, .int .u32 x4, .int .u32 B, .int .u32 x6, .int .u32 x7, .int .u32 x8, .int .u32 C, .int .u32 x10, .int .u32 x11, .int .u32 x12, .int .u32 D, .int .u32 x14, .int .u32 x15]) w) := by
  have e1 : (q4 x1 x5 x9 x13).1 = A := by rw [h]
  have e2 : (q4 x1 x5 x9 x13).2.1 = B := by rw [h]
  have e3 : (q4 x1 x5 x9 x13).2.2.1 = C := by rw [h]
  have e4 : (q4 x1 x5 x9 x13).2.2.2 = D := by rw [h]
  rw [← e1, ← e2, ← e3, ← e4]
  clear e1 e2 e3 e4 h
  refine enter (L := []) (X := []) Tryd.func42 rfl Tryd.ntmps42 rfl rfl (Has.nil _) ?_
  repeat (first | refine c_seq ?_ | (refine c_region (id := 0) ?_; refine se ?_; refine eb ?_; refine se ?_; refine ea ?_; refine l_nil ?_) | (refine x_region (id := 1) (some 9) [(0, .n), (1, .n), (2, .n), (3, .q), (4, .n), (5, .n), (6, .q), (7, .n), (8, .n), (9, .b)] _ mixed (by kernel_rfl) (List.Sublist.refl _) ?_; refine xn rfl qm ?_; refine xn rfl qm ?_; refine xn rfl qia ?_; refine xq rfl ql ?_; refine xn rfl qm ?_; refine xn rfl qia ?_; refine xq rfl ql ?_; refine xn rfl qadd32 ?_; refine xn rfl qia ?_; refine x_b rfl ?_; (first | refine es1 ?_ | refine es2 ?_ | refine es3 ?_); refine x_k (List.nil_sublist _) ?_; refine x_nil ?_) | (refine x_region (id := 2) (some 10) [(0, .n), (1, .n), (2, .n), (3, .q), (4, .n), (5, .n), (6, .q), (7, .n), (8, .e), (9, .n), (10, .b)] _ mixed (by kernel_rfl) (List.Sublist.refl _) ?_; refine xn rfl qm ?_; refine xn rfl qm ?_; refine xn rfl qia ?_; refine xq rfl ql ?_; refine xn rfl qm ?_; refine xn rfl qia ?_; refine xq rfl ql ?_; refine xn rfl qxor ?_; refine x_e rfl ?_; refine ecp rfl rfl (fun w hC hm hL => by (first | exact left16c _ _ w | exact left12c _ _ w | exact left8c _ _ w | exact left7c _ _ w)) ?_; intro m' hm'; refine xk ?_; refine xn rfl qia ?_; refine x_b rfl ?_; (first | refine es1 ?_ | refine es2 ?_ | refine es3 ?_); refine x_k (List.nil_sublist _) ?_; refine x_nil ?_) | (refine x_region (id := 3) (some 9) [(0, .n), (1, .n), (2, .n), (3, .q), (4, .n), (5, .n), (6, .q), (7, .n), (8, .n), (9, .b)] _ mixed (by kernel_rfl) (List.Sublist.refl _) ?_; refine xn rfl qm ?_; refine xn rfl qm ?_; refine xn rfl qia ?_; refine xq rfl ql ?_; refine xn rfl qm ?_; refine xn rfl qia ?_; refine xq rfl ql ?_; refine xn rfl qadd32 ?_; refine xn rfl qia ?_; refine x_b rfl ?_; (first | refine es1 ?_ | refine es2 ?_ | refine es3 ?_); refine x_k (List.nil_sublist _) ?_; refine x_nil ?_) | (refine x_region (id := 4) (some 10) [(0, .n), (1, .n), (2, .n), (3, .q), (4, .n), (5, .n), (6, .q), (7, .n), (8, .e), (9, .n), (10, .b)] _ mixed (by kernel_rfl) (List.Sublist.refl _) ?_; refine xn rfl qm ?_; refine xn rfl qm ?_; refine xn rfl qia ?_; refine xq rfl ql ?_; refine xn rfl qm ?_; refine xn rfl qia ?_; refine xq rfl ql ?_; refine xn rfl qxor ?_; refine x_e rfl ?_; refine ecp rfl rfl (fun w hC hm hL => by (first | exact left16c _ _ w | exact left12c _ _ w | exact left8c _ _ w | exact left7c _ _ w)) ?_; intro m' hm'; refine xk ?_; refine xn rfl qia ?_; refine x_b rfl ?_; (first | refine es1 ?_ | refine es2 ?_ | refine es3 ?_); refine x_k (List.nil_sublist _) ?_; refine x_nil ?_) | (refine x_region (id := 5) (some 9) [(0, .n), (1, .n), (2, .n), (3, .q), (4, .n), (5, .n), (6, .q), (7, .n), (8, .n), (9, .b)] _ mixed (by kernel_rfl) (List.Sublist.refl _) ?_; refine xn rfl qm ?_; refine xn rfl qm ?_; refine xn rfl qia ?_; refine xq rfl ql ?_; refine xn rfl qm ?_; refine xn rfl qia ?_; refine xq rfl ql ?_; refine xn rfl qadd32 ?_; refine xn rfl qia ?_; refine x_b rfl ?_; (first | refine es1 ?_ | refine es2 ?_ | refine es3 ?_); refine x_k (List.nil_sublist _) ?_; refine x_nil ?_) | (refine x_region (id := 6) (some 10) [(0, .n), (1, .n), (2, .n), (3, .q), (4, .n), (5, .n), (6, .q), (7, .n), (8, .e), (9, .n), (10, .b)] _ mixed (by kernel_rfl) (List.Sublist.refl _) ?_; refine xn rfl qm ?_; refine xn rfl qm ?_; refine xn rfl qia ?_; refine xq rfl ql ?_; refine xn rfl qm ?_; refine xn rfl qia ?_; refine xq rfl ql ?_; refine xn rfl qxor ?_; refine x_e rfl ?_; refine ecp rfl rfl (fun w hC hm hL => by (first | exact left16c _ _ w | exact left12c _ _ w | exact left8c _ _ w | exact left7c _ _ w)) ?_; intro m' hm'; refine xk ?_; refine xn rfl qia ?_; refine x_b rfl ?_; (first | refine es1 ?_ | refine es2 ?_ | refine es3 ?_); refine x_k (List.nil_sublist _) ?_; refine x_nil ?_) | (refine x_region (id := 7) (some 9) [(0, .n), (1, .n), (2, .n), (3, .q), (4, .n), (5, .n), (6, .q), (7, .n), (8, .n), (9, .b)] _ mixed (by kernel_rfl) (List.Sublist.refl _) ?_; refine xn rfl qm ?_; refine xn rfl qm ?_; refine xn rfl qia ?_; refine xq rfl ql ?_; refine xn rfl qm ?_; refine xn rfl qia ?_; refine xq rfl ql ?_; refine xn rfl qadd32 ?_; refine xn rfl qia ?_; refine x_b rfl ?_; (first | refine es1 ?_ | refine es2 ?_ | refine es3 ?_); refine x_k (List.nil_sublist _) ?_; refine x_nil ?_) | (refine x_region (id := 8) (some 10) [(0, .n), (1, .n), (2, .n), (3, .q), (4, .n), (5, .n), (6, .q), (7, .n), (8, .e), (9, .n), (10, .b)] _ mixed (by kernel_rfl) (List.Sublist.refl _) ?_; refine xn rfl qm ?_; refine xn rfl qm ?_; refine xn rfl qia ?_; refine xq rfl ql ?_; refine xn rfl qm ?_; refine xn rfl qia ?_; refine xq rfl ql ?_; refine xn rfl qxor ?_; refine x_e rfl ?_; refine ecp rfl rfl (fun w hC hm hL => by (first | exact left16c _ _ w | exact left12c _ _ w | exact left8c _ _ w | exact left7c _ _ w)) ?_; intro m' hm'; refine xk ?_; refine xn rfl qia ?_; refine x_b rfl ?_; (first | refine es1 ?_ | refine es2 ?_ | refine es3 ?_); refine x_k (List.nil_sublist _) ?_; refine x_nil ?_) | (refine c_region (id := 9) ?_; refine sq (by first | exact qlb | exact qlr) ?_; refine se ?_; refine esa ?_; refine l_nil ?_) | refine n_then ?_ | refine c_block ?_ | refine c_skip ?_ | refine n_block ?_ | refine c_exit ?_ | refine n_then_exit ?_ | refine n_block_eq ?_ | refine n_block_ne rfl ?_ | refine c_ret ?_ | refine n_then_ret ?_ | refine n_block_ret ?_ | refine c_cond_t rfl ?_ | refine c_cond_f rfl ?_ | refine r_succ ?_ )
  (first | apply r_ret () | apply r_end ()); exact rfl; exact rfl; exact (.row rfl (by (repeat (first | exact List.Mem.head _ | apply List.Mem.tail))) (by rfl) .nil); exact rfl; exact (List.nil_sublist _); exact new_nil; exact trivial
set_option maxRecDepth 100000 in
set_option maxHeartbeats 1000000 in
theorem pq_2_6_10_14 (g : Nat) (x0 x1 x2 x3 x4 x5 x6 x7 x8 x9 x10 x11 x12 x13 x14 x15 A B C D : Int) (h : q4 x2 x6 x10 x14 = (A, B, C, D)) (w : World) (hL : Has [.blk g (.cells #[.int .u32 x0, .int .u32 x1, .int .u32 x2, .int .u32 x3, .int .u32 x4, .int .u32 x5, .int .u32 x6, .int .u32 x7, .int .u32 x8, .int .u32 x9, .int .u32 x10, .int .u32 x11, .int .u32 x12, .int .u32 x13, .int .u32 x14, .int .u32 x15] 68 (0, 0))] w) :
    CA Tryd.prog 30 [.pointer (some ⟨g, 2, none⟩), .pointer (some ⟨g, 6, none⟩), .pointer (some ⟨g, 10, none⟩), .pointer (some ⟨g, 14, none⟩)] w (Ret (fun (_ : Unit) => .tuple #[]) [g] (fun _ => [.blk g (.cells #[.int .u32 x0, .int .u32 x1, .int .u32 A, .int .u32 x3, .int .u32 x4, .int .u32 x5, .int .u32 B, .int .u32 x7, .int .u32 x8, .int .u32 x9, .int .u32 C, .int .u32 x11, .int .u32 x12, .int .u32 x13, .int .u32 D, .int .u32 x15] 68 (0, 0))]) (fun _ => True) w) := by
  have e1 : (q4 x2 x6 x10 x14).1 = A := by rw [h]
  have e2 : (q4 x2 x6 x10 x14).2.1 = B := by rw [h]
  have e3 : (q4 x2 x6 x10 x14).2.2.1 = C := by rw [h]
  have e4 : (q4 x2 x6 x10 x14).2.2.2 = D := by rw [h]
  rw [← e1, ← e2, ← e3, ← e4]
  clear e1 e2 e3 e4 h
  refine enter (L := _) (X := [g]) Tryd.func30 rfl Tryd.ntmps30 rfl rfl hL ?_
  repeat (first | refine c_seq ?_ | (refine x_region (id := 0) (some 8) [(0, .n), (1, .n), (2, .q), (3, .n), (4, .n), (5, .q), (6, .n), (7, .n), (8, .b)] _ mixed (by kernel_rfl) (List.Sublist.refl _) ?_; refine xn rfl qm ?_; refine xn rfl qn ?_; refine xq rfl ql ?_; refine xn rfl qm ?_; refine xn rfl qn ?_; refine xq rfl ql ?_; refine xn rfl qadd32 ?_; refine xn rfl qn ?_; refine x_b rfl ?_; (first | refine es1 ?_ | refine es2 ?_ | refine es3 ?_); refine x_k (List.nil_sublist _) ?_; refine x_nil ?_) | (refine x_region (id := 1) (some 10) [(0, .n), (1, .n), (2, .n), (3, .q), (4, .n), (5, .n), (6, .q), (7, .n), (8, .e), (9, .n), (10, .b)] _ mixed (by kernel_rfl) (List.Sublist.refl _) ?_; refine xn rfl qm ?_; refine xn rfl qm ?_; refine xn rfl qn ?_; refine xq rfl ql ?_; refine xn rfl qm ?_; refine xn rfl qn ?_; refine xq rfl ql ?_; refine xn rfl qxor ?_; refine x_e rfl ?_; refine ecp rfl rfl (fun w hC hm hL => by (first | exact rot16c _ _ w | exact rot12c _ _ w | exact rot8c _ _ w | exact rot7c _ _ w)) ?_; intro m' hm'; refine xk ?_; refine xn rfl qn ?_; refine x_b rfl ?_; (first | refine es1 ?_ | refine es2 ?_ | refine es3 ?_); refine x_k (List.nil_sublist _) ?_; refine x_nil ?_) | (refine x_region (id := 2) (some 8) [(0, .n), (1, .n), (2, .q), (3, .n), (4, .n), (5, .q), (6, .n), (7, .n), (8, .b)] _ mixed (by kernel_rfl) (List.Sublist.refl _) ?_; refine xn rfl qm ?_; refine xn rfl qn ?_; refine xq rfl ql ?_; refine xn rfl qm ?_; refine xn rfl qn ?_; refine xq rfl ql ?_; refine xn rfl qadd32 ?_; refine xn rfl qn ?_; refine x_b rfl ?_; (first | refine es1 ?_ | refine es2 ?_ | refine es3 ?_); refine x_k (List.nil_sublist _) ?_; refine x_nil ?_) | (refine x_region (id := 3) (some 10) [(0, .n), (1, .n), (2, .n), (3, .q), (4, .n), (5, .n), (6, .q), (7, .n), (8, .e), (9, .n), (10, .b)] _ mixed (by kernel_rfl) (List.Sublist.refl _) ?_; refine xn rfl qm ?_; refine xn rfl qm ?_; refine xn rfl qn ?_; refine xq rfl ql ?_; refine xn rfl qm ?_; refine xn rfl qn ?_; refine xq rfl ql ?_; refine xn rfl qxor ?_; refine x_e rfl ?_; refine ecp rfl rfl (fun w hC hm hL => by (first | exact rot16c _ _ w | exact rot12c _ _ w | exact rot8c _ _ w | exact rot7c _ _ w)) ?_; intro m' hm'; refine xk ?_; refine xn rfl qn ?_; refine x_b rfl ?_; (first | refine es1 ?_ | refine es2 ?_ | refine es3 ?_); refine x_k (List.nil_sublist _) ?_; refine x_nil ?_) | (refine x_region (id := 4) (some 8) [(0, .n), (1, .n), (2, .q), (3, .n), (4, .n), (5, .q), (6, .n), (7, .n), (8, .b)] _ mixed (by kernel_rfl) (List.Sublist.refl _) ?_; refine xn rfl qm ?_; refine xn rfl qn ?_; refine xq rfl ql ?_; refine xn rfl qm ?_; refine xn rfl qn ?_; refine xq rfl ql ?_; refine xn rfl qadd32 ?_; refine xn rfl qn ?_; refine x_b rfl ?_; (first | refine es1 ?_ | refine es2 ?_ | refine es3 ?_); refine x_k (List.nil_sublist _) ?_; refine x_nil ?_) | (refine x_region (id := 5) (some 10) [(0, .n), (1, .n), (2, .n), (3, .q), (4, .n), (5, .n), (6, .q), (7, .n), (8, .e), (9, .n), (10, .b)] _ mixed (by kernel_rfl) (List.Sublist.refl _) ?_; refine xn rfl qm ?_; refine xn rfl qm ?_; refine xn rfl qn ?_; refine xq rfl ql ?_; refine xn rfl qm ?_; refine xn rfl qn ?_; refine xq rfl ql ?_; refine xn rfl qxor ?_; refine x_e rfl ?_; refine ecp rfl rfl (fun w hC hm hL => by (first | exact rot16c _ _ w | exact rot12c _ _ w | exact rot8c _ _ w | exact rot7c _ _ w)) ?_; intro m' hm'; refine xk ?_; refine xn rfl qn ?_; refine x_b rfl ?_; (first | refine es1 ?_ | refine es2 ?_ | refine es3 ?_); refine x_k (List.nil_sublist _) ?_; refine x_nil ?_) | (refine x_region (id := 6) (some 8) [(0, .n), (1, .n), (2, .q), (3, .n), (4, .n), (5, .q), (6, .n), (7, .n), (8, .b)] _ mixed (by kernel_rfl) (List.Sublist.refl _) ?_; refine xn rfl qm ?_; refine xn rfl qn ?_; refine xq rfl ql ?_; refine xn rfl qm ?_; refine xn rfl qn ?_; refine xq rfl ql ?_; refine xn rfl qadd32 ?_; refine xn rfl qn ?_; refine x_b rfl ?_; (first | refine es1 ?_ | refine es2 ?_ | refine es3 ?_); refine x_k (List.nil_sublist _) ?_; refine x_nil ?_) | (refine x_region (id := 7) (some 10) [(0, .n), (1, .n), (2, .n), (3, .q), (4, .n), (5, .n), (6, .q), (7, .n), (8, .e), (9, .n), (10, .b)] _ mixed (by kernel_rfl) (List.Sublist.refl _) ?_; refine xn rfl qm ?_; refine xn rfl qm ?_; refine xn rfl qn ?_; refine xq rfl ql ?_; refine xn rfl qm ?_; refine xn rfl qn ?_; refine xq rfl ql ?_; refine xn rfl qxor ?_; refine x_e rfl ?_; refine ecp rfl rfl (fun w hC hm hL => by (first | exact rot16c _ _ w | exact rot12c _ _ w | exact rot8c _ _ w | exact rot7c _ _ w)) ?_; intro m' hm'; refine xk ?_; refine xn rfl qn ?_; refine x_b rfl ?_; (first | refine es1 ?_ | refine es2 ?_ | refine es3 ?_); refine x_k (List.nil_sublist _) ?_; refine x_nil ?_) | refine n_then ?_ | refine c_block ?_ | refine c_skip ?_ | refine n_block ?_ | refine c_exit ?_ | refine n_then_exit ?_ | refine n_block_eq ?_ | refine n_block_ne rfl ?_ | refine c_ret ?_ | refine n_then_ret ?_ | refine n_block_ret ?_ | refine c_cond_t rfl ?_ | refine c_cond_f rfl ?_ | refine r_succ ?_ )
  (first | apply r_ret () | apply r_end ()); exact rfl; exact rfl; exact .nil; exact rfl; exact (List.Sublist.refl _); exact (new_blk (.inl (by simp)) new_nil); exact trivial
set_option maxRecDepth 100000 in
set_option maxHeartbeats 1000000 in
theorem rq_2_6_10_14 (x0 x1 x2 x3 x4 x5 x6 x7 x8 x9 x10 x11 x12 x13 x14 x15 A B C D : Int) (h : q4 x2 x6 x10 x14 = (A, B, C, D)) (w : World) :
    CA Tryd.prog 42 [.agg #[.int .u32 x0, .int .u32 x1, .int .u32 x2, .int .u32 x3, .int .u32 x4, .int .u32 x5, .int .u32 x6, .int .u32 x7, .int .u32 x8, .int .u32 x9, .int .u32 x10, .int .u32 x11, .int .u32 x12, .int .u32 x13, .int .u32 x14, .int .u32 x15], .int .i64 2, .int .i64 6, .int .i64 10, .int .i64 14] w (RV (.agg #[.int .u32 x0, .int .u32 x1, .int .u32 A, .int .u32 x3, .int .u32 x4, .int .u32 x5, .int .u32 B, .int .u32 x7, .int .u32 x8, .int .u32 x9, .int .u32 C, .int .u32 x11, .int .u32 x12, .int .u32 x13, .int .u32 D, .int .u32 x15]) w) := by
  have e1 : (q4 x2 x6 x10 x14).1 = A := by rw [h]
  have e2 : (q4 x2 x6 x10 x14).2.1 = B := by rw [h]
  have e3 : (q4 x2 x6 x10 x14).2.2.1 = C := by rw [h]
  have e4 : (q4 x2 x6 x10 x14).2.2.2 = D := by rw [h]
  rw [← e1, ← e2, ← e3, ← e4]
  clear e1 e2 e3 e4 h
  refine enter (L := []) (X := []) Tryd.func42 rfl Tryd.ntmps42 rfl rfl (Has.nil _) ?_
  repeat (first | refine c_seq ?_ | (refine c_region (id := 0) ?_; refine se ?_; refine eb ?_; refine se ?_; refine ea ?_; refine l_nil ?_) | (refine x_region (id := 1) (some 9) [(0, .n), (1, .n), (2, .n), (3, .q), (4, .n), (5, .n), (6, .q), (7, .n), (8, .n), (9, .b)] _ mixed (by kernel_rfl) (List.Sublist.refl _) ?_; refine xn rfl qm ?_; refine xn rfl qm ?_; refine xn rfl qia ?_; refine xq rfl ql ?_; refine xn rfl qm ?_; refine xn rfl qia ?_; refine xq rfl ql ?_; refine xn rfl qadd32 ?_; refine xn rfl qia ?_; refine x_b rfl ?_; (first | refine es1 ?_ | refine es2 ?_ | refine es3 ?_); refine x_k (List.nil_sublist _) ?_; refine x_nil ?_) | (refine x_region (id := 2) (some 10) [(0, .n), (1, .n), (2, .n), (3, .q), (4, .n), (5, .n), (6, .q), (7, .n), (8, .e), (9, .n), (10, .b)] _ mixed (by kernel_rfl) (List.Sublist.refl _) ?_; refine xn rfl qm ?_; refine xn rfl qm ?_; refine xn rfl qia ?_; refine xq rfl ql ?_; refine xn rfl qm ?_; refine xn rfl qia ?_; refine xq rfl ql ?_; refine xn rfl qxor ?_; refine x_e rfl ?_; refine ecp rfl rfl (fun w hC hm hL => by (first | exact left16c _ _ w | exact left12c _ _ w | exact left8c _ _ w | exact left7c _ _ w)) ?_; intro m' hm'; refine xk ?_; refine xn rfl qia ?_; refine x_b rfl ?_; (first | refine es1 ?_ | refine es2 ?_ | refine es3 ?_); refine x_k (List.nil_sublist _) ?_; refine x_nil ?_) | (refine x_region (id := 3) (some 9) [(0, .n), (1, .n), (2, .n), (3, .q), (4, .n), (5, .n), (6, .q), (7, .n), (8, .n), (9, .b)] _ mixed (by kernel_rfl) (List.Sublist.refl _) ?_; refine xn rfl qm ?_; refine xn rfl qm ?_; refine xn rfl qia ?_; refine xq rfl ql ?_; refine xn rfl qm ?_; refine xn rfl qia ?_; refine xq rfl ql ?_; refine xn rfl qadd32 ?_; refine xn rfl qia ?_; refine x_b rfl ?_; (first | refine es1 ?_ | refine es2 ?_ | refine es3 ?_); refine x_k (List.nil_sublist _) ?_; refine x_nil ?_) | (refine x_region (id := 4) (some 10) [(0, .n), (1, .n), (2, .n), (3, .q), (4, .n), (5, .n), (6, .q), (7, .n), (8, .e), (9, .n), (10, .b)] _ mixed (by kernel_rfl) (List.Sublist.refl _) ?_; refine xn rfl qm ?_; refine xn rfl qm ?_; refine xn rfl qia ?_; refine xq rfl ql ?_; refine xn rfl qm ?_; refine xn rfl qia ?_; refine xq rfl ql ?_; refine xn rfl qxor ?_; refine x_e rfl ?_; refine ecp rfl rfl (fun w hC hm hL => by (first | exact left16c _ _ w | exact left12c _ _ w | exact left8c _ _ w | exact left7c _ _ w)) ?_; intro m' hm'; refine xk ?_; refine xn rfl qia ?_; refine x_b rfl ?_; (first | refine es1 ?_ | refine es2 ?_ | refine es3 ?_); refine x_k (List.nil_sublist _) ?_; refine x_nil ?_) | (refine x_region (id := 5) (some 9) [(0, .n), (1, .n), (2, .n), (3, .q), (4, .n), (5, .n), (6, .q), (7, .n), (8, .n), (9, .b)] _ mixed (by kernel_rfl) (List.Sublist.refl _) ?_; refine xn rfl qm ?_; refine xn rfl qm ?_; refine xn rfl qia ?_; refine xq rfl ql ?_; refine xn rfl qm ?_; refine xn rfl qia ?_; refine xq rfl ql ?_; refine xn rfl qadd32 ?_; refine xn rfl qia ?_; refine x_b rfl ?_; (first | refine es1 ?_ | refine es2 ?_ | refine es3 ?_); refine x_k (List.nil_sublist _) ?_; refine x_nil ?_) | (refine x_region (id := 6) (some 10) [(0, .n), (1, .n), (2, .n), (3, .q), (4, .n), (5, .n), (6, .q), (7, .n), (8, .e), (9, .n), (10, .b)] _ mixed (by kernel_rfl) (List.Sublist.refl _) ?_; refine xn rfl qm ?_; refine xn rfl qm ?_; refine xn rfl qia ?_; refine xq rfl ql ?_; refine xn rfl qm ?_; refine xn rfl qia ?_; refine xq rfl ql ?_; refine xn rfl qxor ?_; refine x_e rfl ?_; refine ecp rfl rfl (fun w hC hm hL => by (first | exact left16c _ _ w | exact left12c _ _ w | exact left8c _ _ w | exact left7c _ _ w)) ?_; intro m' hm'; refine xk ?_; refine xn rfl qia ?_; refine x_b rfl ?_; (first | refine es1 ?_ | refine es2 ?_ | refine es3 ?_); refine x_k (List.nil_sublist _) ?_; refine x_nil ?_) | (refine x_region (id := 7) (some 9) [(0, .n), (1, .n), (2, .n), (3, .q), (4, .n), (5, .n), (6, .q), (7, .n), (8, .n), (9, .b)] _ mixed (by kernel_rfl) (List.Sublist.refl _) ?_; refine xn rfl qm ?_; refine xn rfl qm ?_; refine xn rfl qia ?_; refine xq rfl ql ?_; refine xn rfl qm ?_; refine xn rfl qia ?_; refine xq rfl ql ?_; refine xn rfl qadd32 ?_; refine xn rfl qia ?_; refine x_b rfl ?_; (first | refine es1 ?_ | refine es2 ?_ | refine es3 ?_); refine x_k (List.nil_sublist _) ?_; refine x_nil ?_) | (refine x_region (id := 8) (some 10) [(0, .n), (1, .n), (2, .n), (3, .q), (4, .n), (5, .n), (6, .q), (7, .n), (8, .e), (9, .n), (10, .b)] _ mixed (by kernel_rfl) (List.Sublist.refl _) ?_; refine xn rfl qm ?_; refine xn rfl qm ?_; refine xn rfl qia ?_; refine xq rfl ql ?_; refine xn rfl qm ?_; refine xn rfl qia ?_; refine xq rfl ql ?_; refine xn rfl qxor ?_; refine x_e rfl ?_; refine ecp rfl rfl (fun w hC hm hL => by (first | exact left16c _ _ w | exact left12c _ _ w | exact left8c _ _ w | exact left7c _ _ w)) ?_; intro m' hm'; refine xk ?_; refine xn rfl qia ?_; refine x_b rfl ?_; (first | refine es1 ?_ | refine es2 ?_ | refine es3 ?_); refine x_k (List.nil_sublist _) ?_; refine x_nil ?_) | (refine c_region (id := 9) ?_; refine sq (by first | exact qlb | exact qlr) ?_; refine se ?_; refine esa ?_; refine l_nil ?_) | refine n_then ?_ | refine c_block ?_ | refine c_skip ?_ | refine n_block ?_ | refine c_exit ?_ | refine n_then_exit ?_ | refine n_block_eq ?_ | refine n_block_ne rfl ?_ | refine c_ret ?_ | refine n_then_ret ?_ | refine n_block_ret ?_ | refine c_cond_t rfl ?_ | refine c_cond_f rfl ?_ | refine r_succ ?_ )
  (first | apply r_ret () | apply r_end ()); exact rfl; exact rfl; exact (.row rfl (by (repeat (first | exact List.Mem.head _ | apply List.Mem.tail))) (by rfl) .nil); exact rfl; exact (List.nil_sublist _); exact new_nil; exact trivial
set_option maxRecDepth 100000 in
set_option maxHeartbeats 1000000 in
theorem pq_3_7_11_15 (g : Nat) (x0 x1 x2 x3 x4 x5 x6 x7 x8 x9 x10 x11 x12 x13 x14 x15 A B C D : Int) (h : q4 x3 x7 x11 x15 = (A, B, C, D)) (w : World) (hL : Has [.blk g (.cells #[.int .u32 x0, .int .u32 x1, .int .u32 x2, .int .u32 x3, .int .u32 x4, .int .u32 x5, .int .u32 x6, .int .u32 x7, .int .u32 x8, .int .u32 x9, .int .u32 x10, .int .u32 x11, .int .u32 x12, .int .u32 x13, .int .u32 x14, .int .u32 x15] 68 (0, 0))] w) :
    CA Tryd.prog 30 [.pointer (some ⟨g, 3, none⟩), .pointer (some ⟨g, 7, none⟩), .pointer (some ⟨g, 11, none⟩), .pointer (some ⟨g, 15, none⟩)] w (Ret (fun (_ : Unit) => .tuple #[]) [g] (fun _ => [.blk g (.cells #[.int .u32 x0, .int .u32 x1, .int .u32 x2, .int .u32 A, .int .u32 x4, .int .u32 x5, .int .u32 x6, .int .u32 B, .int .u32 x8, .int .u32 x9, .int .u32 x10, .int .u32 C, .int .u32 x12, .int .u32 x13, .int .u32 x14, .int .u32 D] 68 (0, 0))]) (fun _ => True) w) := by
  have e1 : (q4 x3 x7 x11 x15).1 = A := by rw [h]
  have e2 : (q4 x3 x7 x11 x15).2.1 = B := by rw [h]
  have e3 : (q4 x3 x7 x11 x15).2.2.1 = C := by rw [h]
  have e4 : (q4 x3 x7 x11 x15).2.2.2 = D := by rw [h]
  rw [← e1, ← e2, ← e3, ← e4]
  clear e1 e2 e3 e4 h
  refine enter (L := _) (X := [g]) Tryd.func30 rfl Tryd.ntmps30 rfl rfl hL ?_
  repeat (first | refine c_seq ?_ | (refine x_region (id := 0) (some 8) [(0, .n), (1, .n), (2, .q), (3, .n), (4, .n), (5, .q), (6, .n), (7, .n), (8, .b)] _ mixed (by kernel_rfl) (List.Sublist.refl _) ?_; refine xn rfl qm ?_; refine xn rfl qn ?_; refine xq rfl ql ?_; refine xn rfl qm ?_; refine xn rfl qn ?_; refine xq rfl ql ?_; refine xn rfl qadd32 ?_; refine xn rfl qn ?_; refine x_b rfl ?_; (first | refine es1 ?_ | refine es2 ?_ | refine es3 ?_); refine x_k (List.nil_sublist _) ?_; refine x_nil ?_) | (refine x_region (id := 1) (some 10) [(0, .n), (1, .n), (2, .n), (3, .q), (4, .n), (5, .n), (6, .q), (7, .n), (8, .e), (9, .n), (10, .b)] _ mixed (by kernel_rfl) (List.Sublist.refl _) ?_; refine xn rfl qm ?_; refine xn rfl qm ?_; refine xn rfl qn ?_; refine xq rfl ql ?_; refine xn rfl qm ?_; refine xn rfl qn ?_; refine xq rfl ql ?_; refine xn rfl qxor ?_; refine x_e rfl ?_; refine ecp rfl rfl (fun w hC hm hL => by (first | exact rot16c _ _ w | exact rot12c _ _ w | exact rot8c _ _ w | exact rot7c _ _ w)) ?_; intro m' hm'; refine xk ?_; refine xn rfl qn ?_; refine x_b rfl ?_; (first | refine es1 ?_ | refine es2 ?_ | refine es3 ?_); refine x_k (List.nil_sublist _) ?_; refine x_nil ?_) | (refine x_region (id := 2) (some 8) [(0, .n), (1, .n), (2, .q), (3, .n), (4, .n), (5, .q), (6, .n), (7, .n), (8, .b)] _ mixed (by kernel_rfl) (List.Sublist.refl _) ?_; refine xn rfl qm ?_; refine xn rfl qn ?_; refine xq rfl ql ?_; refine xn rfl qm ?_; refine xn rfl qn ?_; refine xq rfl ql ?_; refine xn rfl qadd32 ?_; refine xn rfl qn ?_; refine x_b rfl ?_; (first | refine es1 ?_ | refine es2 ?_ | refine es3 ?_); refine x_k (List.nil_sublist _) ?_; refine x_nil ?_) | (refine x_region (id := 3) (some 10) [(0, .n), (1, .n), (2, .n), (3, .q), (4, .n), (5, .n), (6, .q), (7, .n), (8, .e), (9, .n), (10, .b)] _ mixed (by kernel_rfl) (List.Sublist.refl _) ?_; refine xn rfl qm ?_; refine xn rfl qm ?_; refine xn rfl qn ?_; refine xq rfl ql ?_; refine xn rfl qm ?_; refine xn rfl qn ?_; refine xq rfl ql ?_; refine xn rfl qxor ?_; refine x_e rfl ?_; refine ecp rfl rfl (fun w hC hm hL => by (first | exact rot16c _ _ w | exact rot12c _ _ w | exact rot8c _ _ w | exact rot7c _ _ w)) ?_; intro m' hm'; refine xk ?_; refine xn rfl qn ?_; refine x_b rfl ?_; (first | refine es1 ?_ | refine es2 ?_ | refine es3 ?_); refine x_k (List.nil_sublist _) ?_; refine x_nil ?_) | (refine x_region (id := 4) (some 8) [(0, .n), (1, .n), (2, .q), (3, .n), (4, .n), (5, .q), (6, .n), (7, .n), (8, .b)] _ mixed (by kernel_rfl) (List.Sublist.refl _) ?_; refine xn rfl qm ?_; refine xn rfl qn ?_; refine xq rfl ql ?_; refine xn rfl qm ?_; refine xn rfl qn ?_; refine xq rfl ql ?_; refine xn rfl qadd32 ?_; refine xn rfl qn ?_; refine x_b rfl ?_; (first | refine es1 ?_ | refine es2 ?_ | refine es3 ?_); refine x_k (List.nil_sublist _) ?_; refine x_nil ?_) | (refine x_region (id := 5) (some 10) [(0, .n), (1, .n), (2, .n), (3, .q), (4, .n), (5, .n), (6, .q), (7, .n), (8, .e), (9, .n), (10, .b)] _ mixed (by kernel_rfl) (List.Sublist.refl _) ?_; refine xn rfl qm ?_; refine xn rfl qm ?_; refine xn rfl qn ?_; refine xq rfl ql ?_; refine xn rfl qm ?_; refine xn rfl qn ?_; refine xq rfl ql ?_; refine xn rfl qxor ?_; refine x_e rfl ?_; refine ecp rfl rfl (fun w hC hm hL => by (first | exact rot16c _ _ w | exact rot12c _ _ w | exact rot8c _ _ w | exact rot7c _ _ w)) ?_; intro m' hm'; refine xk ?_; refine xn rfl qn ?_; refine x_b rfl ?_; (first | refine es1 ?_ | refine es2 ?_ | refine es3 ?_); refine x_k (List.nil_sublist _) ?_; refine x_nil ?_) | (refine x_region (id := 6) (some 8) [(0, .n), (1, .n), (2, .q), (3, .n), (4, .n), (5, .q), (6, .n), (7, .n), (8, .b)] _ mixed (by kernel_rfl) (List.Sublist.refl _) ?_; refine xn rfl qm ?_; refine xn rfl qn ?_; refine xq rfl ql ?_; refine xn rfl qm ?_; refine xn rfl qn ?_; refine xq rfl ql ?_; refine xn rfl qadd32 ?_; refine xn rfl qn ?_; refine x_b rfl ?_; (first | refine es1 ?_ | refine es2 ?_ | refine es3 ?_); refine x_k (List.nil_sublist _) ?_; refine x_nil ?_) | (refine x_region (id := 7) (some 10) [(0, .n), (1, .n), (2, .n), (3, .q), (4, .n), (5, .n), (6, .q), (7, .n), (8, .e), (9, .n), (10, .b)] _ mixed (by kernel_rfl) (List.Sublist.refl _) ?_; refine xn rfl qm ?_; refine xn rfl qm ?_; refine xn rfl qn ?_; refine xq rfl ql ?_; refine xn rfl qm ?_; refine xn rfl qn ?_; refine xq rfl ql ?_; refine xn rfl qxor ?_; refine x_e rfl ?_; refine ecp rfl rfl (fun w hC hm hL => by (first | exact rot16c _ _ w | exact rot12c _ _ w | exact rot8c _ _ w | exact rot7c _ _ w)) ?_; intro m' hm'; refine xk ?_; refine xn rfl qn ?_; refine x_b rfl ?_; (first | refine es1 ?_ | refine es2 ?_ | refine es3 ?_); refine x_k (List.nil_sublist _) ?_; refine x_nil ?_) | refine n_then ?_ | refine c_block ?_ | refine c_skip ?_ | refine n_block ?_ | refine c_exit ?_ | refine n_then_exit ?_ | refine n_block_eq ?_ | refine n_block_ne rfl ?_ | refine c_ret ?_ | refine n_then_ret ?_ | refine n_block_ret ?_ | refine c_cond_t rfl ?_ | refine c_cond_f rfl ?_ | refine r_succ ?_ )
  (first | apply r_ret () | apply r_end ()); exact rfl; exact rfl; exact .nil; exact rfl; exact (List.Sublist.refl _); exact (new_blk (.inl (by simp)) new_nil); exact trivial
set_option maxRecDepth 100000 in
set_option maxHeartbeats 1000000 in
theorem rq_3_7_11_15 (x0 x1 x2 x3 x4 x5 x6 x7 x8 x9 x10 x11 x12 x13 x14 x15 A B C D : Int) (h : q4 x3 x7 x11 x15 = (A, B, C, D)) (w : World) :
    CA Tryd.prog 42 [.agg #[.int .u32 x0, .int .u32 x1, .int .u32 x2, .int .u32 x3, .int .u32 x4, .int .u32 x5, .int .u32 x6, .int .u32 x7, .int .u32 x8, .int .u32 x9, .int .u32 x10, .int .u32 x11, .int .u32 x12, .int .u32 x13, .int .u32 x14, .int .u32 x15], .int .i64 3, .int .i64 7, .int .i64 11, .int .i64 15] w (RV (.agg #[.int .u32 x0, .int .u32 x1, .int .u32 x2, .int .u32 A, .int .u32 x4, .int .u32 x5, .int .u32 x6, .int .u32 B, .int .u32 x8, .int .u32 x9, .int .u32 x10, .int .u32 C, .int .u32 x12, .int .u32 x13, .int .u32 x14, .int .u32 D]) w) := by
  have e1 : (q4 x3 x7 x11 x15).1 = A := by rw [h]
  have e2 : (q4 x3 x7 x11 x15).2.1 = B := by rw [h]
  have e3 : (q4 x3 x7 x11 x15).2.2.1 = C := by rw [h]
  have e4 : (q4 x3 x7 x11 x15).2.2.2 = D := by rw [h]
  rw [← e1, ← e2, ← e3, ← e4]
  clear e1 e2 e3 e4 h
  refine enter (L := []) (X := []) Tryd.func42 rfl Tryd.ntmps42 rfl rfl (Has.nil _) ?_
  repeat (first | refine c_seq ?_ | (refine c_region (id := 0) ?_; refine se ?_; refine eb ?_; refine se ?_; refine ea ?_; refine l_nil ?_) | (refine x_region (id := 1) (some 9) [(0, .n), (1, .n), (2, .n), (3, .q), (4, .n), (5, .n), (6, .q), (7, .n), (8, .n), (9, .b)] _ mixed (by kernel_rfl) (List.Sublist.refl _) ?_; refine xn rfl qm ?_; refine xn rfl qm ?_; refine xn rfl qia ?_; refine xq rfl ql ?_; refine xn rfl qm ?_; refine xn rfl qia ?_; refine xq rfl ql ?_; refine xn rfl qadd32 ?_; refine xn rfl qia ?_; refine x_b rfl ?_; (first | refine es1 ?_ | refine es2 ?_ | refine es3 ?_); refine x_k (List.nil_sublist _) ?_; refine x_nil ?_) | (refine x_region (id := 2) (some 10) [(0, .n), (1, .n), (2, .n), (3, .q), (4, .n), (5, .n), (6, .q), (7, .n), (8, .e), (9, .n), (10, .b)] _ mixed (by kernel_rfl) (List.Sublist.refl _) ?_; refine xn rfl qm ?_; refine xn rfl qm ?_; refine xn rfl qia ?_; refine xq rfl ql ?_; refine xn rfl qm ?_; refine xn rfl qia ?_; refine xq rfl ql ?_; refine xn rfl qxor ?_; refine x_e rfl ?_; refine ecp rfl rfl (fun w hC hm hL => by (first | exact left16c _ _ w | exact left12c _ _ w | exact left8c _ _ w | exact left7c _ _ w)) ?_; intro m' hm'; refine xk ?_; refine xn rfl qia ?_; refine x_b rfl ?_; (first | refine es1 ?_ | refine es2 ?_ | refine es3 ?_); refine x_k (List.nil_sublist _) ?_; refine x_nil ?_) | (refine x_region (id := 3) (some 9) [(0, .n), (1, .n), (2, .n), (3, .q), (4, .n), (5, .n), (6, .q), (7, .n), (8, .n), (9, .b)] _ mixed (by kernel_rfl) (List.Sublist.refl _) ?_; refine xn rfl qm ?_; refine xn rfl qm ?_; refine xn rfl qia ?_; refine xq rfl ql ?_; refine xn rfl qm ?_; refine xn rfl qia ?_; refine xq rfl ql ?_; refine xn rfl qadd32 ?_; refine xn rfl qia ?_; refine x_b rfl ?_; (first | refine es1 ?_ | refine es2 ?_ | refine es3 ?_); refine x_k (List.nil_sublist _) ?_; refine x_nil ?_) | (refine x_region (id := 4) (some 10) [(0, .n), (1, .n), (2, .n), (3, .q), (4, .n), (5, .n), (6, .q), (7, .n), (8, .e), (9, .n), (10, .b)] _ mixed (by kernel_rfl) (List.Sublist.refl _) ?_; refine xn rfl qm ?_; refine xn rfl qm ?_; refine xn rfl qia ?_; refine xq rfl ql ?_; refine xn rfl qm ?_; refine xn rfl qia ?_; refine xq rfl ql ?_; refine xn rfl qxor ?_; refine x_e rfl ?_; refine ecp rfl rfl (fun w hC hm hL => by (first | exact left16c _ _ w | exact left12c _ _ w | exact left8c _ _ w | exact left7c _ _ w)) ?_; intro m' hm'; refine xk ?_; refine xn rfl qia ?_; refine x_b rfl ?_; (first | refine es1 ?_ | refine es2 ?_ | refine es3 ?_); refine x_k (List.nil_sublist _) ?_; refine x_nil ?_) | (refine x_region (id := 5) (some 9) [(0, .n), (1, .n), (2, .n), (3, .q), (4, .n), (5, .n), (6, .q), (7, .n), (8, .n), (9, .b)] _ mixed (by kernel_rfl) (List.Sublist.refl _) ?_; refine xn rfl qm ?_; refine xn rfl qm ?_; refine xn rfl qia ?_; refine xq rfl ql ?_; refine xn rfl qm ?_; refine xn rfl qia ?_; refine xq rfl ql ?_; refine xn rfl qadd32 ?_; refine xn rfl qia ?_; refine x_b rfl ?_; (first | refine es1 ?_ | refine es2 ?_ | refine es3 ?_); refine x_k (List.nil_sublist _) ?_; refine x_nil ?_) | (refine x_region (id := 6) (some 10) [(0, .n), (1, .n), (2, .n), (3, .q), (4, .n), (5, .n), (6, .q), (7, .n), (8, .e), (9, .n), (10, .b)] _ mixed (by kernel_rfl) (List.Sublist.refl _) ?_; refine xn rfl qm ?_; refine xn rfl qm ?_; refine xn rfl qia ?_; refine xq rfl ql ?_; refine xn rfl qm ?_; refine xn rfl qia ?_; refine xq rfl ql ?_; refine xn rfl qxor ?_; refine x_e rfl ?_; refine ecp rfl rfl (fun w hC hm hL => by (first | exact left16c _ _ w | exact left12c _ _ w | exact left8c _ _ w | exact left7c _ _ w)) ?_; intro m' hm'; refine xk ?_; refine xn rfl qia ?_; refine x_b rfl ?_; (first | refine es1 ?_ | refine es2 ?_ | refine es3 ?_); refine x_k (List.nil_sublist _) ?_; refine x_nil ?_) | (refine x_region (id := 7) (some 9) [(0, .n), (1, .n), (2, .n), (3, .q), (4, .n), (5, .n), (6, .q), (7, .n), (8, .n), (9, .b)] _ mixed (by kernel_rfl) (List.Sublist.refl _) ?_; refine xn rfl qm ?_; refine xn rfl qm ?_; refine xn rfl qia ?_; refine xq rfl ql ?_; refine xn rfl qm ?_; refine xn rfl qia ?_; refine xq rfl ql ?_; refine xn rfl qadd32 ?_; refine xn rfl qia ?_; refine x_b rfl ?_; (first | refine es1 ?_ | refine es2 ?_ | refine es3 ?_); refine x_k (List.nil_sublist _) ?_; refine x_nil ?_) | (refine x_region (id := 8) (some 10) [(0, .n), (1, .n), (2, .n), (3, .q), (4, .n), (5, .n), (6, .q), (7, .n), (8, .e), (9, .n), (10, .b)] _ mixed (by kernel_rfl) (List.Sublist.refl _) ?_; refine xn rfl qm ?_; refine xn rfl qm ?_; refine xn rfl qia ?_; refine xq rfl ql ?_; refine xn rfl qm ?_; refine xn rfl qia ?_; refine xq rfl ql ?_; refine xn rfl qxor ?_; refine x_e rfl ?_; refine ecp rfl rfl (fun w hC hm hL => by (first | exact left16c _ _ w | exact left12c _ _ w | exact left8c _ _ w | exact left7c _ _ w)) ?_; intro m' hm'; refine xk ?_; refine xn rfl qia ?_; refine x_b rfl ?_; (first | refine es1 ?_ | refine es2 ?_ | refine es3 ?_); refine x_k (List.nil_sublist _) ?_; refine x_nil ?_) | (refine c_region (id := 9) ?_; refine sq (by first | exact qlb | exact qlr) ?_; refine se ?_; refine esa ?_; refine l_nil ?_) | refine n_then ?_ | refine c_block ?_ | refine c_skip ?_ | refine n_block ?_ | refine c_exit ?_ | refine n_then_exit ?_ | refine n_block_eq ?_ | refine n_block_ne rfl ?_ | refine c_ret ?_ | refine n_then_ret ?_ | refine n_block_ret ?_ | refine c_cond_t rfl ?_ | refine c_cond_f rfl ?_ | refine r_succ ?_ )
  (first | apply r_ret () | apply r_end ()); exact rfl; exact rfl; exact (.row rfl (by (repeat (first | exact List.Mem.head _ | apply List.Mem.tail))) (by rfl) .nil); exact rfl; exact (List.nil_sublist _); exact new_nil; exact trivial
end Go.Proofs.YteopejjlhmghbaaDoor
namespace Go.Proofs.YteopejjlhmghbaaDoor
open Go Go.RowKit
def keyA (kb : Nat → Int) : Array Value := #[.int .u8 (kb 0), .int .u8 (kb 1), .int .u8 (kb 2), .int .u8 (kb 3), .int .u8 (kb 4), .int .u8 (kb 5), .int .u8 (kb 6), .int .u8 (kb 7), .int .u8 (kb 8), .int .u8 (kb 9), .int .u8 (kb 10), .int .u8 (kb 11), .int .u8 (kb 12), .int .u8 (kb 13), .int .u8 (kb 14), .int .u8 (kb 15), .int .u8 (kb 16), .int .u8 (kb 17), .int .u8 (kb 18), .int .u8 (kb 19), .int .u8 (kb 20), .int .u8 (kb 21), .int .u8 (kb 22), .int .u8 (kb 23), .int .u8 (kb 24), .int .u8 (kb 25), .int .u8 (kb 26), .int .u8 (kb 27), .int .u8 (kb 28), .int .u8 (kb 29), .int .u8 (kb 30), .int .u8 (kb 31)]
end Go.Proofs.YteopejjlhmghbaaDoor
namespace Go.Proofs.YteopejjlhmghbaaDoor
open Go Go.RowKit
set_option linter.unusedVariables false
set_option linter.unusedSimpArgs false
def lw (b0 b1 b2 b3 : Int) : Int := b0 + b1 * 256 + b2 * 65536 + b3 * 16777216
theorem or_sum (b0 b1 b2 b3 : Int) (q0 : 0 ≤ b0 ∧ b0 ≤ 255) (q1 : 0 ≤ b1 ∧ b1 ≤ 255) (q2 : 0 ≤ b2 ∧ b2 ≤ 255) (q3 : 0 ≤ b3 ∧ b3 ≤ 255) : bits .or .u32 (bits .or .u32 (bits .or .u32 b0 (b1 * 256)) (b2 * 65536)) (b3 * 16777216) = lw b0 b1 b2 b3 := by
  obtain ⟨n0, rfl⟩ := Int.eq_ofNat_of_zero_le q0.1
  obtain ⟨n1, rfl⟩ := Int.eq_ofNat_of_zero_le q1.1
  obtain ⟨n2, rfl⟩ := Int.eq_ofNat_of_zero_le q2.1
  obtain ⟨n3, rfl⟩ := Int.eq_ofNat_of_zero_le q3.1
  have e2 : ((n2 : Int) * 65536) = ((n2 * 65536 : Nat) : Int) := by omega
  have e1 : ((n1 : Int) * 256) = ((n1 * 256 : Nat) : Int) := by omega
  have e3 : ((n3 : Int) * 16777216) = ((n3 * 16777216 : Nat) : Int) := by omega
  rw [e2, e1, e3, u32_or_nat n0 (n1 * 256) (by omega) (by omega), or_mul n0 n1 8 256 (by decide) (by omega), u32_or_nat _ (n2 * 65536) (by omega) (by omega), or_mul _ n2 16 65536 (by decide) (by omega), u32_or_nat _ (n3 * 16777216) (by omega) (by omega), or_mul _ n3 24 16777216 (by decide) (by omega)]
  unfold lw
  omega
theorem or_form {b0 b1 b2 b3 : Int} (q0 : 0 ≤ b0 ∧ b0 ≤ 255) (q1 : 0 ≤ b1 ∧ b1 ≤ 255) (q2 : 0 ≤ b2 ∧ b2 ≤ 255) (q3 : 0 ≤ b3 ∧ b3 ≤ 255) : bits .or .u32 (bits .or .u32 (bits .or .u32 (b0 % 4294967296) (b1 % 4294967296 * 2 ^ (8 : Int).toNat % 4294967296)) (b2 % 4294967296 * 2 ^ (16 : Int).toNat % 4294967296)) (b3 % 4294967296 * 2 ^ (24 : Int).toNat % 4294967296) = lw b0 b1 b2 b3 := by
  have e1 : b1 % 4294967296 * 2 ^ (8 : Int).toNat % 4294967296 = b1 * 256 := by show b1 % 4294967296 * 256 % 4294967296 = _; omega
  have e2 : b2 % 4294967296 * 2 ^ (16 : Int).toNat % 4294967296 = b2 * 65536 := by show b2 % 4294967296 * 65536 % 4294967296 = _; omega
  have e3 : b3 % 4294967296 * 2 ^ (24 : Int).toNat % 4294967296 = b3 * 16777216 := by show b3 % 4294967296 * 16777216 % 4294967296 = _; omega
  have e0 : b0 % 4294967296 = b0 := by omega
  rw [e0, e1, e2, e3, or_sum b0 b1 b2 b3 q0 q1 q2 q3]
theorem sum_form {b0 b1 b2 b3 : Int} (q0 : 0 ≤ b0 ∧ b0 ≤ 255) (q1 : 0 ≤ b1 ∧ b1 ≤ 255) (q2 : 0 ≤ b2 ∧ b2 ≤ 255) (q3 : 0 ≤ b3 ∧ b3 ≤ 255) : (((b0 % 4294967296 + b1 % 4294967296 * 256 % 4294967296) % 4294967296 + b2 % 4294967296 * 65536 % 4294967296) % 4294967296 + b3 % 4294967296 * 16777216 % 4294967296) % 4294967296 = lw b0 b1 b2 b3 := by
  unfold lw
  omega
set_option maxRecDepth 100000 in
set_option maxHeartbeats 2000000 in
theorem word_c {g o len cap : Nat} (hl : 4 ≤ len) {b0 b1 b2 b3 : Int} (q0 : 0 ≤ b0 ∧ b0 ≤ 255) (q1 : 0 ≤ b1 ∧ b1 ≤ 255) (q2 : 0 ≤ b2 ∧ b2 ≤ 255) (q3 : 0 ≤ b3 ∧ b3 ≤ 255) (w : World) (hO : Old w g o [.int .u8 b0, .int .u8 b1, .int .u8 b2, .int .u8 b3]) :
    CA Tryd.prog 47 [.slice (some ⟨g, o, none⟩) len cap] w (RV (.int .u32 (lw b0 b1 b2 b3)) w) := by
  refine enter (L := []) (X := []) Tryd.func47 rfl Tryd.ntmps47 rfl rfl (Has.nil _) ?_
  repeat (first | refine c_seq ?_ | (refine c_region (id := 0) ?_; refine sq qa ?_; refine l_nil ?_) | (refine x_region (id := 1) none [(0, .n), (1, .n), (2, .q), (3, .n), (4, .n), (5, .n), (6, .q), (7, .n), (8, .n), (9, .n), (10, .n), (11, .n), (12, .q), (13, .n), (14, .n), (15, .n), (16, .n), (17, .n), (18, .q), (19, .n), (20, .n), (21, .n), (22, .n)] _ mixed (by kernel_rfl) (List.Sublist.refl _) ?_; refine xn rfl qm ?_; refine xn rfl qis ?_; refine xq rfl ql ?_; refine xn rfl qc3 ?_; refine xn rfl qm ?_; refine xn rfl qis ?_; refine xq rfl ql ?_; refine xn rfl qc3 ?_; refine xn rfl qshl32 ?_; refine xn rfl qor ?_; refine xn rfl qm ?_; refine xn rfl qis ?_; refine xq rfl ql ?_; refine xn rfl qc3 ?_; refine xn rfl qshl32 ?_; refine xn rfl qor ?_; refine xn rfl qm ?_; refine xn rfl qis ?_; refine xq rfl ql ?_; refine xn rfl qc3 ?_; refine xn rfl qshl32 ?_; refine xn rfl qor ?_; refine xn rfl qa ?_; refine x_nil ?_) | refine n_then ?_ | refine c_block ?_ | refine c_skip ?_ | refine n_block ?_ | refine c_exit ?_ | refine n_then_exit ?_ | refine n_block_eq ?_ | refine n_block_ne rfl ?_ | refine c_ret ?_ | refine n_then_ret ?_ | refine n_block_ret ?_ | refine c_cond_t rfl ?_ | refine c_cond_f rfl ?_ | refine r_succ ?_ )
  (first | apply r_ret () | apply r_end ()); exact rfl; exact rfl; exact (.tmp rfl .nil); exact (congrArg (Value.int .u32) (or_form q0 q1 q2 q3)); exact (List.nil_sublist _); exact new_nil; exact trivial
set_option maxRecDepth 100000 in
set_option maxHeartbeats 2000000 in
theorem rword_c {g o len cap : Nat} (hl : 4 ≤ len) {b0 b1 b2 b3 : Int} (q0 : 0 ≤ b0 ∧ b0 ≤ 255) (q1 : 0 ≤ b1 ∧ b1 ≤ 255) (q2 : 0 ≤ b2 ∧ b2 ≤ 255) (q3 : 0 ≤ b3 ∧ b3 ≤ 255) (w : World) (hO : Old w g o [.int .u8 b0, .int .u8 b1, .int .u8 b2, .int .u8 b3]) :
    CA Tryd.prog 41 [.slice (some ⟨g, o, none⟩) len cap] w (RV (.int .u32 (lw b0 b1 b2 b3)) w) := by
  refine enter (L := []) (X := []) Tryd.func41 rfl Tryd.ntmps41 rfl rfl (Has.nil _) ?_
  repeat (first | refine c_seq ?_ | (refine c_region (id := 0) ?_; refine sq qa ?_; refine l_nil ?_) | (refine x_region (id := 1) none [(0, .n), (1, .n), (2, .q), (3, .n), (4, .n), (5, .n), (6, .q), (7, .n), (8, .n), (9, .n), (10, .n), (11, .n), (12, .q), (13, .n), (14, .n), (15, .n), (16, .n), (17, .n), (18, .q), (19, .n), (20, .n), (21, .n), (22, .n)] _ mixed (by kernel_rfl) (List.Sublist.refl _) ?_; refine xn rfl qm ?_; refine xn rfl qis ?_; refine xq rfl ql ?_; refine xn rfl qc3 ?_; refine xn rfl qm ?_; refine xn rfl qis ?_; refine xq rfl ql ?_; refine xn rfl qc3 ?_; refine xn rfl qmul32 ?_; refine xn rfl qadd32 ?_; refine xn rfl qm ?_; refine xn rfl qis ?_; refine xq rfl ql ?_; refine xn rfl qc3 ?_; refine xn rfl qmul32 ?_; refine xn rfl qadd32 ?_; refine xn rfl qm ?_; refine xn rfl qis ?_; refine xq rfl ql ?_; refine xn rfl qc3 ?_; refine xn rfl qmul32 ?_; refine xn rfl qadd32 ?_; refine xn rfl qa ?_; refine x_nil ?_) | refine n_then ?_ | refine c_block ?_ | refine c_skip ?_ | refine n_block ?_ | refine c_exit ?_ | refine n_then_exit ?_ | refine n_block_eq ?_ | refine n_block_ne rfl ?_ | refine c_ret ?_ | refine n_then_ret ?_ | refine n_block_ret ?_ | refine c_cond_t rfl ?_ | refine c_cond_f rfl ?_ | refine r_succ ?_ )
  (first | apply r_ret () | apply r_end ()); exact rfl; exact rfl; exact (.tmp rfl .nil); exact (congrArg (Value.int .u32) (sum_form q0 q1 q2 q3)); exact (List.nil_sublist _); exact new_nil; exact trivial
def byt (x : Int) (j : Nat) : Int := x / 2 ^ (8 * j) % 256
set_option maxRecDepth 100000 in
set_option maxHeartbeats 2000000 in
theorem putWord_c {g o len cap : Nat} (hl : 4 ≤ len) (x : Int) {cs : Array Value} {t : TypeId} (w : World) (hL : Has [.blk g (.cells cs t (0, 0))] w) (ho : o + 4 ≤ cs.size) :
    CA Tryd.prog 31 [.slice (some ⟨g, o, none⟩) len cap, .int .u32 x] w (RU (.tuple #[]) g (.cells (setA cs o [.int .u8 (byt x 0), .int .u8 (byt x 1), .int .u8 (byt x 2), .int .u8 (byt x 3)]) t (0, 0)) w) := by
  refine enter (L := _) (X := [g]) Tryd.func31 rfl Tryd.ntmps31 rfl rfl hL ?_
  repeat (first | refine c_rounds 5 ?_ | refine c_seq ?_ | (refine c_region (id := 0) ?_; refine sq qm ?_; refine l_nil ?_) | (refine c_region (id := 1) ?_; refine sq qlss ?_; refine l_nil ?_) | (refine c_region (id := 2) ?_; refine sq qm ?_; refine sq qa ?_; refine l_nil ?_) | (refine c_region (id := 3) ?_; refine sq qm ?_; refine sq qm ?_; refine sq qm ?_; refine sq qm ?_; refine sq qmul64 ?_; refine sq qshr ?_; refine sq qc8 ?_; refine sq qis ?_; refine se ?_; (first | refine es1 ?_ | refine es2 ?_ | refine es3 ?_); refine l_nil ?_) | (refine c_region (id := 4) ?_; refine sq qadd64 ?_; refine sq qm ?_; refine l_nil ?_) | refine n_then ?_ | refine c_block ?_ | refine c_skip ?_ | refine n_block ?_ | refine c_exit ?_ | refine n_then_exit ?_ | refine n_block_eq ?_ | refine n_block_ne rfl ?_ | refine c_ret ?_ | refine n_then_ret ?_ | refine n_block_ret ?_ | refine c_cond_t rfl ?_ | refine c_cond_f rfl ?_ | refine r_succ ?_ )
  (first | apply r_ret () | apply r_end ()); exact rfl; exact rfl; exact .nil; exact rfl; exact (List.Sublist.refl _); exact (new_blk (.inl (by simp)) new_nil); exact trivial
def nonA (nb : Nat → Int) : Array Value := #[.int .u8 (nb 0), .int .u8 (nb 1), .int .u8 (nb 2), .int .u8 (nb 3), .int .u8 (nb 4), .int .u8 (nb 5), .int .u8 (nb 6), .int .u8 (nb 7), .int .u8 (nb 8), .int .u8 (nb 9), .int .u8 (nb 10), .int .u8 (nb 11)]
def rowL (s : List Int) : Array Value := (s.map (Value.int .u32)).toArray
def s0 (kb nb : Nat → Int) (c : Int) : List Int := [1634760805, 857760878, 2036477234, 1797285236, lw (kb 0) (kb 1) (kb 2) (kb 3), lw (kb 4) (kb 5) (kb 6) (kb 7), lw (kb 8) (kb 9) (kb 10) (kb 11), lw (kb 12) (kb 13) (kb 14) (kb 15), lw (kb 16) (kb 17) (kb 18) (kb 19), lw (kb 20) (kb 21) (kb 22) (kb 23), lw (kb 24) (kb 25) (kb 26) (kb 27), lw (kb 28) (kb 29) (kb 30) (kb 31), c, lw (nb 0) (nb 1) (nb 2) (nb 3), lw (nb 4) (nb 5) (nb 6) (nb 7), lw (nb 8) (nb 9) (nb 10) (nb 11)]
set_option maxRecDepth 100000 in
set_option maxHeartbeats 2000000 in
theorem state_c (kb nb : Nat → Int) (hk : ∀ i, 0 ≤ kb i ∧ kb i ≤ 255) (hn : ∀ i, 0 ≤ nb i ∧ nb i ≤ 255) (c : Int) (w : World) :
    CA Tryd.prog 29 [.agg (keyA kb), .agg (nonA nb), .int .u32 c] w (RV (.agg (rowL (s0 kb nb c))) w) := by
  refine enter (L := []) (X := []) Tryd.func29 rfl Tryd.ntmps29 rfl rfl (Has.nil _) ?_
  repeat (first | refine c_rounds 9 ?_ | refine c_seq ?_ | (refine c_region (id := 0) ?_; refine se ?_; refine eb ?_; refine se ?_; refine eb ?_; refine se ?_; refine ea ?_; refine l_nil ?_) | (refine c_region (id := 1) ?_; refine sq qba ?_; refine se ?_; refine ea ?_; refine se ?_; refine esa ?_; refine l_nil ?_) | (refine c_region (id := 2) ?_; refine sq qm ?_; refine l_nil ?_) | (refine c_region (id := 3) ?_; refine sq qlss ?_; refine l_nil ?_) | (refine c_region (id := 4) ?_; refine sq qm ?_; refine sq qa ?_; refine l_nil ?_) | (refine c_region (id := 5) ?_; refine sq qm ?_; refine sq qadd64 ?_; refine sq qm ?_; refine sq qmul64 ?_; refine sq qsa ?_; refine se ?_; refine ecp rfl rfl (fun w hC hm hL => by first | exact word_c (by omega) (hk _) (hk _) (hk _) (hk _) w (hL.old (k := 4) (by (repeat (first | exact List.Mem.head _ | apply List.Mem.tail))) (by rfl)) | exact word_c (by omega) (hn _) (hn _) (hn _) (hn _) w (hL.old (k := 4) (by (repeat (first | exact List.Mem.head _ | apply List.Mem.tail))) (by rfl))) ?_; intro m' hm'; refine sq qia ?_; refine se ?_; (first | refine es1 ?_ | refine es2 ?_ | refine es3 ?_); refine l_nil ?_) | (refine c_region (id := 6) ?_; refine sq qadd64 ?_; refine sq qm ?_; refine l_nil ?_) | (refine c_region (id := 7) ?_; refine sq qm ?_; refine sq qia ?_; refine se ?_; (first | refine es1 ?_ | refine es2 ?_ | refine es3 ?_); refine l_nil ?_) | (refine c_region (id := 8) ?_; refine sq qm ?_; refine l_nil ?_) | (refine c_region (id := 9) ?_; refine sq qlss ?_; refine l_nil ?_) | (refine c_region (id := 10) ?_; refine sq qm ?_; refine sq qa ?_; refine l_nil ?_) | (refine c_region (id := 11) ?_; refine sq qm ?_; refine sq qadd64 ?_; refine sq qm ?_; refine sq qmul64 ?_; refine sq qsa ?_; refine se ?_; refine ecp rfl rfl (fun w hC hm hL => by first | exact word_c (by omega) (hk _) (hk _) (hk _) (hk _) w (hL.old (k := 4) (by (repeat (first | exact List.Mem.head _ | apply List.Mem.tail))) (by rfl)) | exact word_c (by omega) (hn _) (hn _) (hn _) (hn _) w (hL.old (k := 4) (by (repeat (first | exact List.Mem.head _ | apply List.Mem.tail))) (by rfl))) ?_; intro m' hm'; refine sq qia ?_; refine se ?_; (first | refine es1 ?_ | refine es2 ?_ | refine es3 ?_); refine l_nil ?_) | (refine c_region (id := 12) ?_; refine sq qadd64 ?_; refine sq qm ?_; refine l_nil ?_) | (refine c_region (id := 13) ?_; refine sq (by first | exact qlb | exact qlr) ?_; refine se ?_; refine esa ?_; refine l_nil ?_) | refine n_then ?_ | refine c_block ?_ | refine c_skip ?_ | refine n_block ?_ | refine c_exit ?_ | refine n_then_exit ?_ | refine n_block_eq ?_ | refine n_block_ne rfl ?_ | refine c_ret ?_ | refine n_then_ret ?_ | refine n_block_ret ?_ | refine c_cond_t rfl ?_ | refine c_cond_f rfl ?_ | refine r_succ ?_ )
  (first | apply r_ret () | apply r_end ()); exact rfl; exact rfl; exact (.row rfl (by (repeat (first | exact List.Mem.head _ | apply List.Mem.tail))) (by rfl) .nil); exact rfl; exact (List.nil_sublist _); exact new_nil; exact trivial
end Go.Proofs.YteopejjlhmghbaaDoor
namespace Go.Proofs.YteopejjlhmghbaaDoor
open Go Go.RowKit
set_option linter.unusedVariables false
set_option linter.unusedSimpArgs false
def nz (n : Nat) : Nat := (16 - n % 16) % 16
theorem nz_lt (n : Nat) : nz n < 16 := Nat.mod_lt _ (by decide)
set_option maxRecDepth 100000 in
set_option maxHeartbeats 4000000 in
theorem noughts_c (n : Nat) (hn : n ≤ 1000000) (w : World) :
    CA Tryd.prog 19 [.int .i64 (n : Int)] w (Ret (fun g : Nat => .slice (some ⟨g, 0, none⟩) (nz n) (nz n)) [] (fun g => [.sl (some ⟨g, 0, none⟩) (nz n) 5 1 ((List.replicate (nz n) (0 : Int)).map (Value.int .u8))]) (fun _ => True) w) := by
  have hnz : nz n = (16 - n % 16) % 16 := rfl
  refine enter (L := []) (X := []) Tryd.func19 rfl Tryd.ntmps19 rfl rfl (Has.nil _) ?_
  repeat (first | refine c_seq ?_ | (refine c_region (id := 0) ?_; refine sq qa ?_; refine l_nil ?_) | (refine c_region (id := 1) ?_; refine sq qm ?_; refine sq (by exact Qt.cast (v' := .int .i64 ((n % 16 : Nat) : Int)) (congrArg (Value.int .i64) (by omega)) (q_rem rfl rfl (by omega) (by omega))) ?_; refine sq qsub64 ?_; refine sq (by exact Qt.cast (v' := .int .i64 ((nz n : Nat) : Int)) (congrArg (Value.int .i64) (by omega)) (q_rem rfl rfl (by omega) (by omega))) ?_; refine se ?_; (first | refine em ?_ | refine emi ?_); refine sq qa ?_; refine l_nil ?_) | refine n_then ?_ | refine c_block ?_ | refine c_skip ?_ | refine n_block ?_ | refine c_exit ?_ | refine n_then_exit ?_ | refine n_block_eq ?_ | refine n_block_ne rfl ?_ | refine c_ret ?_ | refine n_then_ret ?_ | refine n_block_ret ?_ | refine c_cond_t rfl ?_ | refine c_cond_f rfl ?_ | refine r_succ ?_ )
  refine chg (L' := [.sl (some ⟨w.heap.size, 0, none⟩) (nz n) 5 1 ((List.replicate (nz n) (0 : Int)).map (Value.int .u8))]) (by rw [List.map_replicate]) ?_
  (first | apply r_ret w.heap.size | apply r_end w.heap.size); exact rfl; exact rfl; exact (.tmp rfl .nil); exact rfl; exact (by exact (by (repeat (first | exact List.nil_sublist _ | exact List.Sublist.slnil | apply List.Sublist.cons_cons | exact List.Sublist.refl _ | apply List.Sublist.cons)))); exact (by intro g hg; simp [feet, Chunk.foot] at hg; exact .inr (by omega)); exact trivial
def lil (n : Nat) : List Int := (List.range 8).map fun i => ((n / 256 ^ i % 256 : Nat) : Int)
theorem lil_eq (n : Nat) : lil n = [((n : Nat) : Int) / 2 ^ (0 : Int).toNat % 256, ((n : Nat) : Int) / 2 ^ (8 : Int).toNat % 256, ((n : Nat) : Int) / 2 ^ (16 : Int).toNat % 256, ((n : Nat) : Int) / 2 ^ (24 : Int).toNat % 256, ((n : Nat) : Int) / 2 ^ (32 : Int).toNat % 256, ((n : Nat) : Int) / 2 ^ (40 : Int).toNat % 256, ((n : Nat) : Int) / 2 ^ (48 : Int).toNat % 256, ((n : Nat) : Int) / 2 ^ (56 : Int).toNat % 256] := by
  have e0 : ((n : Nat) : Int) / 2 ^ (0 : Int).toNat % 256 = ((n / 256 ^ 0 % 256 : Nat) : Int) := by show ((n : Nat) : Int) / 1 % 256 = ((n / 1 % 256 : Nat) : Int); omega
  have e1 : ((n : Nat) : Int) / 2 ^ (8 : Int).toNat % 256 = ((n / 256 ^ 1 % 256 : Nat) : Int) := by show ((n : Nat) : Int) / 256 % 256 = ((n / 256 % 256 : Nat) : Int); omega
  have e2 : ((n : Nat) : Int) / 2 ^ (16 : Int).toNat % 256 = ((n / 256 ^ 2 % 256 : Nat) : Int) := by show ((n : Nat) : Int) / 65536 % 256 = ((n / 65536 % 256 : Nat) : Int); omega
  have e3 : ((n : Nat) : Int) / 2 ^ (24 : Int).toNat % 256 = ((n / 256 ^ 3 % 256 : Nat) : Int) := by show ((n : Nat) : Int) / 16777216 % 256 = ((n / 16777216 % 256 : Nat) : Int); omega
  have e4 : ((n : Nat) : Int) / 2 ^ (32 : Int).toNat % 256 = ((n / 256 ^ 4 % 256 : Nat) : Int) := by show ((n : Nat) : Int) / 4294967296 % 256 = ((n / 4294967296 % 256 : Nat) : Int); omega
  have e5 : ((n : Nat) : Int) / 2 ^ (40 : Int).toNat % 256 = ((n / 256 ^ 5 % 256 : Nat) : Int) := by show ((n : Nat) : Int) / 1099511627776 % 256 = ((n / 1099511627776 % 256 : Nat) : Int); omega
  have e6 : ((n : Nat) : Int) / 2 ^ (48 : Int).toNat % 256 = ((n / 256 ^ 6 % 256 : Nat) : Int) := by show ((n : Nat) : Int) / 281474976710656 % 256 = ((n / 281474976710656 % 256 : Nat) : Int); omega
  have e7 : ((n : Nat) : Int) / 2 ^ (56 : Int).toNat % 256 = ((n / 256 ^ 7 % 256 : Nat) : Int) := by show ((n : Nat) : Int) / 72057594037927936 % 256 = ((n / 72057594037927936 % 256 : Nat) : Int); omega
  rw [e0, e1, e2, e3, e4, e5, e6, e7]
  rfl
set_option maxRecDepth 100000 in
set_option maxHeartbeats 4000000 in
theorem lengths_c (a b : Nat) (ha : a ≤ 1000000) (hb : b ≤ 1000000) (w : World) :
    CA Tryd.prog 20 [.int .i64 (a : Int), .int .i64 (b : Int)] w (Ret (fun g : Nat => .slice (some ⟨g, 0, none⟩) 16 16) [] (fun g => [.blk g (.cells ((lil a ++ lil b).map (Value.int .u8)).toArray 5 (0, 0))]) (fun _ => True) w) := by
  refine enter (L := []) (X := []) Tryd.func20 rfl Tryd.ntmps20 rfl rfl (Has.nil _) ?_
  repeat (first | refine c_seq ?_ | (refine c_region (id := 0) ?_; refine sq qa ?_; refine l_nil ?_) | (refine c_region (id := 1) ?_; refine se ?_; (first | refine em ?_ | refine emi ?_); refine sq qa ?_; refine l_nil ?_) | refine n_then ?_ | refine c_block ?_ | refine c_skip ?_ | refine n_block ?_ | refine c_exit ?_ | refine n_then_exit ?_ | refine n_block_eq ?_ | refine n_block_ne rfl ?_ | refine c_ret ?_ | refine n_then_ret ?_ | refine n_block_ret ?_ | refine c_cond_t rfl ?_ | refine c_cond_f rfl ?_ | refine r_succ ?_ )
  refine chg (L' := [.sl (some ⟨w.heap.size, 0, none⟩) 16 5 1 [.int .u8 0, .int .u8 0, .int .u8 0, .int .u8 0, .int .u8 0, .int .u8 0, .int .u8 0, .int .u8 0, .int .u8 0, .int .u8 0, .int .u8 0, .int .u8 0, .int .u8 0, .int .u8 0, .int .u8 0, .int .u8 0]]) rfl ?_
  refine slblk (g := w.heap.size) (cap := 16) (xs := [.int .u8 0, .int .u8 0, .int .u8 0, .int .u8 0, .int .u8 0, .int .u8 0, .int .u8 0, .int .u8 0, .int .u8 0, .int .u8 0, .int .u8 0, .int .u8 0, .int .u8 0, .int .u8 0, .int .u8 0, .int .u8 0]) (by rfl) (by (repeat (first | exact Pl.here | apply Pl.there))) ?_
  repeat (first | refine c_rounds 9 ?_ | refine c_seq ?_ | (refine c_region (id := 2) ?_; refine sq qm ?_; refine l_nil ?_) | (refine c_region (id := 3) ?_; refine sq qlss ?_; refine l_nil ?_) | (refine c_region (id := 4) ?_; refine sq qm ?_; refine sq qa ?_; refine l_nil ?_) | (refine c_region (id := 5) ?_; refine sq qm ?_; refine sq qm ?_; refine sq qm ?_; refine sq qm ?_; refine sq qmul64 ?_; refine sq qshr ?_; refine sq qc8 ?_; refine sq qis ?_; refine se ?_; (first | refine es1 ?_ | refine es2 ?_ | refine es3 ?_); refine l_nil ?_) | (refine c_region (id := 6) ?_; refine sq qm ?_; refine sq qm ?_; refine sq qadd64 ?_; refine sq qm ?_; refine sq qm ?_; refine sq qmul64 ?_; refine sq qshr ?_; refine sq qc8 ?_; refine sq qis ?_; refine se ?_; (first | refine es1 ?_ | refine es2 ?_ | refine es3 ?_); refine l_nil ?_) | (refine c_region (id := 7) ?_; refine sq qadd64 ?_; refine sq qm ?_; refine l_nil ?_) | (refine c_region (id := 8) ?_; refine sq qm ?_; refine sq qa ?_; refine l_nil ?_) | refine n_then ?_ | refine c_block ?_ | refine c_skip ?_ | refine n_block ?_ | refine c_exit ?_ | refine n_then_exit ?_ | refine n_block_eq ?_ | refine n_block_ne rfl ?_ | refine c_ret ?_ | refine n_then_ret ?_ | refine n_block_ret ?_ | refine c_cond_t rfl ?_ | refine c_cond_f rfl ?_ | refine r_succ ?_ )
  refine chg (L' := [.blk w.heap.size (.cells ((lil a ++ lil b).map (Value.int .u8)).toArray 5 (0, 0))]) (by rw [lil_eq, lil_eq]; rfl) ?_
  (first | apply r_ret w.heap.size | apply r_end w.heap.size); exact rfl; exact rfl; exact (.tmp rfl .nil); exact rfl; exact (by exact (by (repeat (first | exact List.nil_sublist _ | exact List.Sublist.slnil | apply List.Sublist.cons_cons | exact List.Sublist.refl _ | apply List.Sublist.cons)))); exact (by intro g hg; simp [feet, Chunk.foot] at hg; exact .inr (by omega)); exact trivial
def lilk (n i : Nat) : List Int := (List.range i).map fun j => ((n / 256 ^ j % 256 : Nat) : Int)
theorem lilk_succ (n i : Nat) : lilk n (i + 1) = lilk n i ++ [((n / 256 ^ i % 256 : Nat) : Int)] := by
  unfold lilk; rw [List.range_succ, List.map_append]; rfl
set_option maxRecDepth 100000 in
set_option maxHeartbeats 4000000 in
theorem little_c (n : Nat) (hn : n ≤ 1000000) (w : World) :
    CA Tryd.prog 26 [.int .i64 (n : Int)] w (RLe (Value.int .u8) 5 (fun zs => zs = lil n) w) := by
  refine enter (L := []) (X := []) Tryd.func26 rfl Tryd.ntmps26 rfl rfl (Has.nil _) ?_
  repeat (first | refine c_seq ?_ | (refine c_region (id := 0) ?_; refine sq qa ?_; refine l_nil ?_) | (refine c_region (id := 1) ?_; refine sq qa ?_; refine l_nil ?_) | (refine c_region (id := 2) ?_; refine sq qa ?_; refine l_nil ?_) | refine n_then ?_ | refine c_block ?_ | refine c_skip ?_ | refine n_block ?_ | refine c_exit ?_ | refine n_then_exit ?_ | refine n_block_eq ?_ | refine n_block_ne rfl ?_ | refine c_ret ?_ | refine n_then_ret ?_ | refine n_block_ret ?_ | refine c_cond_t rfl ?_ | refine c_cond_f rfl ?_ | refine r_succ ?_ )
  refine add_nil 5 1 ?_
  refine c_loop (γ := Nat × Option Addr × Nat × Nat) (fun z => [(4, .int .i64 z.1), (3, .slice z.2.1 z.1 z.2.2.1), (0, .int .i64 ((n / 256 ^ z.1 : Nat) : Int))]) (fun z => z.2.2.2) (fun z => [.sl z.2.1 z.2.2.1 5 1 ((lilk n z.1).map (Value.int .u8))]) (fun z => z.1 ≤ 8 ∧ OS [] w.heap.size z.2.1 z.2.2.1 z.1 ∧ w.heap.size ≤ z.2.2.2) (fun z => 8 - z.1) ⟨0, none, 0, w.heap.size⟩ ⟨by simp, OS.nil _ _, by simp⟩ ⟨rfl, rfl, by simp only [Nat.pow_zero, Nat.div_one]; rfl, trivial⟩ rfl (by (repeat (first | exact List.nil_sublist _ | exact List.Sublist.slnil | apply List.Sublist.cons_cons | exact List.Sublist.refl _ | apply List.Sublist.cons))) ?_
  rintro ⟨i, b, cap, mm⟩ ⟨hi, ho, hmm⟩
  dsimp only at hi ho hmm ⊢
  have hll : (lilk n i).length = i := by simp [lilk]
  by_cases h8 : i < 8
  · obtain ⟨q, hq⟩ : ∃ q, q = n / 256 ^ i := ⟨_, rfl⟩
    have hq9 : q ≤ 1000000 := by rw [hq]; exact Nat.le_trans (Nat.div_le_self _ _) hn
    have hq2 : n / 256 ^ (i + 1) = q / 256 := by rw [hq, Nat.pow_succ, Nat.div_div_eq_div_mul]
    have hls := lilk_succ n i
    rw [← hq] at hls ⊢
    repeat (first | refine c_seq ?_ | (refine c_region (id := 3) ?_; refine sq qm ?_; refine sq (by first | exact dlsst | exact dlssf) ?_; refine l_nil ?_) | (refine c_region (id := 4) ?_; refine sq qm ?_; refine sq (by exact Qt.cast (v' := .int .i64 ((i + 1 : Nat) : Int)) (congrArg (Value.int .i64) (by omega)) (q_add64 rfl rfl ⟨by omega, by omega⟩ rfl)) ?_; refine sq qa ?_; refine l_nil ?_) | (refine c_region (id := 5) ?_; refine sq qm ?_; refine sq qm ?_; refine sq (by exact Qt.cast (v' := .int .i64 ((q % 256 : Nat) : Int)) (congrArg (Value.int .i64) (by omega)) (q_rem rfl rfl (by omega) (by omega))) ?_; refine sq (by exact Qt.cast (v' := .int .u8 ((q % 256 : Nat) : Int)) (congrArg (Value.int .u8) (by omega)) (q_conv8 rfl)) ?_; refine se ?_; refine ebs ?_; refine se ?_; refine e_appM (Value.int .u8) (lilk n i) ((q % 256 : Nat) : Int) rfl rfl rfl (by (repeat (first | exact Rm.here | apply Rm.there))) (by (repeat (first | exact List.Mem.head _ | apply List.Mem.tail))) hll ho (by rfl) (by omega) (by omega) ?_; intro b2 cap2 m2 ho2 hm2; refine sq qa ?_; refine l_nil ?_) | (refine c_region (id := 6) ?_; refine sq qm ?_; refine sq (by exact Qt.cast (v' := .int .i64 ((q / 256 : Nat) : Int)) (congrArg (Value.int .i64) (by omega)) (q_quo rfl rfl (by omega) (by omega) (by simp only [IntKind.wrap_i64]; omega))) ?_; refine sq qa ?_; refine l_nil ?_) | refine n_then ?_ | refine c_block ?_ | refine c_skip ?_ | refine n_block ?_ | refine c_exit ?_ | refine n_then_exit ?_ | refine n_block_eq ?_ | refine n_block_ne rfl ?_ | refine c_ret ?_ | refine n_then_ret ?_ | refine n_block_ret ?_ | refine c_cond_t rfl ?_ | refine c_cond_f rfl ?_ | refine r_succ ?_ )
    refine c_round ⟨i + 1, b2, cap2, m2⟩ ⟨by dsimp only; omega, ho2, by dsimp only; omega⟩ (by dsimp only; omega) ⟨rfl, rfl, by simp only [hq2]; rfl, trivial⟩ (by rfl) (by rw [hls]; exact (by (repeat (first | exact List.nil_sublist _ | exact List.Sublist.slnil | apply List.Sublist.cons_cons | exact List.Sublist.refl _ | apply List.Sublist.cons))))
  · obtain rfl : i = 8 := by omega
    repeat (first | refine c_seq ?_ | (refine c_region (id := 3) ?_; refine sq qm ?_; refine sq (by first | exact dlsst | exact dlssf) ?_; refine l_nil ?_) | (refine c_region (id := 7) ?_; refine sq qm ?_; refine sq qa ?_; refine l_nil ?_) | refine n_then ?_ | refine c_block ?_ | refine c_skip ?_ | refine n_block ?_ | refine c_exit ?_ | refine n_then_exit ?_ | refine n_block_eq ?_ | refine n_block_ne rfl ?_ | refine c_ret ?_ | refine n_then_ret ?_ | refine n_block_ret ?_ | refine c_cond_t rfl ?_ | refine c_cond_f rfl ?_ | refine r_succ ?_ )
    (first | apply r_ret (b, cap, lil n) | apply r_end (b, cap, lil n)); exact rfl; exact rfl; exact (.tmp rfl .nil); exact rfl; exact (by exact (by (repeat (first | exact List.nil_sublist _ | exact List.Sublist.slnil | apply List.Sublist.cons_cons | exact List.Sublist.refl _ | apply List.Sublist.cons)))); exact (new_sl ho.newc new_nil); exact ⟨by have h9 := ho.ret; exact h9, rfl⟩
end Go.Proofs.YteopejjlhmghbaaDoor
namespace Go.Proofs.YteopejjlhmghbaaDoor
open Go Go.RowKit
set_option linter.unusedVariables false
set_option linter.unusedSimpArgs false
set_option maxRecDepth 100000 in
set_option maxHeartbeats 1000000 in
theorem pq_0_5_10_15 (g : Nat) (x0 x1 x2 x3 x4 x5 x6 x7 x8 x9 x10 x11 x12 x13 x14 x15 A B C D : Int) (h : q4 x0 x5 x10 x15 = (A, B, C, D)) (w : World) (hL : Has [.blk g (.cells #[.int .u32 x0, .int .u32 x1, .int .u32 x2, .int .u32 x3, .int .u32 x4, .int .u32 x5, .int .u32 x6, .int .u32 x7, .int .u32 x8, .int .u32 x9, .int .u32 x10, .int .u32 x11, .int .u32 x12, .int .u32 x13, .int .u32 x14, .int .u32 x15] 68 (0, 0))] w) :
    CA Tryd.prog 30 [.pointer (some ⟨g, 0, none⟩), .pointer (some ⟨g, 5, none⟩), .pointer (some ⟨g, 10, none⟩), .pointer (some ⟨g, 15, none⟩)] w (Ret (fun (_ : Unit) => .tuple #[]) [g] (fun _ => [.blk g (.cells #[.int .u32 A, .int .u32 x1, .int .u32 x2, .int .u32 x3, .int .u32 x4, .int .u32 B, .int .u32 x6, .int .u32 x7, .int .u32 x8, .int .u32 x9, .int .u32 C, .int .u32 x11, .int .u32 x12, .int .u32 x13, .int .u32 x14, .int .u32 D] 68 (0, 0))]) (fun _ => True) w) := by
  have e1 : (q4 x0 x5 x10 x15).1 = A := by rw [h]
  have e2 : (q4 x0 x5 x10 x15).2.1 = B := by rw [h]
  have e3 : (q4 x0 x5 x10 x15).2.2.1 = C := by rw [h]
  have e4 : (q4 x0 x5 x10 x15).2.2.2 = D := by rw [h]
  rw [← e1, ← e2, ← e3, ← e4]
  clear e1 e2 e3 e4 h
  refine enter (L := _) (X := [g]) Tryd.func30 rfl Tryd.ntmps30 rfl rfl hL ?_
  repeat (first | refine c_seq ?_ | (refine x_region (id := 0) (some 8) [(0, .n), (1, .n), (2, .q), (3, .n), (4, .n), (5, .q), (6, .n), (7, .n), (8, .b)] _ mixed (by kernel_rfl) (List.Sublist.refl _) ?_; refine xn rfl qm ?_; refine xn rfl qn ?_; refine xq rfl ql ?_; refine xn rfl qm ?_; refine xn rfl qn ?_; refine xq rfl ql ?_; refine xn rfl qadd32 ?_; refine xn rfl qn ?_; refine x_b rfl ?_; (first | refine es1 ?_ | refine es2 ?_ | refine es3 ?_); refine x_k (List.nil_sublist _) ?_; refine x_nil ?_) | (refine x_region (id := 1) (some 10) [(0, .n), (1, .n), (2, .n), (3, .q), (4, .n), (5, .n), (6, .q), (7, .n), (8, .e), (9, .n), (10, .b)] _ mixed (by kernel_rfl) (List.Sublist.refl _) ?_; refine xn rfl qm ?_; refine xn rfl qm ?_; refine xn rfl qn ?_; refine xq rfl ql ?_; refine xn rfl qm ?_; refine xn rfl qn ?_; refine xq rfl ql ?_; refine xn rfl qxor ?_; refine x_e rfl ?_; refine ecp rfl rfl (fun w hC hm hL => by (first | exact rot16c _ _ w | exact rot12c _ _ w | exact rot8c _ _ w | exact rot7c _ _ w)) ?_; intro m' hm'; refine xk ?_; refine xn rfl qn ?_; refine x_b rfl ?_; (first | refine es1 ?_ | refine es2 ?_ | refine es3 ?_); refine x_k (List.nil_sublist _) ?_; refine x_nil ?_) | (refine x_region (id := 2) (some 8) [(0, .n), (1, .n), (2, .q), (3, .n), (4, .n), (5, .q), (6, .n), (7, .n), (8, .b)] _ mixed (by kernel_rfl) (List.Sublist.refl _) ?_; refine xn rfl qm ?_; refine xn rfl qn ?_; refine xq rfl ql ?_; refine xn rfl qm ?_; refine xn rfl qn ?_; refine xq rfl ql ?_; refine xn rfl qadd32 ?_; refine xn rfl qn ?_; refine x_b rfl ?_; (first | refine es1 ?_ | refine es2 ?_ | refine es3 ?_); refine x_k (List.nil_sublist _) ?_; refine x_nil ?_) | (refine x_region (id := 3) (some 10) [(0, .n), (1, .n), (2, .n), (3, .q), (4, .n), (5, .n), (6, .q), (7, .n), (8, .e), (9, .n), (10, .b)] _ mixed (by kernel_rfl) (List.Sublist.refl _) ?_; refine xn rfl qm ?_; refine xn rfl qm ?_; refine xn rfl qn ?_; refine xq rfl ql ?_; refine xn rfl qm ?_; refine xn rfl qn ?_; refine xq rfl ql ?_; refine xn rfl qxor ?_; refine x_e rfl ?_; refine ecp rfl rfl (fun w hC hm hL => by (first | exact rot16c _ _ w | exact rot12c _ _ w | exact rot8c _ _ w | exact rot7c _ _ w)) ?_; intro m' hm'; refine xk ?_; refine xn rfl qn ?_; refine x_b rfl ?_; (first | refine es1 ?_ | refine es2 ?_ | refine es3 ?_); refine x_k (List.nil_sublist _) ?_; refine x_nil ?_) | (refine x_region (id := 4) (some 8) [(0, .n), (1, .n), (2, .q), (3, .n), (4, .n), (5, .q), (6, .n), (7, .n), (8, .b)] _ mixed (by kernel_rfl) (List.Sublist.refl _) ?_; refine xn rfl qm ?_; refine xn rfl qn ?_; refine xq rfl ql ?_; refine xn rfl qm ?_; refine xn rfl qn ?_; refine xq rfl ql ?_; refine xn rfl qadd32 ?_; refine xn rfl qn ?_; refine x_b rfl ?_; (first | refine es1 ?_ | refine es2 ?_ | refine es3 ?_); refine x_k (List.nil_sublist _) ?_; refine x_nil ?_) | (refine x_region (id := 5) (some 10) [(0, .n), (1, .n), (2, .n), (3, .q), (4, .n), (5, .n), (6, .q), (7, .n), (8, .e), (9, .n), (10, .b)] _ mixed (by kernel_rfl) (List.Sublist.refl _) ?_; refine xn rfl qm ?_; refine xn rfl qm ?_; refine xn rfl qn ?_; refine xq rfl ql ?_; refine xn rfl qm ?_; refine xn rfl qn ?_; refine xq rfl ql ?_; refine xn rfl qxor ?_; refine x_e rfl ?_; refine ecp rfl rfl (fun w hC hm hL => by (first | exact rot16c _ _ w | exact rot12c _ _ w | exact rot8c _ _ w | exact rot7c _ _ w)) ?_; intro m' hm'; refine xk ?_; refine xn rfl qn ?_; refine x_b rfl ?_; (first | refine es1 ?_ | refine es2 ?_ | refine es3 ?_); refine x_k (List.nil_sublist _) ?_; refine x_nil ?_) | (refine x_region (id := 6) (some 8) [(0, .n), (1, .n), (2, .q), (3, .n), (4, .n), (5, .q), (6, .n), (7, .n), (8, .b)] _ mixed (by kernel_rfl) (List.Sublist.refl _) ?_; refine xn rfl qm ?_; refine xn rfl qn ?_; refine xq rfl ql ?_; refine xn rfl qm ?_; refine xn rfl qn ?_; refine xq rfl ql ?_; refine xn rfl qadd32 ?_; refine xn rfl qn ?_; refine x_b rfl ?_; (first | refine es1 ?_ | refine es2 ?_ | refine es3 ?_); refine x_k (List.nil_sublist _) ?_; refine x_nil ?_) | (refine x_region (id := 7) (some 10) [(0, .n), (1, .n), (2, .n), (3, .q), (4, .n), (5, .n), (6, .q), (7, .n), (8, .e), (9, .n), (10, .b)] _ mixed (by kernel_rfl) (List.Sublist.refl _) ?_; refine xn rfl qm ?_; refine xn rfl qm ?_; refine xn rfl qn ?_; refine xq rfl ql ?_; refine xn rfl qm ?_; refine xn rfl qn ?_; refine xq rfl ql ?_; refine xn rfl qxor ?_; refine x_e rfl ?_; refine ecp rfl rfl (fun w hC hm hL => by (first | exact rot16c _ _ w | exact rot12c _ _ w | exact rot8c _ _ w | exact rot7c _ _ w)) ?_; intro m' hm'; refine xk ?_; refine xn rfl qn ?_; refine x_b rfl ?_; (first | refine es1 ?_ | refine es2 ?_ | refine es3 ?_); refine x_k (List.nil_sublist _) ?_; refine x_nil ?_) | refine n_then ?_ | refine c_block ?_ | refine c_skip ?_ | refine n_block ?_ | refine c_exit ?_ | refine n_then_exit ?_ | refine n_block_eq ?_ | refine n_block_ne rfl ?_ | refine c_ret ?_ | refine n_then_ret ?_ | refine n_block_ret ?_ | refine c_cond_t rfl ?_ | refine c_cond_f rfl ?_ | refine r_succ ?_ )
  (first | apply r_ret () | apply r_end ()); exact rfl; exact rfl; exact .nil; exact rfl; exact (List.Sublist.refl _); exact (new_blk (.inl (by simp)) new_nil); exact trivial
set_option maxRecDepth 100000 in
set_option maxHeartbeats 1000000 in
theorem rq_0_5_10_15 (x0 x1 x2 x3 x4 x5 x6 x7 x8 x9 x10 x11 x12 x13 x14 x15 A B C D : Int) (h : q4 x0 x5 x10 x15 = (A, B, C, D)) (w : World) :
    CA Tryd.prog 42 [.agg #[.int .u32 x0, .int .u32 x1, .int .u32 x2, .int .u32 x3, .int .u32 x4, .int .u32 x5, .int .u32 x6, .int .u32 x7, .int .u32 x8, .int .u32 x9, .int .u32 x10, .int .u32 x11, .int .u32 x12, .int .u32 x13, .int .u32 x14, .int .u32 x15], .int .i64 0, .int .i64 5, .int .i64 10, .int .i64 15] w (RV (.agg #[.int .u32 A, .int .u32 x1, .int .u32 x2, .int .u32 x3, .int .u32 x4, .int .u32 B, .int .u32 x6, .int .u32 x7, .int .u32 x8, .int .u32 x9, .int .u32 C, .int .u32 x11, .int .u32 x12, .int .u32 x13, .int .u32 x14, .int .u32 D]) w) := by
  have e1 : (q4 x0 x5 x10 x15).1 = A := by rw [h]
  have e2 : (q4 x0 x5 x10 x15).2.1 = B := by rw [h]
  have e3 : (q4 x0 x5 x10 x15).2.2.1 = C := by rw [h]
  have e4 : (q4 x0 x5 x10 x15).2.2.2 = D := by rw [h]
  rw [← e1, ← e2, ← e3, ← e4]
  clear e1 e2 e3 e4 h
  refine enter (L := []) (X := []) Tryd.func42 rfl Tryd.ntmps42 rfl rfl (Has.nil _) ?_
  repeat (first | refine c_seq ?_ | (refine c_region (id := 0) ?_; refine se ?_; refine eb ?_; refine se ?_; refine ea ?_; refine l_nil ?_) | (refine x_region (id := 1) (some 9) [(0, .n), (1, .n), (2, .n), (3, .q), (4, .n), (5, .n), (6, .q), (7, .n), (8, .n), (9, .b)] _ mixed (by kernel_rfl) (List.Sublist.refl _) ?_; refine xn rfl qm ?_; refine xn rfl qm ?_; refine xn rfl qia ?_; refine xq rfl ql ?_; refine xn rfl qm ?_; refine xn rfl qia ?_; refine xq rfl ql ?_; refine xn rfl qadd32 ?_; refine xn rfl qia ?_; refine x_b rfl ?_; (first | refine es1 ?_ | refine es2 ?_ | refine es3 ?_); refine x_k (List.nil_sublist _) ?_; refine x_nil ?_) | (refine x_region (id := 2) (some 10) [(0, .n), (1, .n), (2, .n), (3, .q), (4, .n), (5, .n), (6, .q), (7, .n), (8, .e), (9, .n), (10, .b)] _ mixed (by kernel_rfl) (List.Sublist.refl _) ?_; refine xn rfl qm ?_; refine xn rfl qm ?_; refine xn rfl qia ?_; refine xq rfl ql ?_; refine xn rfl qm ?_; refine xn rfl qia ?_; refine xq rfl ql ?_; refine xn rfl qxor ?_; refine x_e rfl ?_; refine ecp rfl rfl (fun w hC hm hL => by (first | exact left16c _ _ w | exact left12c _ _ w | exact left8c _ _ w | exact left7c _ _ w)) ?_; intro m' hm'; refine xk ?_; refine xn rfl qia ?_; refine x_b rfl ?_; (first | refine es1 ?_ | refine es2 ?_ | refine es3 ?_); refine x_k (List.nil_sublist _) ?_; refine x_nil ?_) | (refine x_region (id := 3) (some 9) [(0, .n), (1, .n), (2, .n), (3, .q), (4, .n), (5, .n), (6, .q), (7, .n), (8, .n), (9, .b)] _ mixed (by kernel_rfl) (List.Sublist.refl _) ?_; refine xn rfl qm ?_; refine xn rfl qm ?_; refine xn rfl qia ?_; refine xq rfl ql ?_; refine xn rfl qm ?_; refine xn rfl qia ?_; refine xq rfl ql ?_; refine xn rfl qadd32 ?_; refine xn rfl qia ?_; refine x_b rfl ?_; (first | refine es1 ?_ | refine es2 ?_ | refine es3 ?_); refine x_k (List.nil_sublist _) ?_; refine x_nil ?_) | (refine x_region (id := 4) (some 10) [(0, .n), (1, .n), (2, .n), (3, .q), (4, .n), (5, .n), (6, .q), (7, .n), (8, .e), (9, .n), (10, .b)] _ mixed (by kernel_rfl) (List.Sublist.refl _) ?_; refine xn rfl qm ?_; refine xn rfl qm ?_; refine xn rfl qia ?_; refine xq rfl ql ?_; refine xn rfl qm ?_; refine xn rfl qia ?_; refine xq rfl ql ?_; refine xn rfl qxor ?_; refine x_e rfl ?_; refine ecp rfl rfl (fun w hC hm hL => by (first | exact left16c _ _ w | exact left12c _ _ w | exact left8c _ _ w | exact left7c _ _ w)) ?_; intro m' hm'; refine xk ?_; refine xn rfl qia ?_; refine x_b rfl ?_; (first | refine es1 ?_ | refine es2 ?_ | refine es3 ?_); refine x_k (List.nil_sublist _) ?_; refine x_nil ?_) | (refine x_region (id := 5) (some 9) [(0, .n), (1, .n), (2, .n), (3, .q), (4, .n), (5, .n), (6, .q), (7, .n), (8, .n), (9, .b)] _ mixed (by kernel_rfl) (List.Sublist.refl _) ?_; refine xn rfl qm ?_; refine xn rfl qm ?_; refine xn rfl qia ?_; refine xq rfl ql ?_; refine xn rfl qm ?_; refine xn rfl qia ?_; refine xq rfl ql ?_; refine xn rfl qadd32 ?_; refine xn rfl qia ?_; refine x_b rfl ?_; (first | refine es1 ?_ | refine es2 ?_ | refine es3 ?_); refine x_k (List.nil_sublist _) ?_; refine x_nil ?_) | (refine x_region (id := 6) (some 10) [(0, .n), (1, .n), (2, .n), (3, .q), (4, .n), (5, .n), (6, .q), (7, .n), (8, .e), (9, .n), (10, .b)] _ mixed (by kernel_rfl) (List.Sublist.refl _) ?_; refine xn rfl qm ?_; refine xn rfl qm ?_; refine xn rfl qia ?_; refine xq rfl ql ?_; refine xn rfl qm ?_; refine xn rfl qia ?_; refine xq rfl ql ?_; refine xn rfl qxor ?_; refine x_e rfl ?_; refine ecp rfl rfl (fun w hC hm hL => by (first | exact left16c _ _ w | exact left12c _ _ w | exact left8c _ _ w | exact left7c _ _ w)) ?_; intro m' hm'; refine xk ?_; refine xn rfl qia ?_; refine x_b rfl ?_; (first | refine es1 ?_ | refine es2 ?_ | refine es3 ?_); refine x_k (List.nil_sublist _) ?_; refine x_nil ?_) | (refine x_region (id := 7) (some 9) [(0, .n), (1, .n), (2, .n), (3, .q), (4, .n), (5, .n), (6, .q), (7, .n), (8, .n), (9, .b)] _ mixed (by kernel_rfl) (List.Sublist.refl _) ?_; refine xn rfl qm ?_; refine xn rfl qm ?_; refine xn rfl qia ?_; refine xq rfl ql ?_; refine xn rfl qm ?_; refine xn rfl qia ?_; refine xq rfl ql ?_; refine xn rfl qadd32 ?_; refine xn rfl qia ?_; refine x_b rfl ?_; (first | refine es1 ?_ | refine es2 ?_ | refine es3 ?_); refine x_k (List.nil_sublist _) ?_; refine x_nil ?_) | (refine x_region (id := 8) (some 10) [(0, .n), (1, .n), (2, .n), (3, .q), (4, .n), (5, .n), (6, .q), (7, .n), (8, .e), (9, .n), (10, .b)] _ mixed (by kernel_rfl) (List.Sublist.refl _) ?_; refine xn rfl qm ?_; refine xn rfl qm ?_; refine xn rfl qia ?_; refine xq rfl ql ?_; refine xn rfl qm ?_; refine xn rfl qia ?_; refine xq rfl ql ?_; refine xn rfl qxor ?_; refine x_e rfl ?_; refine ecp rfl rfl (fun w hC hm hL => by (first | exact left16c _ _ w | exact left12c _ _ w | exact left8c _ _ w | exact left7c _ _ w)) ?_; intro m' hm'; refine xk ?_; refine xn rfl qia ?_; refine x_b rfl ?_; (first | refine es1 ?_ | refine es2 ?_ | refine es3 ?_); refine x_k (List.nil_sublist _) ?_; refine x_nil ?_) | (refine c_region (id := 9) ?_; refine sq (by first | exact qlb | exact qlr) ?_; refine se ?_; refine esa ?_; refine l_nil ?_) | refine n_then ?_ | refine c_block ?_ | refine c_skip ?_ | refine n_block ?_ | refine c_exit ?_ | refine n_then_exit ?_ | refine n_block_eq ?_ | refine n_block_ne rfl ?_ | refine c_ret ?_ | refine n_then_ret ?_ | refine n_block_ret ?_ | refine c_cond_t rfl ?_ | refine c_cond_f rfl ?_ | refine r_succ ?_ )
  (first | apply r_ret () | apply r_end ()); exact rfl; exact rfl; exact (.row rfl (by (repeat (first | exact List.Mem.head _ | apply List.Mem.tail))) (by rfl) .nil); exact rfl; exact (List.nil_sublist _); exact new_nil; exact trivial
set_option maxRecDepth 100000 in
set_option maxHeartbeats 1000000 in
theorem pq_1_6_11_12 (g : Nat) (x0 x1 x2 x3 x4 x5 x6 x7 x8 x9 x10 x11 x12 x13 x14 x15 A B C D : Int) (h : q4 x1 x6 x11 x12 = (A, B, C, D)) (w : World) (hL : Has [.blk g (.cells #[.int .u32 x0, .int .u32 x1, .int .u32 x2, .int .u32 x3, .int .u32 x4, .int .u32 x5, .int .u32 x6, .int .u32 x7, .int .u32 x8, .int .u32 x9, .int .u32 x10, .int .u32 x11, .int .u32 x12, .int .u32 x13, .int .u32 x14, .int .u32 x15] 68 (0, 0))] w) :
    CA Tryd.prog 30 [.pointer (some ⟨g, 1, none⟩), .pointer (some ⟨g, 6, none⟩), .pointer (some ⟨g, 11, none⟩), .pointer (some ⟨g, 12, none⟩)] w (Ret (fun (_ : Unit) => .tuple #[]) [g] (fun _ => [.blk g (.cells #[.int .u32 x0, .int .u32 A, .int .u32 x2, .int .u32 x3, .int .u32 x4, .int .u32 x5, .int .u32 B, .int .u32 x7, .int .u32 x8, .int .u32 x9, .int .u32 x10, .int .u32 C, .int .u32 D, .int .u32 x13, .int .u32 x14, .int .u32 x15] 68 (0, 0))]) (fun _ => True) w) := by
  have e1 : (q4 x1 x6 x11 x12).1 = A := by rw [h]
  have e2 : (q4 x1 x6 x11 x12).2.1 = B := by rw [h]
  have e3 : (q4 x1 x6 x11 x12).2.2.1 = C := by rw [h]
  have e4 : (q4 x1 x6 x11 x12).2.2.2 = D := by rw [h]
  rw [← e1, ← e2, ← e3, ← e4]
  clear e1 e2 e3 e4 h
  refine enter (L := _) (X := [g]) Tryd.func30 rfl Tryd.ntmps30 rfl rfl hL ?_
  repeat (first | refine c_seq ?_ | (refine x_region (id := 0) (some 8) [(0, .n), (1, .n), (2, .q), (3, .n), (4, .n), (5, .q), (6, .n), (7, .n), (8, .b)] _ mixed (by kernel_rfl) (List.Sublist.refl _) ?_; refine xn rfl qm ?_; refine xn rfl qn ?_; refine xq rfl ql ?_; refine xn rfl qm ?_; refine xn rfl qn ?_; refine xq rfl ql ?_; refine xn rfl qadd32 ?_; refine xn rfl qn ?_; refine x_b rfl ?_; (first | refine es1 ?_ | refine es2 ?_ | refine es3 ?_); refine x_k (List.nil_sublist _) ?_; refine x_nil ?_) | (refine x_region (id := 1) (some 10) [(0, .n), (1, .n), (2, .n), (3, .q), (4, .n), (5, .n), (6, .q), (7, .n), (8, .e), (9, .n), (10, .b)] _ mixed (by kernel_rfl) (List.Sublist.refl _) ?_; refine xn rfl qm ?_; refine xn rfl qm ?_; refine xn rfl qn ?_; refine xq rfl ql ?_; refine xn rfl qm ?_; refine xn rfl qn ?_; refine xq rfl ql ?_; refine xn rfl qxor ?_; refine x_e rfl ?_; refine ecp rfl rfl (fun w hC hm hL => by (first | exact rot16c _ _ w | exact rot12c _ _ w | exact rot8c _ _ w | exact rot7c _ _ w)) ?_; intro m' hm'; refine xk ?_; refine xn rfl qn ?_; refine x_b rfl ?_; (first | refine es1 ?_ | refine es2 ?_ | refine es3 ?_); refine x_k (List.nil_sublist _) ?_; refine x_nil ?_) | (refine x_region (id := 2) (some 8) [(0, .n), (1, .n), (2, .q), (3, .n), (4, .n), (5, .q), (6, .n), (7, .n), (8, .b)] _ mixed (by kernel_rfl) (List.Sublist.refl _) ?_; refine xn rfl qm ?_; refine xn rfl qn ?_; refine xq rfl ql ?_; refine xn rfl qm ?_; refine xn rfl qn ?_; refine xq rfl ql ?_; refine xn rfl qadd32 ?_; refine xn rfl qn ?_; refine x_b rfl ?_; (first | refine es1 ?_ | refine es2 ?_ | refine es3 ?_); refine x_k (List.nil_sublist _) ?_; refine x_nil ?_) | (refine x_region (id := 3) (some 10) [(0, .n), (1, .n), (2, .n), (3, .q), (4, .n), (5, .n), (6, .q), (7, .n), (8, .e), (9, .n), (10, .b)] _ mixed (by kernel_rfl) (List.Sublist.refl _) ?_; refine xn rfl qm ?_; refine xn rfl qm ?_; refine xn rfl qn ?_; refine xq rfl ql ?_; refine xn rfl qm ?_; refine xn rfl qn ?_; refine xq rfl ql ?_; refine xn rfl qxor ?_; refine x_e rfl ?_; refine ecp rfl rfl (fun w hC hm hL => by (first | exact rot16c _ _ w | exact rot12c _ _ w | exact rot8c _ _ w | exact rot7c _ _ w)) ?_; intro m' hm'; refine xk ?_; refine xn rfl qn ?_; refine x_b rfl ?_; (first | refine es1 ?_ | refine es2 ?_ | refine es3 ?_); refine x_k (List.nil_sublist _) ?_; refine x_nil ?_) | (refine x_region (id := 4) (some 8) [(0, .n), (1, .n), (2, .q), (3, .n), (4, .n), (5, .q), (6, .n), (7, .n), (8, .b)] _ mixed (by kernel_rfl) (List.Sublist.refl _) ?_; refine xn rfl qm ?_; refine xn rfl qn ?_; refine xq rfl ql ?_; refine xn rfl qm ?_; refine xn rfl qn ?_; refine xq rfl ql ?_; refine xn rfl qadd32 ?_; refine xn rfl qn ?_; refine x_b rfl ?_; (first | refine es1 ?_ | refine es2 ?_ | refine es3 ?_); refine x_k (List.nil_sublist _) ?_; refine x_nil ?_) | (refine x_region (id := 5) (some 10) [(0, .n), (1, .n), (2, .n), (3, .q), (4, .n), (5, .n), (6, .q), (7, .n), (8, .e), (9, .n), (10, .b)] _ mixed (by kernel_rfl) (List.Sublist.refl _) ?_; refine xn rfl qm ?_; refine xn rfl qm ?_; refine xn rfl qn ?_; refine xq rfl ql ?_; refine xn rfl qm ?_; refine xn rfl qn ?_; refine xq rfl ql ?_; refine xn rfl qxor ?_; refine x_e rfl ?_; refine ecp rfl rfl (fun w hC hm hL => by (first | exact rot16c _ _ w | exact rot12c _ _ w | exact rot8c _ _ w | exact rot7c _ _ w)) ?_; intro m' hm'; refine xk ?_; refine xn rfl qn ?_; refine x_b rfl ?_; (first | refine es1 ?_ | refine es2 ?_ | refine es3 ?_); refine x_k (List.nil_sublist _) ?_; refine x_nil ?_) | (refine x_region (id := 6) (some 8) [(0, .n), (1, .n), (2, .q), (3, .n), (4, .n), (5, .q), (6, .n), (7, .n), (8, .b)] _ mixed (by kernel_rfl) (List.Sublist.refl _) ?_; refine xn rfl qm ?_; refine xn rfl qn ?_; refine xq rfl ql ?_; refine xn rfl qm ?_; refine xn rfl qn ?_; refine xq rfl ql ?_; refine xn rfl qadd32 ?_; refine xn rfl qn ?_; refine x_b rfl ?_; (first | refine es1 ?_ | refine es2 ?_ | refine es3 ?_); refine x_k (List.nil_sublist _) ?_; refine x_nil ?_) | (refine x_region (id := 7) (some 10) [(0, .n), (1, .n), (2, .n), (3, .q), (4, .n), (5, .n), (6, .q), (7, .n), (8, .e), (9, .n), (10, .b)] _ mixed (by kernel_rfl) (List.Sublist.refl _) ?_; refine xn rfl qm ?_; refine xn rfl qm ?_; refine xn rfl qn ?_; refine xq rfl ql ?_; refine xn rfl qm ?_; refine xn rfl qn ?_; refine xq rfl ql ?_; refine xn rfl qxor ?_; refine x_e rfl ?_; refine ecp rfl rfl (fun w hC hm hL => by (first | exact rot16c _ _ w | exact rot12c _ _ w | exact rot8c _ _ w | exact rot7c _ _ w)) ?_; intro m' hm'; refine xk ?_; refine xn rfl qn ?_; refine x_b rfl ?_; (first | refine es1 ?_ | refine es2 ?_ | refine es3 ?_); refine x_k (List.nil_sublist _) ?_; refine x_nil ?_) | refine n_then ?_ | refine c_block ?_ | refine c_skip ?_ | refine n_block ?_ | refine c_exit ?_ | refine n_then_exit ?_ | refine n_block_eq ?_ | refine n_block_ne rfl ?_ | refine c_ret ?_ | refine n_then_ret ?_ | refine n_block_ret ?_ | refine c_cond_t rfl ?_ | refine c_cond_f rfl ?_ | refine r_succ ?_ )
  (first | apply r_ret () | apply r_end ()); exact rfl; exact rfl; exact .nil; exact rfl; exact (List.Sublist.refl _); exact (new_blk (.inl (by simp)) new_nil); exact trivial
set_option maxRecDepth 100000 in
set_option maxHeartbeats 1000000 in
theorem rq_1_6_11_12 (x0 x1 x2 x3 x4 x5 x6 x7 x8 x9 x10 x11 x12 x13 x14 x15 A B C D : Int) (h : q4 x1 x6 x11 x12 = (A, B, C, D)) (w : World) :
    CA Tryd.prog 42 [.agg #[.int .u32 x0, .int .u32 x1, .int .u32 x2, .int .u32 x3, .int .u32 x4, .int .u32 x5, .int .u32 x6, .int .u32 x7, .int .u32 x8, .int .u32 x9, .int .u32 x10, .int .u32 x11, .int .u32 x12, .int .u32 x13, .int .u32 x14, .int .u32 x15], .int .i64 1, .int .i64 6, .int .i64 11, .int .i64 12] w (RV (.agg #[.int .u32 x0, .int .u32 A, .int .u32 x2, .int .u32 x3, .int .u32 x4, .int .u32 x5, .int .u32 B, .int .u32 x7, .int .u32 x8, .int .u32 x9, .int .u32 x10, .int .u32 C, .int .u32 D, .int .u32 x13, .int .u32 x14, .int .u32 x15]) w) := by
  have e1 : (q4 x1 x6 x11 x12).1 = A := by rw [h]
  have e2 : (q4 x1 x6 x11 x12).2.1 = B := by rw [h]
  have e3 : (q4 x1 x6 x11 x12).2.2.1 = C := by rw [h]
  have e4 : (q4 x1 x6 x11 x12).2.2.2 = D := by rw [h]
  rw [← e1, ← e2, ← e3, ← e4]
  clear e1 e2 e3 e4 h
  refine enter (L := []) (X := []) Tryd.func42 rfl Tryd.ntmps42 rfl rfl (Has.nil _) ?_
  repeat (first | refine c_seq ?_ | (refine c_region (id := 0) ?_; refine se ?_; refine eb ?_; refine se ?_; refine ea ?_; refine l_nil ?_) | (refine x_region (id := 1) (some 9) [(0, .n), (1, .n), (2, .n), (3, .q), (4, .n), (5, .n), (6, .q), (7, .n), (8, .n), (9, .b)] _ mixed (by kernel_rfl) (List.Sublist.refl _) ?_; refine xn rfl qm ?_; refine xn rfl qm ?_; refine xn rfl qia ?_; refine xq rfl ql ?_; refine xn rfl qm ?_; refine xn rfl qia ?_; refine xq rfl ql ?_; refine xn rfl qadd32 ?_; refine xn rfl qia ?_; refine x_b rfl ?_; (first | refine es1 ?_ | refine es2 ?_ | refine es3 ?_); refine x_k (List.nil_sublist _) ?_; refine x_nil ?_) | (refine x_region (id := 2) (some 10) [(0, .n), (1, .n), (2, .n), (3, .q), (4, .n), (5, .n), (6, .q), (7, .n), (8, .e), (9, .n), (10, .b)] _ mixed (by kernel_rfl) (List.Sublist.refl _) ?_; refine xn rfl qm ?_; refine xn rfl qm ?_; refine xn rfl qia ?_; refine xq rfl ql ?_; refine xn rfl qm ?_; refine xn rfl qia ?_; refine xq rfl ql ?_; refine xn rfl qxor ?_; refine x_e rfl ?_; refine ecp rfl rfl (fun w hC hm hL => by (first | exact left16c _ _ w | exact left12c _ _ w | exact left8c _ _ w | exact left7c _ _ w)) ?_; intro m' hm'; refine xk ?_; refine xn rfl qia ?_; refine x_b rfl ?_; (first | refine es1 ?_ | refine es2 ?_ | refine es3 ?_); refine x_k (List.nil_sublist _) ?_; refine x_nil ?_) | (refine x_region (id := 3) (some 9) [(0, .n), (1, .n), (2, .n), (3, .q), (4, .n), (5, .n), (6, .q), (7, .n), (8, .n), (9, .b)] _ mixed (by kernel_rfl) (List.Sublist.refl _) ?_; refine xn rfl qm ?_; refine xn rfl qm ?_; refine xn rfl qia ?_; refine xq rfl ql ?_; refine xn rfl qm ?_; refine xn rfl qia ?_; refine xq rfl ql ?_; refine xn rfl qadd32 ?_; refine xn rfl qia ?_; refine x_b rfl ?_; (first | refine es1 ?_ | refine es2 ?_ | refine es3 ?_); refine x_k (List.nil_sublist _) ?_; refine x_nil ?_) | (refine x_region (id := 4) (some 10) [(0, .n), (1, .n), (2, .n), (3, .q), (4, .n), (5, .n), (6, .q), (7, .n), (8, .e), (9, .n), (10, .b)] _ mixed (by kernel_rfl) (List.Sublist.refl _) ?_; refine xn rfl qm ?_; refine xn rfl qm ?_; refine xn rfl qia ?_; refine xq rfl ql ?_; refine xn rfl qm ?_; refine xn rfl qia ?_; refine xq rfl ql ?_; refine xn rfl qxor ?_; refine x_e rfl ?_; refine ecp rfl rfl (fun w hC hm hL => by (first | exact left16c _ _ w | exact left12c _ _ w | exact left8c _ _ w | exact left7c _ _ w)) ?_; intro m' hm'; refine xk ?_; refine xn rfl qia ?_; refine x_b rfl ?_; (first | refine es1 ?_ | refine es2 ?_ | refine es3 ?_); refine x_k (List.nil_sublist _) ?_; refine x_nil ?_) | (refine x_region (id := 5) (some 9) [(0, .n), (1, .n), (2, .n), (3, .q), (4, .n), (5, .n), (6, .q), (7, .n), (8, .n), (9, .b)] _ mixed (by kernel_rfl) (List.Sublist.refl _) ?_; refine xn rfl qm ?_; refine xn rfl qm ?_; refine xn rfl qia ?_; refine xq rfl ql ?_; refine xn rfl qm ?_; refine xn rfl qia ?_; refine xq rfl ql ?_; refine xn rfl qadd32 ?_; refine xn rfl qia ?_; refine x_b rfl ?_; (first | refine es1 ?_ | refine es2 ?_ | refine es3 ?_); refine x_k (List.nil_sublist _) ?_; refine x_nil ?_) | (refine x_region (id := 6) (some 10) [(0, .n), (1, .n), (2, .n), (3, .q), (4, .n), (5, .n), (6, .q), (7, .n), (8, .e), (9, .n), (10, .b)] _ mixed (by kernel_rfl) (List.Sublist.refl _) ?_; refine xn rfl qm ?_; refine xn rfl qm ?_; refine xn rfl qia ?_; refine xq rfl ql ?_; refine xn rfl qm ?_; refine xn rfl qia ?_; refine xq rfl ql ?_; refine xn rfl qxor ?_; refine x_e rfl ?_; refine ecp rfl rfl (fun w hC hm hL => by (first | exact left16c _ _ w | exact left12c _ _ w | exact left8c _ _ w | exact left7c _ _ w)) ?_; intro m' hm'; refine xk ?_; refine xn rfl qia ?_; refine x_b rfl ?_; (first | refine es1 ?_ | refine es2 ?_ | refine es3 ?_); refine x_k (List.nil_sublist _) ?_; refine x_nil ?_) | (refine x_region (id := 7) (some 9) [(0, .n), (1, .n), (2, .n), (3, .q), (4, .n), (5, .n), (6, .q), (7, .n), (8, .n), (9, .b)] _ mixed (by kernel_rfl) (List.Sublist.refl _) ?_; refine xn rfl qm ?_; refine xn rfl qm ?_; refine xn rfl qia ?_; refine xq rfl ql ?_; refine xn rfl qm ?_; refine xn rfl qia ?_; refine xq rfl ql ?_; refine xn rfl qadd32 ?_; refine xn rfl qia ?_; refine x_b rfl ?_; (first | refine es1 ?_ | refine es2 ?_ | refine es3 ?_); refine x_k (List.nil_sublist _) ?_; refine x_nil ?_) | (refine x_region (id := 8) (some 10) [(0, .n), (1, .n), (2, .n), (3, .q), (4, .n), (5, .n), (6, .q), (7, .n), (8, .e), (9, .n), (10, .b)] _ mixed (by kernel_rfl) (List.Sublist.refl _) ?_; refine xn rfl qm ?_; refine xn rfl qm ?_; refine xn rfl qia ?_; refine xq rfl ql ?_; refine xn rfl qm ?_; refine xn rfl qia ?_; refine xq rfl ql ?_; refine xn rfl qxor ?_; refine x_e rfl ?_; refine ecp rfl rfl (fun w hC hm hL => by (first | exact left16c _ _ w | exact left12c _ _ w | exact left8c _ _ w | exact left7c _ _ w)) ?_; intro m' hm'; refine xk ?_; refine xn rfl qia ?_; refine x_b rfl ?_; (first | refine es1 ?_ | refine es2 ?_ | refine es3 ?_); refine x_k (List.nil_sublist _) ?_; refine x_nil ?_) | (refine c_region (id := 9) ?_; refine sq (by first | exact qlb | exact qlr) ?_; refine se ?_; refine esa ?_; refine l_nil ?_) | refine n_then ?_ | refine c_block ?_ | refine c_skip ?_ | refine n_block ?_ | refine c_exit ?_ | refine n_then_exit ?_ | refine n_block_eq ?_ | refine n_block_ne rfl ?_ | refine c_ret ?_ | refine n_then_ret ?_ | refine n_block_ret ?_ | refine c_cond_t rfl ?_ | refine c_cond_f rfl ?_ | refine r_succ ?_ )
  (first | apply r_ret () | apply r_end ()); exact rfl; exact rfl; exact (.row rfl (by (repeat (first | exact List.Mem.head _ | apply List.Mem.tail))) (by rfl) .nil); exact rfl; exact (List.nil_sublist _); exact new_nil; exact trivial
set_option maxRecDepth 100000 in
set_option maxHeartbeats 1000000 in
theorem pq_2_7_8_13 (g : Nat) (x0 x1 x2 x3 x4 x5 x6 x7 x8 x9 x10 x11 x12 x13 x14 x15 A B C D : Int) (h : q4 x2 x7 x8 x13 = (A, B, C, D)) (w : World) (hL : Has [.blk g (.cells #[.int .u32 x0, .int .u32 x1, .int .u32 x2, .int .u32 x3, .int .u32 x4, .int .u32 x5, .int .u32 x6, .int .u32 x7, .int .u32 x8, .int .u32 x9, .int .u32 x10, .int .u32 x11, .int .u32 x12, .int .u32 x13, .int .u32 x14, .int .u32 x15] 68 (0, 0))] w) :
    CA Tryd.prog 30 [.pointer (some ⟨g, 2, none⟩), .pointer (some ⟨g, 7, none⟩), .pointer (some ⟨g, 8, none⟩), .pointer (some ⟨g, 13, none⟩)] w (Ret (fun (_ : Unit) => .tuple #[]) [g] (fun _ => [.blk g (.cells #[.int .u32 x0, .int .u32 x1, .int .u32 A, .int .u32 x3, .int .u32 x4, .int .u32 x5, .int .u32 x6, .int .u32 B, .int .u32 C, .int .u32 x9, .int .u32 x10, .int .u32 x11, .int .u32 x12, .int .u32 D, .int .u32 x14, .int .u32 x15] 68 (0, 0))]) (fun _ => True) w) := by
  have e1 : (q4 x2 x7 x8 x13).1 = A := by rw [h]
  have e2 : (q4 x2 x7 x8 x13).2.1 = B := by rw [h]
  have e3 : (q4 x2 x7 x8 x13).2.2.1 = C := by rw [h]
  have e4 : (q4 x2 x7 x8 x13).2.2.2 = D := by rw [h]
  rw [← e1, ← e2, ← e3, ← e4]
  clear e1 e2 e3 e4 h
  refine enter (L := _) (X := [g]) Tryd.func30 rfl Tryd.ntmps30 rfl rfl hL ?_
  repeat (first | refine c_seq ?_ | (refine x_region (id := 0) (some 8) [(0, .n), (1, .n), (2, .q), (3, .n), (4, .n), (5, .q), (6, .n), (7, .n), (8, .b)] _ mixed (by kernel_rfl) (List.Sublist.refl _) ?_; refine xn rfl qm ?_; refine xn rfl qn ?_; refine xq rfl ql ?_; refine xn rfl qm ?_; refine xn rfl qn ?_; refine xq rfl ql ?_; refine xn rfl qadd32 ?_; refine xn rfl qn ?_; refine x_b rfl ?_; (first | refine es1 ?_ | refine es2 ?_ | refine es3 ?_); refine x_k (List.nil_sublist _) ?_; refine x_nil ?_) | (refine x_region (id := 1) (some 10) [(0, .n), (1, .n), (2, .n), (3, .q), (4, .n), (5, .n), (6, .q), (7, .n), (8, .e), (9, .n), (10, .b)] _ mixed (by kernel_rfl) (List.Sublist.refl _) ?_; refine xn rfl qm ?_; refine xn rfl qm ?_; refine xn rfl qn ?_; refine xq rfl ql ?_; refine xn rfl qm ?_; refine xn rfl qn ?_; refine xq rfl ql ?_; refine xn rfl qxor ?_; refine x_e rfl ?_; refine ecp rfl rfl (fun w hC hm hL => by (first | exact rot16c _ _ w | exact rot12c _ _ w | exact rot8c _ _ w | exact rot7c _ _ w)) ?_; intro m' hm'; refine xk ?_; refine xn rfl qn ?_; refine x_b rfl ?_; (first | refine es1 ?_ | refine es2 ?_ | refine es3 ?_); refine x_k (List.nil_sublist _) ?_; refine x_nil ?_) | (refine x_region (id := 2) (some 8) [(0, .n), (1, .n), (2, .q), (3, .n), (4, .n), (5, .q), (6, .n), (7, .n), (8, .b)] _ mixed (by kernel_rfl) (List.Sublist.refl _) ?_; refine xn rfl qm ?_; refine xn rfl qn ?_; refine xq rfl ql ?_; refine xn rfl qm ?_; refine xn rfl qn ?_; refine xq rfl ql ?_; refine xn rfl qadd32 ?_; refine xn rfl qn ?_; refine x_b rfl ?_; (first | refine es1 ?_ | refine es2 ?_ | refine es3 ?_); refine x_k (List.nil_sublist _) ?_; refine x_nil ?_) | (refine x_region (id := 3) (some 10) [(0, .n), (1, .n), (2, .n), (3, .q), (4, .n), (5, .n), (6, .q), (7, .n), (8, .e), (9, .n), (10, .b)] _ mixed (by kernel_rfl) (List.Sublist.refl _) ?_; refine xn rfl qm ?_; refine xn rfl qm ?_; refine xn rfl qn ?_; refine xq rfl ql ?_; refine xn rfl qm ?_; refine xn rfl qn ?_; refine xq rfl ql ?_; refine xn rfl qxor ?_; refine x_e rfl ?_; refine ecp rfl rfl (fun w hC hm hL => by (first | exact rot16c _ _ w | exact rot12c _ _ w | exact rot8c _ _ w | exact rot7c _ _ w)) ?_; intro m' hm'; refine xk ?_; refine xn rfl qn ?_; refine x_b rfl ?_; (first | refine es1 ?_ | refine es2 ?_ | refine es3 ?_); refine x_k (List.nil_sublist _) ?_; refine x_nil ?_) | (refine x_region (id := 4) (some 8) [(0, .n), (1, .n), (2, .q), (3, .n), (4, .n), (5, .q), (6, .n), (7, .n), (8, .b)] _ mixed (by kernel_rfl) (List.Sublist.refl _) ?_; refine xn rfl qm ?_; refine xn rfl qn ?_; refine xq rfl ql ?_; refine xn rfl qm ?_; refine xn rfl qn ?_; refine xq rfl ql ?_; refine xn rfl qadd32 ?_; refine xn rfl qn ?_; refine x_b rfl ?_; (first | refine es1 ?_ | refine es2 ?_ | refine es3 ?_); refine x_k (List.nil_sublist _) ?_; refine x_nil ?_) | (refine x_region (id := 5) (some 10) [(0, .n), (1, .n), (2, .n), (3, .q), (4, .n), (5, .n), (6, .q), (7, .n), (8, .e), (9, .n), (10, .b)] _ mixed (by kernel_rfl) (List.Sublist.refl _) ?_; refine xn rfl qm ?_; refine xn rfl qm ?_; refine xn rfl qn ?_; refine xq rfl ql ?_; refine xn rfl qm ?_; refine xn rfl qn ?_; refine xq rfl ql ?_; refine xn rfl qxor ?_; refine x_e rfl ?_; refine ecp rfl rfl (fun w hC hm hL => by (first | exact rot16c _ _ w | exact rot12c _ _ w | exact rot8c _ _ w | exact rot7c _ _ w)) ?_; intro m' hm'; refine xk ?_; refine xn rfl qn ?_; refine x_b rfl ?_; (first | refine es1 ?_ | refine es2 ?_ | refine es3 ?_); refine x_k (List.nil_sublist _) ?_; refine x_nil ?_) | (refine x_region (id := 6) (some 8) [(0, .n), (1, .n), (2, .q), (3, .n), (4, .n), (5, .q), (6, .n), (7, .n), (8, .b)] _ mixed (by kernel_rfl) (List.Sublist.refl _) ?_; refine xn rfl qm ?_; refine xn rfl qn ?_; refine xq rfl ql ?_; refine xn rfl qm ?_; refine xn rfl qn ?_; refine xq rfl ql ?_; refine xn rfl qadd32 ?_; refine xn rfl qn ?_; refine x_b rfl ?_; (first | refine es1 ?_ | refine es2 ?_ | refine es3 ?_); refine x_k (List.nil_sublist _) ?_; refine x_nil ?_) | (refine x_region (id := 7) (some 10) [(0, .n), (1, .n), (2, .n), (3, .q), (4, .n), (5, .n), (6, .q), (7, .n), (8, .e), (9, .n), (10, .b)] _ mixed (by kernel_rfl) (List.Sublist.refl _) ?_; refine xn rfl qm ?_; refine xn rfl qm ?_; refine xn rfl qn ?_; refine xq rfl ql ?_; refine xn rfl qm ?_; refine xn rfl qn ?_; refine xq rfl ql ?_; refine xn rfl qxor ?_; refine x_e rfl ?_; refine ecp rfl rfl (fun w hC hm hL => by (first | exact rot16c _ _ w | exact rot12c _ _ w | exact rot8c _ _ w | exact rot7c _ _ w)) ?_; intro m' hm'; refine xk ?_; refine xn rfl qn ?_; refine x_b rfl ?_; (first | refine es1 ?_ | refine es2 ?_ | refine es3 ?_); refine x_k (List.nil_sublist _) ?_; refine x_nil ?_) | refine n_then ?_ | refine c_block ?_ | refine c_skip ?_ | refine n_block ?_ | refine c_exit ?_ | refine n_then_exit ?_ | refine n_block_eq ?_ | refine n_block_ne rfl ?_ | refine c_ret ?_ | refine n_then_ret ?_ | refine n_block_ret ?_ | refine c_cond_t rfl ?_ | refine c_cond_f rfl ?_ | refine r_succ ?_ )
  (first | apply r_ret () | apply r_end ()); exact rfl; exact rfl; exact .nil; exact rfl; exact (List.Sublist.refl _); exact (new_blk (.inl (by simp)) new_nil); exact trivial
set_option maxRecDepth 100000 in
set_option maxHeartbeats 1000000 in
theorem rq_2_7_8_13 (x0 x1 x2 x3 x4 x5 x6 x7 x8 x9 x10 x11 x12 x13 x14 x15 A B C D : Int) (h : q4 x2 x7 x8 x13 = (A, B, C, D)) (w : World) :
    CA Tryd.prog 42 [.agg #[.int .u32 x0, .int .u32 x1, .int .u32 x2, .int .u32 x3, .int .u32 x4, .int .u32 x5, .int .u32 x6, .int .u32 x7, .int .u32 x8, .int .u32 x9, .int .u32 x10, .int .u32 x11, .int .u32 x12, .int .u32 x13, .int .u32 x14, .int .u32 x15], .int .i64 2, .int .i64 7, .int .i64 8, .int .i64 13] w (RV (.agg #[.int .u32 x0, .int .u32 x1, .int .u32 A, .int .u32 x3, .int .u32 x4, .int .u32 x5, .int .u32 x6, .int .u32 B, .int .u32 C, .int .u32 x9, .int .u32 x10, .int .u32 x11, .int .u32 x12, .int .u32 D, .int .u32 x14, .int .u32 x15]) w) := by
  have e1 : (q4 x2 x7 x8 x13).1 = A := by rw [h]
  have e2 : (q4 x2 x7 x8 x13).2.1 = B := by rw [h]
  have e3 : (q4 x2 x7 x8 x13).2.2.1 = C := by rw [h]
  have e4 : (q4 x2 x7 x8 x13).2.2.2 = D := by rw [h]
  rw [← e1, ← e2, ← e3, ← e4]
  clear e1 e2 e3 e4 h
  refine enter (L := []) (X := []) Tryd.func42 rfl Tryd.ntmps42 rfl rfl (Has.nil _) ?_
  repeat (first | refine c_seq ?_ | (refine c_region (id := 0) ?_; refine se ?_; refine eb ?_; refine se ?_; refine ea ?_; refine l_nil ?_) | (refine x_region (id := 1) (some 9) [(0, .n), (1, .n), (2, .n), (3, .q), (4, .n), (5, .n), (6, .q), (7, .n), (8, .n), (9, .b)] _ mixed (by kernel_rfl) (List.Sublist.refl _) ?_; refine xn rfl qm ?_; refine xn rfl qm ?_; refine xn rfl qia ?_; refine xq rfl ql ?_; refine xn rfl qm ?_; refine xn rfl qia ?_; refine xq rfl ql ?_; refine xn rfl qadd32 ?_; refine xn rfl qia ?_; refine x_b rfl ?_; (first | refine es1 ?_ | refine es2 ?_ | refine es3 ?_); refine x_k (List.nil_sublist _) ?_; refine x_nil ?_) | (refine x_region (id := 2) (some 10) [(0, .n), (1, .n), (2, .n), (3, .q), (4, .n), (5, .n), (6, .q), (7, .n), (8, .e), (9, .n), (10, .b)] _ mixed (by kernel_rfl) (List.Sublist.refl _) ?_; refine xn rfl qm ?_; refine xn rfl qm ?_; refine xn rfl qia ?_; refine xq rfl ql ?_; refine xn rfl qm ?_; refine xn rfl qia ?_; refine xq rfl ql ?_; refine xn rfl qxor ?_; refine x_e rfl ?_; refine ecp rfl rfl (fun w hC hm hL => by (first | exact left16c _ _ w | exact left12c _ _ w | exact left8c _ _ w | exact left7c _ _ w)) ?_; intro m' hm'; refine xk ?_; refine xn rfl qia ?_; refine x_b rfl ?_; (first | refine es1 ?_ | refine es2 ?_ | refine es3 ?_); refine x_k (List.nil_sublist _) ?_; refine x_nil ?_) | (refine x_region (id := 3) (some 9) [(0, .n), (1, .n), (2, .n), (3, .q), (4, .n), (5, .n), (6, .q), (7, .n), (8, .n), (9, .b)] _ mixed (by kernel_rfl) (List.Sublist.refl _) ?_; refine xn rfl qm ?_; refine xn rfl qm ?_; refine xn rfl qia ?_; refine xq rfl ql ?_; refine xn rfl qm ?_; refine xn rfl qia ?_; refine xq rfl ql ?_; refine xn rfl qadd32 ?_; refine xn rfl qia ?_; refine x_b rfl ?_; (first | refine es1 ?_ | refine es2 ?_ | refine es3 ?_); refine x_k (List.nil_sublist _) ?_; refine x_nil ?_) | (refine x_region (id := 4) (some 10) [(0, .n), (1, .n), (2, .n), (3, .q), (4, .n), (5, .n), (6, .q), (7, .n), (8, .e), (9, .n), (10, .b)] _ mixed (by kernel_rfl) (List.Sublist.refl _) ?_; refine xn rfl qm ?_; refine xn rfl qm ?_; refine xn rfl qia ?_; refine xq rfl ql ?_; refine xn rfl qm ?_; refine xn rfl qia ?_; refine xq rfl ql ?_; refine xn rfl qxor ?_; refine x_e rfl ?_; refine ecp rfl rfl (fun w hC hm hL => by (first | exact left16c _ _ w | exact left12c _ _ w | exact left8c _ _ w | exact left7c _ _ w)) ?_; intro m' hm'; refine xk ?_; refine xn rfl qia ?_; refine x_b rfl ?_; (first | refine es1 ?_ | refine es2 ?_ | refine es3 ?_); refine x_k (List.nil_sublist _) ?_; refine x_nil ?_) | (refine x_region (id := 5) (some 9) [(0, .n), (1, .n), (2, .n), (3, .q), (4, .n), (5, .n), (6, .q), (7, .n), (8, .n), (9, .b)] _ mixed (by kernel_rfl) (List.Sublist.refl _) ?_; refine xn rfl qm ?_; refine xn rfl qm ?_; refine xn rfl qia ?_; refine xq rfl ql ?_; refine xn rfl qm ?_; refine xn rfl qia ?_; refine xq rfl ql ?_; refine xn rfl qadd32 ?_; refine xn rfl qia ?_; refine x_b rfl ?_; (first | refine es1 ?_ | refine es2 ?_ | refine es3 ?_); refine x_k (List.nil_sublist _) ?_; refine x_nil ?_) | (refine x_region (id := 6) (some 10) [(0, .n), (1, .n), (2, .n), (3, .q), (4, .n), (5, .n), (6, .q), (7, .n), (8, .e), (9, .n), (10, .b)] _ mixed (by kernel_rfl) (List.Sublist.refl _) ?_; refine xn rfl qm ?_; refine xn rfl qm ?_; refine xn rfl qia ?_; refine xq rfl ql ?_; refine xn rfl qm ?_; refine xn rfl qia ?_; refine xq rfl ql ?_; refine xn rfl qxor ?_; refine x_e rfl ?_; refine ecp rfl rfl (fun w hC hm hL => by (first | exact left16c _ _ w | exact left12c _ _ w | exact left8c _ _ w | exact left7c _ _ w)) ?_; intro m' hm'; refine xk ?_; refine xn rfl qia ?_; refine x_b rfl ?_; (first | refine es1 ?_ | refine es2 ?_ | refine es3 ?_); refine x_k (List.nil_sublist _) ?_; refine x_nil ?_) | (refine x_region (id := 7) (some 9) [(0, .n), (1, .n), (2, .n), (3, .q), (4, .n), (5, .n), (6, .q), (7, .n), (8, .n), (9, .b)] _ mixed (by kernel_rfl) (List.Sublist.refl _) ?_; refine xn rfl qm ?_; refine xn rfl qm ?_; refine xn rfl qia ?_; refine xq rfl ql ?_; refine xn rfl qm ?_; refine xn rfl qia ?_; refine xq rfl ql ?_; refine xn rfl qadd32 ?_; refine xn rfl qia ?_; refine x_b rfl ?_; (first | refine es1 ?_ | refine es2 ?_ | refine es3 ?_); refine x_k (List.nil_sublist _) ?_; refine x_nil ?_) | (refine x_region (id := 8) (some 10) [(0, .n), (1, .n), (2, .n), (3, .q), (4, .n), (5, .n), (6, .q), (7, .n), (8, .e), (9, .n), (10, .b)] _ mixed (by kernel_rfl) (List.Sublist.refl _) ?_; refine xn rfl qm ?_; refine xn rfl qm ?_; refine xn rfl qia ?_; refine xq rfl ql ?_; refine xn rfl qm ?_; refine xn rfl qia ?_; refine xq rfl ql ?_; refine xn rfl qxor ?_; refine x_e rfl ?_; refine ecp rfl rfl (fun w hC hm hL => by (first | exact left16c _ _ w | exact left12c _ _ w | exact left8c _ _ w | exact left7c _ _ w)) ?_; intro m' hm'; refine xk ?_; refine xn rfl qia ?_; refine x_b rfl ?_; (first | refine es1 ?_ | refine es2 ?_ | refine es3 ?_); refine x_k (List.nil_sublist _) ?_; refine x_nil ?_) | (refine c_region (id := 9) ?_; refine sq (by first | exact qlb | exact qlr) ?_; refine se ?_; refine esa ?_; refine l_nil ?_) | refine n_then ?_ | refine c_block ?_ | refine c_skip ?_ | refine n_block ?_ | refine c_exit ?_ | refine n_then_exit ?_ | refine n_block_eq ?_ | refine n_block_ne rfl ?_ | refine c_ret ?_ | refine n_then_ret ?_ | refine n_block_ret ?_ | refine c_cond_t rfl ?_ | refine c_cond_f rfl ?_ | refine r_succ ?_ )
  (first | apply r_ret () | apply r_end ()); exact rfl; exact rfl; exact (.row rfl (by (repeat (first | exact List.Mem.head _ | apply List.Mem.tail))) (by rfl) .nil); exact rfl; exact (List.nil_sublist _); exact new_nil; exact trivial
set_option maxRecDepth 100000 in
set_option maxHeartbeats 1000000 in
theorem pq_3_4_9_14 (g : Nat) (x0 x1 x2 x3 x4 x5 x6 x7 x8 x9 x10 x11 x12 x13 x14 x15 A B C D : Int) (h : q4 x3 x4 x9 x14 = (A, B, C, D)) (w : World) (hL : Has [.blk g (.cells #[.int .u32 x0, .int .u32 x1, .int .u32 x2, .int .u32 x3, .int .u32 x4, .int .u32 x5, .int .u32 x6, .int .u32 x7, .int .u32 x8, .int .u32 x9, .int .u32 x10, .int .u32 x11, .int .u32 x12, .int .u32 x13, .int .u32 x14, .int .u32 x15] 68 (0, 0))] w) :
    CA Tryd.prog 30 [.pointer (some ⟨g, 3, none⟩), .pointer (some ⟨g, 4, none⟩), .pointer (some ⟨g, 9, none⟩), .pointer (some ⟨g, 14, none⟩)] w (Ret (fun (_ : Unit) => .tuple #[]) [g] (fun _ => [.blk g (.cells #[.int .u32 x0, .int .u32 x1, .int .u32 x2, .int .u32 A, .int .u32 B, .int .u32 x5, .int .u32 x6, .int .u32 x7, .int .u32 x8, .int .u32 C, .int .u32 x10, .int .u32 x11, .int .u32 x12, .int .u32 x13, .int .u32 D, .int .u32 x15] 68 (0, 0))]) (fun _ => True) w) := by
  have e1 : (q4 x3 x4 x9 x14).1 = A := by rw [h]
  have e2 : (q4 x3 x4 x9 x14).2.1 = B := by rw [h]
  have e3 : (q4 x3 x4 x9 x14).2.2.1 = C := by rw [h]
  have e4 : (q4 x3 x4 x9 x14).2.2.2 = D := by rw [h]
  rw [← e1, ← e2, ← e3, ← e4]
  clear e1 e2 e3 e4 h
  refine enter (L := _) (X := [g]) Tryd.func30 rfl Tryd.ntmps30 rfl rfl hL ?_
  repeat (first | refine c_seq ?_ | (refine x_region (id := 0) (some 8) [(0, .n), (1, .n), (2, .q), (3, .n), (4, .n), (5, .q), (6, .n), (7, .n), (8, .b)] _ mixed (by kernel_rfl) (List.Sublist.refl _) ?_; refine xn rfl qm ?_; refine xn rfl qn ?_; refine xq rfl ql ?_; refine xn rfl qm ?_; refine xn rfl qn ?_; refine xq rfl ql ?_; refine xn rfl qadd32 ?_; refine xn rfl qn ?_; refine x_b rfl ?_; (first | refine es1 ?_ | refine es2 ?_ | refine es3 ?_); refine x_k (List.nil_sublist _) ?_; refine x_nil ?_) | (refine x_region (id := 1) (some 10) [(0, .n), (1, .n), (2, .n), (3, .q), (4, .n), (5, .n), (6, .q), (7, .n), (8, .e), (9, .n), (10, .b)] _ mixed (by kernel_rfl) (List.Sublist.refl _) ?_; refine xn rfl qm ?_; refine xn rfl qm ?_; refine xn rfl qn ?_; refine xq rfl ql ?_; refine xn rfl qm ?_; refine xn rfl qn ?_; refine xq rfl ql ?_; refine xn rfl qxor ?_; refine x_e rfl ?_; refine ecp rfl rfl (fun w hC hm hL => by (first | exact rot16c _ _ w | exact rot12c _ _ w | exact rot8c _ _ w | exact rot7c _ _ w)) ?_; intro m' hm'; refine xk ?_; refine xn rfl qn ?_; refine x_b rfl ?_; (first | refine es1 ?_ | refine es2 ?_ | refine es3 ?_); refine x_k (List.nil_sublist _) ?_; refine x_nil ?_) | (refine x_region (id := 2) (some 8) [(0, .n), (1, .n), (2, .q), (3, .n), (4, .n), (5, .q), (6, .n), (7, .n), (8, .b)] _ mixed (by kernel_rfl) (List.Sublist.refl _) ?_; refine xn rfl qm ?_; refine xn rfl qn ?_; refine xq rfl ql ?_; refine xn rfl qm ?_; refine xn rfl qn ?_; refine xq rfl ql ?_; refine xn rfl qadd32 ?_; refine xn rfl qn ?_; refine x_b rfl ?_; (first | refine es1 ?_ | refine es2 ?_ | refine es3 ?_); refine x_k (List.nil_sublist _) ?_; refine x_nil ?_) | (refine x_region (id := 3) (some 10) [(0, .n), (1, .n), (2, .n), (3, .q), (4, .n), (5, .n), (6, .q), (7, .n), (8, .e), (9, .n), (10, .b)] _ mixed (by kernel_rfl) (List.Sublist.refl _) ?_; refine xn rfl qm ?_; refine xn rfl qm ?_; refine xn rfl qn ?_; refine xq rfl ql ?_; refine xn rfl qm ?_; refine xn rfl qn ?_; refine xq rfl ql ?_; refine xn rfl qxor ?_; refine x_e rfl ?_; refine ecp rfl rfl (fun w hC hm hL => by (first | exact rot16c _ _ w | exact rot12c _ _ w | exact rot8c _ _ w | exact rot7c _ _ w)) ?_; intro m' hm'; refine xk ?_; refine xn rfl qn ?_; refine x_b rfl ?_; (first | refine es1 ?_ | refine es2 ?_ | refine es3 ?_); refine x_k (List.nil_sublist _) ?_; refine x_nil ?_) | (refine x_region (id := 4) (some 8) [(0, .n), (1, .n), (2, .q), (3, .n), (4, .n), (5, .q), (6, .n), (7, .n), (8, .b)] _ mixed (by kernel_rfl) (List.Sublist.refl _) ?_; refine xn rfl qm ?_; refine xn rfl qn ?_; refine xq rfl ql ?_; refine xn rfl qm ?_; refine xn rfl qn ?_; refine xq rfl ql ?_; refine xn rfl qadd32 ?_; refine xn rfl qn ?_; refine x_b rfl ?_; (first | refine es1 ?_ | refine es2 ?_ | refine es3 ?_); refine x_k (List.nil_sublist _) ?_; refine x_nil ?_) | (refine x_region (id := 5) (some 10) [(0, .n), (1, .n), (2, .n), (3, .q), (4, .n), (5, .n), (6, .q), (7, .n), (8, .e), (9, .n), (10, .b)] _ mixed (by kernel_rfl) (List.Sublist.refl _) ?_; refine xn rfl qm ?_; refine xn rfl qm ?_; refine xn rfl qn ?_; refine xq rfl ql ?_; refine xn rfl qm ?_; refine xn rfl qn ?_; refine xq rfl ql ?_; refine xn rfl qxor ?_; refine x_e rfl ?_; refine ecp rfl rfl (fun w hC hm hL => by (first | exact rot16c _ _ w | exact rot12c _ _ w | exact rot8c _ _ w | exact rot7c _ _ w)) ?_; intro m' hm'; refine xk ?_; refine xn rfl qn ?_; refine x_b rfl ?_; (first | refine es1 ?_ | refine es2 ?_ | refine es3 ?_); refine x_k (List.nil_sublist _) ?_; refine x_nil ?_) | (refine x_region (id := 6) (some 8) [(0, .n), (1, .n), (2, .q), (3, .n), (4, .n), (5, .q), (6, .n), (7, .n), (8, .b)] _ mixed (by kernel_rfl) (List.Sublist.refl _) ?_; refine xn rfl qm ?_; refine xn rfl qn ?_; refine xq rfl ql ?_; refine xn rfl qm ?_; refine xn rfl qn ?_; refine xq rfl ql ?_; refine xn rfl qadd32 ?_; refine xn rfl qn ?_; refine x_b rfl ?_; (first | refine es1 ?_ | refine es2 ?_ | refine es3 ?_); refine x_k (List.nil_sublist _) ?_; refine x_nil ?_) | (refine x_region (id := 7) (some 10) [(0, .n), (1, .n), (2, .n), (3, .q), (4, .n), (5, .n), (6, .q), (7, .n), (8, .e), (9, .n), (10, .b)] _ mixed (by kernel_rfl) (List.Sublist.refl _) ?_; refine xn rfl qm ?_; refine xn rfl qm ?_; refine xn rfl qn ?_; refine xq rfl ql ?_; refine xn rfl qm ?_; refine xn rfl qn ?_; refine xq rfl ql ?_; refine xn rfl qxor ?_; refine x_e rfl ?_; refine ecp rfl rfl (fun w hC hm hL => by (first | exact rot16c _ _ w | exact rot12c _ _ w | exact rot8c _ _ w | exact rot7c _ _ w)) ?_; intro m' hm'; refine xk ?_; refine xn rfl qn ?_; refine x_b rfl ?_; (first | refine es1 ?_ | refine es2 ?_ | refine es3 ?_); refine x_k (List.nil_sublist _) ?_; refine x_nil ?_) | refine n_then ?_ | refine c_block ?_ | refine c_skip ?_ | refine n_block ?_ | refine c_exit ?_ | refine n_then_exit ?_ | refine n_block_eq ?_ | refine n_block_ne rfl ?_ | refine c_ret ?_ | refine n_then_ret ?_ | refine n_block_ret ?_ | refine c_cond_t rfl ?_ | refine c_cond_f rfl ?_ | refine r_succ ?_ )
  (first | apply r_ret () | apply r_end ()); exact rfl; exact rfl; exact .nil; exact rfl; exact (List.Sublist.refl _); exact (new_blk (.inl (by simp)) new_nil); exact trivial
set_option maxRecDepth 100000 in
set_option maxHeartbeats 1000000 in
theorem rq_3_4_9_14 (x0 x1 x2 x3 x4 x5 x6 x7 x8 x9 x10 x11 x12 x13 x14 x15 A B C D : Int) (h : q4 x3 x4 x9 x14 = (A, B, C, D)) (w : World) :
    CA Tryd.prog 42 [.agg #[.int .u32 x0, .int .u32 x1, .int .u32 x2, .int .u32 x3, .int .u32 x4, .int .u32 x5, .int .u32 x6, .int .u32 x7, .int .u32 x8, .int .u32 x9, .int .u32 x10, .int .u32 x11, .int .u32 x12, .int .u32 x13, .int .u32 x14, .int .u32 x15], .int .i64 3, .int .i64 4, .int .i64 9, .int .i64 14] w (RV (.agg #[.int .u32 x0, .int .u32 x1, .int .u32 x2, .int .u32 A, .int .u32 B, .int .u32 x5, .int .u32 x6, .int .u32 x7, .int .u32 x8, .int .u32 C, .int .u32 x10, .int .u32 x11, .int .u32 x12, .int .u32 x13, .int .u32 D, .int .u32 x15]) w) := by
  have e1 : (q4 x3 x4 x9 x14).1 = A := by rw [h]
  have e2 : (q4 x3 x4 x9 x14).2.1 = B := by rw [h]
  have e3 : (q4 x3 x4 x9 x14).2.2.1 = C := by rw [h]
  have e4 : (q4 x3 x4 x9 x14).2.2.2 = D := by rw [h]
  rw [← e1, ← e2, ← e3, ← e4]
  clear e1 e2 e3 e4 h
  refine enter (L := []) (X := []) Tryd.func42 rfl Tryd.ntmps42 rfl rfl (Has.nil _) ?_
  repeat (first | refine c_seq ?_ | (refine c_region (id := 0) ?_; refine se ?_; refine eb ?_; refine se ?_; refine ea ?_; refine l_nil ?_) | (refine x_region (id := 1) (some 9) [(0, .n), (1, .n), (2, .n), (3, .q), (4, .n), (5, .n), (6, .q), (7, .n), (8, .n), (9, .b)] _ mixed (by kernel_rfl) (List.Sublist.refl _) ?_; refine xn rfl qm ?_; refine xn rfl qm ?_; refine xn rfl qia ?_; refine xq rfl ql ?_; refine xn rfl qm ?_; refine xn rfl qia ?_; refine xq rfl ql ?_; refine xn rfl qadd32 ?_; refine xn rfl qia ?_; refine x_b rfl ?_; (first | refine es1 ?_ | refine es2 ?_ | refine es3 ?_); refine x_k (List.nil_sublist _) ?_; refine x_nil ?_) | (refine x_region (id := 2) (some 10) [(0, .n), (1, .n), (2, .n), (3, .q), (4, .n), (5, .n), (6, .q), (7, .n), (8, .e), (9, .n), (10, .b)] _ mixed (by kernel_rfl) (List.Sublist.refl _) ?_; refine xn rfl qm ?_; refine xn rfl qm ?_; refine xn rfl qia ?_; refine xq rfl ql ?_; refine xn rfl qm ?_; refine xn rfl qia ?_; refine xq rfl ql ?_; refine xn rfl qxor ?_; refine x_e rfl ?_; refine ecp rfl rfl (fun w hC hm hL => by (first | exact left16c _ _ w | exact left12c _ _ w | exact left8c _ _ w | exact left7c _ _ w)) ?_; intro m' hm'; refine xk ?_; refine xn rfl qia ?_; refine x_b rfl ?_; (first | refine es1 ?_ | refine es2 ?_ | refine es3 ?_); refine x_k (List.nil_sublist _) ?_; refine x_nil ?_) | (refine x_region (id := 3) (some 9) [(0, .n), (1, .n), (2, .n), (3, .q), (4, .n), (5, .n), (6, .q), (7, .n), (8, .n), (9, .b)] _ mixed (by kernel_rfl) (List.Sublist.refl _) ?_; refine xn rfl qm ?_; refine xn rfl qm ?_; refine xn rfl qia ?_; refine xq rfl ql ?_; refine xn rfl qm ?_; refine xn rfl qia ?_; refine xq rfl ql ?_; refine xn rfl qadd32 ?_; refine xn rfl qia ?_; refine x_b rfl ?_; (first | refine es1 ?_ | refine es2 ?_ | refine es3 ?_); refine x_k (List.nil_sublist _) ?_; refine x_nil ?_) | (refine x_region (id := 4) (some 10) [(0, .n), (1, .n), (2, .n), (3, .q), (4, .n), (5, .n), (6, .q), (7, .n), (8, .e), (9, .n), (10, .b)] _ mixed (by kernel_rfl) (List.Sublist.refl _) ?_; refine xn rfl qm ?_; refine xn rfl qm ?_; refine xn rfl qia ?_; refine xq rfl ql ?_; refine xn rfl qm ?_; refine xn rfl qia ?_; refine xq rfl ql ?_; refine xn rfl qxor ?_; refine x_e rfl ?_; refine ecp rfl rfl (fun w hC hm hL => by (first | exact left16c _ _ w | exact left12c _ _ w | exact left8c _ _ w | exact left7c _ _ w)) ?_; intro m' hm'; refine xk ?_; refine xn rfl qia ?_; refine x_b rfl ?_; (first | refine es1 ?_ | refine es2 ?_ | refine es3 ?_); refine x_k (List.nil_sublist _) ?_; refine x_nil ?_) | (refine x_region (id := 5) (some 9) [(0, .n), (1, .n), (2, .n), (3, .q), (4, .n), (5, .n), (6, .q), (7, .n), (8, .n), (9, .b)] _ mixed (by kernel_rfl) (List.Sublist.refl _) ?_; refine xn rfl qm ?_; refine xn rfl qm ?_; refine xn rfl qia ?_; refine xq rfl ql ?_; refine xn rfl qm ?_; refine xn rfl qia ?_; refine xq rfl ql ?_; refine xn rfl qadd32 ?_; refine xn rfl qia ?_; refine x_b rfl ?_; (first | refine es1 ?_ | refine es2 ?_ | refine es3 ?_); refine x_k (List.nil_sublist _) ?_; refine x_nil ?_) | (refine x_region (id := 6) (some 10) [(0, .n), (1, .n), (2, .n), (3, .q), (4, .n), (5, .n), (6, .q), (7, .n), (8, .e), (9, .n), (10, .b)] _ mixed (by kernel_rfl) (List.Sublist.refl _) ?_; refine xn rfl qm ?_; refine xn rfl qm ?_; refine xn rfl qia ?_; refine xq rfl ql ?_; refine xn rfl qm ?_; refine xn rfl qia ?_; refine xq rfl ql ?_; refine xn rfl qxor ?_; refine x_e rfl ?_; refine ecp rfl rfl (fun w hC hm hL => by (first | exact left16c _ _ w | exact left12c _ _ w | exact left8c _ _ w | exact left7c _ _ w)) ?_; intro m' hm'; refine xk ?_; refine xn rfl qia ?_; refine x_b rfl ?_; (first | refine es1 ?_ | refine es2 ?_ | refine es3 ?_); refine x_k (List.nil_sublist _) ?_; refine x_nil ?_) | (refine x_region (id := 7) (some 9) [(0, .n), (1, .n), (2, .n), (3, .q), (4, .n), (5, .n), (6, .q), (7, .n), (8, .n), (9, .b)] _ mixed (by kernel_rfl) (List.Sublist.refl _) ?_; refine xn rfl qm ?_; refine xn rfl qm ?_; refine xn rfl qia ?_; refine xq rfl ql ?_; refine xn rfl qm ?_; refine xn rfl qia ?_; refine xq rfl ql ?_; refine xn rfl qadd32 ?_; refine xn rfl qia ?_; refine x_b rfl ?_; (first | refine es1 ?_ | refine es2 ?_ | refine es3 ?_); refine x_k (List.nil_sublist _) ?_; refine x_nil ?_) | (refine x_region (id := 8) (some 10) [(0, .n), (1, .n), (2, .n), (3, .q), (4, .n), (5, .n), (6, .q), (7, .n), (8, .e), (9, .n), (10, .b)] _ mixed (by kernel_rfl) (List.Sublist.refl _) ?_; refine xn rfl qm ?_; refine xn rfl qm ?_; refine xn rfl qia ?_; refine xq rfl ql ?_; refine xn rfl qm ?_; refine xn rfl qia ?_; refine xq rfl ql ?_; refine xn rfl qxor ?_; refine x_e rfl ?_; refine ecp rfl rfl (fun w hC hm hL => by (first | exact left16c _ _ w | exact left12c _ _ w | exact left8c _ _ w | exact left7c _ _ w)) ?_; intro m' hm'; refine xk ?_; refine xn rfl qia ?_; refine x_b rfl ?_; (first | refine es1 ?_ | refine es2 ?_ | refine es3 ?_); refine x_k (List.nil_sublist _) ?_; refine x_nil ?_) | (refine c_region (id := 9) ?_; refine sq (by first | exact qlb | exact qlr) ?_; refine se ?_; refine esa ?_; refine l_nil ?_) | refine n_then ?_ | refine c_block ?_ | refine c_skip ?_ | refine n_block ?_ | refine c_exit ?_ | refine n_then_exit ?_ | refine n_block_eq ?_ | refine n_block_ne rfl ?_ | refine c_ret ?_ | refine n_then_ret ?_ | refine n_block_ret ?_ | refine c_cond_t rfl ?_ | refine c_cond_f rfl ?_ | refine r_succ ?_ )
  (first | apply r_ret () | apply r_end ()); exact rfl; exact rfl; exact (.row rfl (by (repeat (first | exact List.Mem.head _ | apply List.Mem.tail))) (by rfl) .nil); exact rfl; exact (List.nil_sublist _); exact new_nil; exact trivial
end Go.Proofs.YteopejjlhmghbaaDoor
