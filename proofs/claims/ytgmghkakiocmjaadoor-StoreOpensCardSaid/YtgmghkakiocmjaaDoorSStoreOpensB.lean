/- StoreOpens: what it needs, part 2. -/
import Derived.Test.YtgmghkakiocmjaaDoorSStoreOpensA
namespace Go.Proofs.YtgmghkakiocmjaaDoor
open Go
instance : UT Tryd.prog 0 (TypeDesc.tuple #[]) := ⟨Tryd.underlying0⟩
instance : SzT Tryd.prog 0 1 := ⟨by kernel_rfl⟩
instance : ByT Tryd.prog 0 0 := ⟨by kernel_rfl⟩
instance : FlT Tryd.prog 0 := ⟨by kernel_rfl⟩
instance : UT Tryd.prog 1 (TypeDesc.func #[] #[] false) := ⟨Tryd.underlying1⟩
instance : SzT Tryd.prog 1 1 := ⟨by kernel_rfl⟩
instance : ByT Tryd.prog 1 8 := ⟨by kernel_rfl⟩
instance : ZrT Tryd.prog 1 (#[Value.nilFunc]) := ⟨by kernel_rfl⟩
instance : FlT Tryd.prog 1 := ⟨by kernel_rfl⟩
instance : UT Tryd.prog 2 (TypeDesc.int IntKind.i64) := ⟨Tryd.underlying2⟩
instance : SzT Tryd.prog 2 1 := ⟨by kernel_rfl⟩
instance : ByT Tryd.prog 2 8 := ⟨by kernel_rfl⟩
instance : ZrT Tryd.prog 2 (#[Value.int .i64 0]) := ⟨by kernel_rfl⟩
instance : FlT Tryd.prog 2 := ⟨by kernel_rfl⟩
instance : UT Tryd.prog 3 (TypeDesc.int IntKind.i64) := ⟨Tryd.underlying3⟩
instance : SzT Tryd.prog 3 1 := ⟨by kernel_rfl⟩
instance : ByT Tryd.prog 3 8 := ⟨by kernel_rfl⟩
instance : ZrT Tryd.prog 3 (#[Value.int .i64 0]) := ⟨by kernel_rfl⟩
instance : FlT Tryd.prog 3 := ⟨by kernel_rfl⟩
instance : UT Tryd.prog 4 TypeDesc.bool := ⟨Tryd.underlying4⟩
instance : SzT Tryd.prog 4 1 := ⟨by kernel_rfl⟩
instance : ByT Tryd.prog 4 1 := ⟨by kernel_rfl⟩
instance : ZrT Tryd.prog 4 (#[Value.bool false]) := ⟨by kernel_rfl⟩
instance : FlT Tryd.prog 4 := ⟨by kernel_rfl⟩
instance : UT Tryd.prog 5 (TypeDesc.int IntKind.u8) := ⟨Tryd.underlying5⟩
instance : SzT Tryd.prog 5 1 := ⟨by kernel_rfl⟩
instance : ByT Tryd.prog 5 1 := ⟨by kernel_rfl⟩
instance : ZrT Tryd.prog 5 (#[Value.int .u8 0]) := ⟨by kernel_rfl⟩
instance : FlT Tryd.prog 5 := ⟨by kernel_rfl⟩
instance : UT Tryd.prog 6 (TypeDesc.int IntKind.u8) := ⟨Tryd.underlying6⟩
instance : SzT Tryd.prog 6 1 := ⟨by kernel_rfl⟩
instance : ByT Tryd.prog 6 1 := ⟨by kernel_rfl⟩
instance : ZrT Tryd.prog 6 (#[Value.int .u8 0]) := ⟨by kernel_rfl⟩
instance : FlT Tryd.prog 6 := ⟨by kernel_rfl⟩
instance : UT Tryd.prog 7 (TypeDesc.struct #[{ name := "x", type := 2, offset := 0, embedded := false, tag := "", pkgPath := "runtime", byteOffset := 0 }, { name := "y", type := 3, offset := 1, embedded := false, tag := "", pkgPath := "runtime", byteOffset := 8 }, { name := "signed", type := 4, offset := 2, embedded := false, tag := "", pkgPath := "runtime", byteOffset := 16 }, { name := "code", type := 6, offset := 3, embedded := false, tag := "", pkgPath := "runtime", byteOffset := 17 }]) := ⟨Tryd.underlying7⟩
instance : SzT Tryd.prog 7 4 := ⟨by kernel_rfl⟩
instance : ByT Tryd.prog 7 24 := ⟨by kernel_rfl⟩
instance : ZrT Tryd.prog 7 (#[Value.int .i64 0, Value.int .i64 0, Value.bool false, Value.int .u8 0]) := ⟨by kernel_rfl⟩
instance : RwT Tryd.prog 7 4 := ⟨by kernel_rfl⟩
instance : PlT Tryd.prog 7 [(0, 1), (1, 1), (2, 1), (3, 1)] := ⟨by kernel_rfl⟩
instance : UT Tryd.prog 8 (TypeDesc.struct #[{ name := "x", type := 2, offset := 0, embedded := false, tag := "", pkgPath := "runtime", byteOffset := 0 }, { name := "y", type := 3, offset := 1, embedded := false, tag := "", pkgPath := "runtime", byteOffset := 8 }, { name := "signed", type := 4, offset := 2, embedded := false, tag := "", pkgPath := "runtime", byteOffset := 16 }, { name := "code", type := 6, offset := 3, embedded := false, tag := "", pkgPath := "runtime", byteOffset := 17 }]) := ⟨Tryd.underlying8⟩
instance : SzT Tryd.prog 8 4 := ⟨by kernel_rfl⟩
instance : ByT Tryd.prog 8 24 := ⟨by kernel_rfl⟩
instance : ZrT Tryd.prog 8 (#[Value.int .i64 0, Value.int .i64 0, Value.bool false, Value.int .u8 0]) := ⟨by kernel_rfl⟩
instance : RwT Tryd.prog 8 4 := ⟨by kernel_rfl⟩
instance : PlT Tryd.prog 8 [(0, 1), (1, 1), (2, 1), (3, 1)] := ⟨by kernel_rfl⟩
instance : UT Tryd.prog 9 TypeDesc.string := ⟨Tryd.underlying9⟩
instance : SzT Tryd.prog 9 1 := ⟨by kernel_rfl⟩
instance : ByT Tryd.prog 9 16 := ⟨by kernel_rfl⟩
instance : ZrT Tryd.prog 9 (#[Value.string ByteArray.empty]) := ⟨by kernel_rfl⟩
instance : FlT Tryd.prog 9 := ⟨by kernel_rfl⟩
instance : UT Tryd.prog 10 TypeDesc.string := ⟨Tryd.underlying10⟩
instance : SzT Tryd.prog 10 1 := ⟨by kernel_rfl⟩
instance : ByT Tryd.prog 10 16 := ⟨by kernel_rfl⟩
instance : ZrT Tryd.prog 10 (#[Value.string ByteArray.empty]) := ⟨by kernel_rfl⟩
instance : FlT Tryd.prog 10 := ⟨by kernel_rfl⟩
instance : UT Tryd.prog 11 TypeDesc.string := ⟨Tryd.underlying11⟩
instance : SzT Tryd.prog 11 1 := ⟨by kernel_rfl⟩
instance : ByT Tryd.prog 11 16 := ⟨by kernel_rfl⟩
instance : ZrT Tryd.prog 11 (#[Value.string ByteArray.empty]) := ⟨by kernel_rfl⟩
instance : FlT Tryd.prog 11 := ⟨by kernel_rfl⟩
instance : UT Tryd.prog 12 (TypeDesc.int IntKind.u64) := ⟨Tryd.underlying12⟩
instance : SzT Tryd.prog 12 1 := ⟨by kernel_rfl⟩
instance : ByT Tryd.prog 12 8 := ⟨by kernel_rfl⟩
instance : ZrT Tryd.prog 12 (#[Value.int .u64 0]) := ⟨by kernel_rfl⟩
instance : FlT Tryd.prog 12 := ⟨by kernel_rfl⟩
instance : UT Tryd.prog 13 (TypeDesc.struct #[{ name := "msg", type := 9, offset := 0, embedded := false, tag := "", pkgPath := "runtime", byteOffset := 0 }, { name := "addr", type := 12, offset := 1, embedded := false, tag := "", pkgPath := "runtime", byteOffset := 16 }]) := ⟨Tryd.underlying13⟩
instance : SzT Tryd.prog 13 2 := ⟨by kernel_rfl⟩
instance : ByT Tryd.prog 13 24 := ⟨by kernel_rfl⟩
instance : ZrT Tryd.prog 13 (#[Value.string ByteArray.empty, Value.int .u64 0]) := ⟨by kernel_rfl⟩
instance : RwT Tryd.prog 13 2 := ⟨by kernel_rfl⟩
instance : PlT Tryd.prog 13 [(0, 1), (1, 1)] := ⟨by kernel_rfl⟩
instance : UT Tryd.prog 14 (TypeDesc.struct #[{ name := "msg", type := 9, offset := 0, embedded := false, tag := "", pkgPath := "runtime", byteOffset := 0 }, { name := "addr", type := 12, offset := 1, embedded := false, tag := "", pkgPath := "runtime", byteOffset := 16 }]) := ⟨Tryd.underlying14⟩
instance : SzT Tryd.prog 14 2 := ⟨by kernel_rfl⟩
instance : ByT Tryd.prog 14 24 := ⟨by kernel_rfl⟩
instance : ZrT Tryd.prog 14 (#[Value.string ByteArray.empty, Value.int .u64 0]) := ⟨by kernel_rfl⟩
instance : RwT Tryd.prog 14 2 := ⟨by kernel_rfl⟩
instance : PlT Tryd.prog 14 [(0, 1), (1, 1)] := ⟨by kernel_rfl⟩
instance : UT Tryd.prog 15 (TypeDesc.pointer 136) := ⟨Tryd.underlying15⟩
instance : SzT Tryd.prog 15 1 := ⟨by kernel_rfl⟩
instance : ByT Tryd.prog 15 8 := ⟨by kernel_rfl⟩
instance : ZrT Tryd.prog 15 (#[Value.pointer none]) := ⟨by kernel_rfl⟩
instance : FlT Tryd.prog 15 := ⟨by kernel_rfl⟩
instance : UT Tryd.prog 16 (TypeDesc.pointer 139) := ⟨Tryd.underlying16⟩
instance : SzT Tryd.prog 16 1 := ⟨by kernel_rfl⟩
instance : ByT Tryd.prog 16 8 := ⟨by kernel_rfl⟩
instance : ZrT Tryd.prog 16 (#[Value.pointer none]) := ⟨by kernel_rfl⟩
instance : FlT Tryd.prog 16 := ⟨by kernel_rfl⟩
instance : UT Tryd.prog 17 (TypeDesc.pointer 148) := ⟨Tryd.underlying17⟩
instance : SzT Tryd.prog 17 1 := ⟨by kernel_rfl⟩
instance : ByT Tryd.prog 17 8 := ⟨by kernel_rfl⟩
instance : ZrT Tryd.prog 17 (#[Value.pointer none]) := ⟨by kernel_rfl⟩
instance : FlT Tryd.prog 17 := ⟨by kernel_rfl⟩
instance : UT Tryd.prog 18 (TypeDesc.struct #[{ name := "typ", type := 17, offset := 0, embedded := false, tag := "", pkgPath := "internal/runtime/maps", byteOffset := 0 }]) := ⟨Tryd.underlying18⟩
instance : SzT Tryd.prog 18 1 := ⟨by kernel_rfl⟩
instance : ByT Tryd.prog 18 8 := ⟨by kernel_rfl⟩
instance : ZrT Tryd.prog 18 (#[Value.pointer none]) := ⟨by kernel_rfl⟩
instance : RwT Tryd.prog 18 1 := ⟨by kernel_rfl⟩
instance : PlT Tryd.prog 18 [(0, 1)] := ⟨by kernel_rfl⟩
instance : UT Tryd.prog 19 (TypeDesc.struct #[{ name := "typ", type := 17, offset := 0, embedded := false, tag := "", pkgPath := "internal/runtime/maps", byteOffset := 0 }]) := ⟨Tryd.underlying19⟩
instance : SzT Tryd.prog 19 1 := ⟨by kernel_rfl⟩
instance : ByT Tryd.prog 19 8 := ⟨by kernel_rfl⟩
instance : ZrT Tryd.prog 19 (#[Value.pointer none]) := ⟨by kernel_rfl⟩
instance : RwT Tryd.prog 19 1 := ⟨by kernel_rfl⟩
instance : PlT Tryd.prog 19 [(0, 1)] := ⟨by kernel_rfl⟩
instance : UT Tryd.prog 20 (TypeDesc.interface #[]) := ⟨Tryd.underlying20⟩
instance : SzT Tryd.prog 20 1 := ⟨by kernel_rfl⟩
instance : ByT Tryd.prog 20 16 := ⟨by kernel_rfl⟩
instance : ZrT Tryd.prog 20 (#[Value.nilIface]) := ⟨by kernel_rfl⟩
instance : FlT Tryd.prog 20 := ⟨by kernel_rfl⟩
instance : UT Tryd.prog 21 (TypeDesc.int IntKind.i32) := ⟨Tryd.underlying21⟩
instance : SzT Tryd.prog 21 1 := ⟨by kernel_rfl⟩
instance : ByT Tryd.prog 21 4 := ⟨by kernel_rfl⟩
instance : ZrT Tryd.prog 21 (#[Value.int .i32 0]) := ⟨by kernel_rfl⟩
instance : FlT Tryd.prog 21 := ⟨by kernel_rfl⟩
instance : UT Tryd.prog 22 (TypeDesc.slice 30) := ⟨Tryd.underlying22⟩
instance : SzT Tryd.prog 22 1 := ⟨by kernel_rfl⟩
instance : ByT Tryd.prog 22 24 := ⟨by kernel_rfl⟩
instance : ZrT Tryd.prog 22 (#[Value.slice none 0 0]) := ⟨by kernel_rfl⟩
instance : FlT Tryd.prog 22 := ⟨by kernel_rfl⟩
instance : UT Tryd.prog 23 (TypeDesc.func #[] #[4] false) := ⟨Tryd.underlying23⟩
instance : SzT Tryd.prog 23 1 := ⟨by kernel_rfl⟩
instance : ByT Tryd.prog 23 8 := ⟨by kernel_rfl⟩
instance : ZrT Tryd.prog 23 (#[Value.nilFunc]) := ⟨by kernel_rfl⟩
instance : FlT Tryd.prog 23 := ⟨by kernel_rfl⟩
instance : UT Tryd.prog 24 (TypeDesc.pointer 52) := ⟨Tryd.underlying24⟩
instance : SzT Tryd.prog 24 1 := ⟨by kernel_rfl⟩
instance : ByT Tryd.prog 24 8 := ⟨by kernel_rfl⟩
instance : ZrT Tryd.prog 24 (#[Value.pointer none]) := ⟨by kernel_rfl⟩
instance : FlT Tryd.prog 24 := ⟨by kernel_rfl⟩
instance : UT Tryd.prog 25 (TypeDesc.func #[3] #[24] false) := ⟨Tryd.underlying25⟩
instance : SzT Tryd.prog 25 1 := ⟨by kernel_rfl⟩
instance : ByT Tryd.prog 25 8 := ⟨by kernel_rfl⟩
instance : ZrT Tryd.prog 25 (#[Value.nilFunc]) := ⟨by kernel_rfl⟩
instance : FlT Tryd.prog 25 := ⟨by kernel_rfl⟩
instance : UT Tryd.prog 26 (TypeDesc.pointer 55) := ⟨Tryd.underlying26⟩
instance : SzT Tryd.prog 26 1 := ⟨by kernel_rfl⟩
instance : ByT Tryd.prog 26 8 := ⟨by kernel_rfl⟩
instance : ZrT Tryd.prog 26 (#[Value.pointer none]) := ⟨by kernel_rfl⟩
instance : FlT Tryd.prog 26 := ⟨by kernel_rfl⟩
instance : UT Tryd.prog 27 (TypeDesc.int IntKind.i64) := ⟨Tryd.underlying27⟩
instance : SzT Tryd.prog 27 1 := ⟨by kernel_rfl⟩
instance : ByT Tryd.prog 27 8 := ⟨by kernel_rfl⟩
instance : ZrT Tryd.prog 27 (#[Value.int .i64 0]) := ⟨by kernel_rfl⟩
instance : FlT Tryd.prog 27 := ⟨by kernel_rfl⟩
instance : UT Tryd.prog 28 (TypeDesc.tuple #[26, 27]) := ⟨Tryd.underlying28⟩
instance : SzT Tryd.prog 28 1 := ⟨by kernel_rfl⟩
instance : ByT Tryd.prog 28 0 := ⟨by kernel_rfl⟩
instance : FlT Tryd.prog 28 := ⟨by kernel_rfl⟩
instance : UT Tryd.prog 29 (TypeDesc.func #[24] #[26, 27] false) := ⟨Tryd.underlying29⟩
instance : SzT Tryd.prog 29 1 := ⟨by kernel_rfl⟩
instance : ByT Tryd.prog 29 8 := ⟨by kernel_rfl⟩
instance : ZrT Tryd.prog 29 (#[Value.nilFunc]) := ⟨by kernel_rfl⟩
instance : FlT Tryd.prog 29 := ⟨by kernel_rfl⟩
instance : UT Tryd.prog 30 (TypeDesc.slice 5) := ⟨Tryd.underlying30⟩
instance : SzT Tryd.prog 30 1 := ⟨by kernel_rfl⟩
instance : ByT Tryd.prog 30 24 := ⟨by kernel_rfl⟩
instance : ZrT Tryd.prog 30 (#[Value.slice none 0 0]) := ⟨by kernel_rfl⟩
instance : FlT Tryd.prog 30 := ⟨by kernel_rfl⟩
instance : UT Tryd.prog 31 (TypeDesc.func #[22] #[27] true) := ⟨Tryd.underlying31⟩
instance : SzT Tryd.prog 31 1 := ⟨by kernel_rfl⟩
instance : ByT Tryd.prog 31 8 := ⟨by kernel_rfl⟩
instance : ZrT Tryd.prog 31 (#[Value.nilFunc]) := ⟨by kernel_rfl⟩
instance : FlT Tryd.prog 31 := ⟨by kernel_rfl⟩
instance : UT Tryd.prog 32 (TypeDesc.func #[22, 22] #[4] false) := ⟨Tryd.underlying32⟩
instance : SzT Tryd.prog 32 1 := ⟨by kernel_rfl⟩
instance : ByT Tryd.prog 32 8 := ⟨by kernel_rfl⟩
instance : ZrT Tryd.prog 32 (#[Value.nilFunc]) := ⟨by kernel_rfl⟩
instance : FlT Tryd.prog 32 := ⟨by kernel_rfl⟩
instance : UT Tryd.prog 33 (TypeDesc.func #[] #[22] false) := ⟨Tryd.underlying33⟩
instance : SzT Tryd.prog 33 1 := ⟨by kernel_rfl⟩
instance : ByT Tryd.prog 33 8 := ⟨by kernel_rfl⟩
instance : ZrT Tryd.prog 33 (#[Value.nilFunc]) := ⟨by kernel_rfl⟩
instance : FlT Tryd.prog 33 := ⟨by kernel_rfl⟩
instance : UT Tryd.prog 34 (TypeDesc.func #[] #[3] false) := ⟨Tryd.underlying34⟩
instance : SzT Tryd.prog 34 1 := ⟨by kernel_rfl⟩
instance : ByT Tryd.prog 34 8 := ⟨by kernel_rfl⟩
instance : ZrT Tryd.prog 34 (#[Value.nilFunc]) := ⟨by kernel_rfl⟩
instance : FlT Tryd.prog 34 := ⟨by kernel_rfl⟩
instance : UT Tryd.prog 35 (TypeDesc.func #[22] #[4] false) := ⟨Tryd.underlying35⟩
instance : SzT Tryd.prog 35 1 := ⟨by kernel_rfl⟩
instance : ByT Tryd.prog 35 8 := ⟨by kernel_rfl⟩
instance : ZrT Tryd.prog 35 (#[Value.nilFunc]) := ⟨by kernel_rfl⟩
instance : FlT Tryd.prog 35 := ⟨by kernel_rfl⟩
instance : UT Tryd.prog 36 (TypeDesc.int IntKind.u64) := ⟨Tryd.underlying36⟩
instance : SzT Tryd.prog 36 1 := ⟨by kernel_rfl⟩
instance : ByT Tryd.prog 36 8 := ⟨by kernel_rfl⟩
instance : ZrT Tryd.prog 36 (#[Value.int .u64 0]) := ⟨by kernel_rfl⟩
instance : FlT Tryd.prog 36 := ⟨by kernel_rfl⟩
instance : UT Tryd.prog 37 (TypeDesc.array 2 36) := ⟨Tryd.underlying37⟩
instance : SzT Tryd.prog 37 2 := ⟨by kernel_rfl⟩
instance : ByT Tryd.prog 37 16 := ⟨by kernel_rfl⟩
instance : ZrT Tryd.prog 37 (#[Value.int .u64 0, Value.int .u64 0]) := ⟨by kernel_rfl⟩
instance : RwT Tryd.prog 37 2 := ⟨by kernel_rfl⟩
instance : UT Tryd.prog 38 (TypeDesc.pointer 72) := ⟨Tryd.underlying38⟩
instance : SzT Tryd.prog 38 1 := ⟨by kernel_rfl⟩
instance : ByT Tryd.prog 38 8 := ⟨by kernel_rfl⟩
instance : ZrT Tryd.prog 38 (#[Value.pointer none]) := ⟨by kernel_rfl⟩
instance : FlT Tryd.prog 38 := ⟨by kernel_rfl⟩
instance : UT Tryd.prog 39 (TypeDesc.tuple #[38, 27]) := ⟨Tryd.underlying39⟩
instance : SzT Tryd.prog 39 1 := ⟨by kernel_rfl⟩
instance : ByT Tryd.prog 39 0 := ⟨by kernel_rfl⟩
instance : FlT Tryd.prog 39 := ⟨by kernel_rfl⟩
instance : UT Tryd.prog 40 (TypeDesc.func #[24, 3, 3] #[38, 27] false) := ⟨Tryd.underlying40⟩
instance : SzT Tryd.prog 40 1 := ⟨by kernel_rfl⟩
instance : ByT Tryd.prog 40 8 := ⟨by kernel_rfl⟩
instance : ZrT Tryd.prog 40 (#[Value.nilFunc]) := ⟨by kernel_rfl⟩
instance : FlT Tryd.prog 40 := ⟨by kernel_rfl⟩
instance : UT Tryd.prog 41 (TypeDesc.array 16 5) := ⟨Tryd.underlying41⟩
instance : SzT Tryd.prog 41 16 := ⟨by kernel_rfl⟩
instance : ByT Tryd.prog 41 16 := ⟨by kernel_rfl⟩
instance : ZrT Tryd.prog 41 (#[Value.int .u8 0, Value.int .u8 0, Value.int .u8 0, Value.int .u8 0, Value.int .u8 0, Value.int .u8 0, Value.int .u8 0, Value.int .u8 0, Value.int .u8 0, Value.int .u8 0, Value.int .u8 0, Value.int .u8 0, Value.int .u8 0, Value.int .u8 0, Value.int .u8 0, Value.int .u8 0]) := ⟨by kernel_rfl⟩
instance : RwT Tryd.prog 41 16 := ⟨by kernel_rfl⟩
instance : UT Tryd.prog 42 (TypeDesc.array 2 41) := ⟨Tryd.underlying42⟩
instance : SzT Tryd.prog 42 32 := ⟨by kernel_rfl⟩
instance : ByT Tryd.prog 42 32 := ⟨by kernel_rfl⟩
instance : ZrT Tryd.prog 42 ((List.replicate 32 (Value.int .u8 0)).toArray) := ⟨by kernel_rfl⟩
instance : RwT Tryd.prog 42 32 := ⟨by kernel_rfl⟩
instance : UT Tryd.prog 43 (TypeDesc.func #[30, 41] #[27] false) := ⟨Tryd.underlying43⟩
instance : SzT Tryd.prog 43 1 := ⟨by kernel_rfl⟩
instance : ByT Tryd.prog 43 8 := ⟨by kernel_rfl⟩
instance : ZrT Tryd.prog 43 (#[Value.nilFunc]) := ⟨by kernel_rfl⟩
instance : FlT Tryd.prog 43 := ⟨by kernel_rfl⟩
instance : UT Tryd.prog 44 (TypeDesc.func #[30] #[22] false) := ⟨Tryd.underlying44⟩
instance : SzT Tryd.prog 44 1 := ⟨by kernel_rfl⟩
instance : ByT Tryd.prog 44 8 := ⟨by kernel_rfl⟩
instance : ZrT Tryd.prog 44 (#[Value.nilFunc]) := ⟨by kernel_rfl⟩
instance : FlT Tryd.prog 44 := ⟨by kernel_rfl⟩
instance : UT Tryd.prog 45 (TypeDesc.func #[] #[36] false) := ⟨Tryd.underlying45⟩
instance : SzT Tryd.prog 45 1 := ⟨by kernel_rfl⟩
instance : ByT Tryd.prog 45 8 := ⟨by kernel_rfl⟩
instance : ZrT Tryd.prog 45 (#[Value.nilFunc]) := ⟨by kernel_rfl⟩
instance : FlT Tryd.prog 45 := ⟨by kernel_rfl⟩
instance : UT Tryd.prog 46 (TypeDesc.func #[30, 30, 37] #[4] false) := ⟨Tryd.underlying46⟩
instance : SzT Tryd.prog 46 1 := ⟨by kernel_rfl⟩
instance : ByT Tryd.prog 46 8 := ⟨by kernel_rfl⟩
instance : ZrT Tryd.prog 46 (#[Value.nilFunc]) := ⟨by kernel_rfl⟩
instance : FlT Tryd.prog 46 := ⟨by kernel_rfl⟩
instance : UT Tryd.prog 47 (TypeDesc.func #[3, 30] #[27] false) := ⟨Tryd.underlying47⟩
instance : SzT Tryd.prog 47 1 := ⟨by kernel_rfl⟩
instance : ByT Tryd.prog 47 8 := ⟨by kernel_rfl⟩
instance : ZrT Tryd.prog 47 (#[Value.nilFunc]) := ⟨by kernel_rfl⟩
instance : FlT Tryd.prog 47 := ⟨by kernel_rfl⟩
instance : UT Tryd.prog 48 (TypeDesc.func #[5, 30] #[30] false) := ⟨Tryd.underlying48⟩
instance : SzT Tryd.prog 48 1 := ⟨by kernel_rfl⟩
instance : ByT Tryd.prog 48 8 := ⟨by kernel_rfl⟩
instance : ZrT Tryd.prog 48 (#[Value.nilFunc]) := ⟨by kernel_rfl⟩
instance : FlT Tryd.prog 48 := ⟨by kernel_rfl⟩
instance : UT Tryd.prog 49 (TypeDesc.slice 81) := ⟨Tryd.underlying49⟩
instance : SzT Tryd.prog 49 1 := ⟨by kernel_rfl⟩
instance : ByT Tryd.prog 49 24 := ⟨by kernel_rfl⟩
instance : ZrT Tryd.prog 49 (#[Value.slice none 0 0]) := ⟨by kernel_rfl⟩
instance : FlT Tryd.prog 49 := ⟨by kernel_rfl⟩
instance : UT Tryd.prog 50 (TypeDesc.map 3 81) := ⟨Tryd.underlying50⟩
instance : SzT Tryd.prog 50 1 := ⟨by kernel_rfl⟩
instance : ByT Tryd.prog 50 8 := ⟨by kernel_rfl⟩
instance : ZrT Tryd.prog 50 (#[Value.map none]) := ⟨by kernel_rfl⟩
instance : FlT Tryd.prog 50 := ⟨by kernel_rfl⟩
instance : UT Tryd.prog 51 (TypeDesc.struct #[{ name := "written", type := 49, offset := 0, embedded := false, tag := "", pkgPath := "jalousie/disk", byteOffset := 0 }, { name := "loose", type := 50, offset := 1, embedded := false, tag := "", pkgPath := "jalousie/disk", byteOffset := 24 }, { name := "fused", type := 4, offset := 2, embedded := false, tag := "", pkgPath := "jalousie/disk", byteOffset := 32 }, { name := "fuse", type := 3, offset := 3, embedded := false, tag := "", pkgPath := "jalousie/disk", byteOffset := 40 }, { name := "gone", type := 4, offset := 4, embedded := false, tag := "", pkgPath := "jalousie/disk", byteOffset := 48 }]) := ⟨Tryd.underlying51⟩
instance : SzT Tryd.prog 51 5 := ⟨by kernel_rfl⟩
instance : ByT Tryd.prog 51 56 := ⟨by kernel_rfl⟩
instance : ZrT Tryd.prog 51 (#[Value.slice none 0 0, Value.map none, Value.bool false, Value.int .i64 0, Value.bool false]) := ⟨by kernel_rfl⟩
instance : RwT Tryd.prog 51 5 := ⟨by kernel_rfl⟩
instance : PlT Tryd.prog 51 [(0, 1), (1, 1), (2, 1), (3, 1), (4, 1)] := ⟨by kernel_rfl⟩
instance : UT Tryd.prog 52 (TypeDesc.struct #[{ name := "written", type := 49, offset := 0, embedded := false, tag := "", pkgPath := "jalousie/disk", byteOffset := 0 }, { name := "loose", type := 50, offset := 1, embedded := false, tag := "", pkgPath := "jalousie/disk", byteOffset := 24 }, { name := "fused", type := 4, offset := 2, embedded := false, tag := "", pkgPath := "jalousie/disk", byteOffset := 32 }, { name := "fuse", type := 3, offset := 3, embedded := false, tag := "", pkgPath := "jalousie/disk", byteOffset := 40 }, { name := "gone", type := 4, offset := 4, embedded := false, tag := "", pkgPath := "jalousie/disk", byteOffset := 48 }]) := ⟨Tryd.underlying52⟩
instance : SzT Tryd.prog 52 5 := ⟨by kernel_rfl⟩
instance : ByT Tryd.prog 52 56 := ⟨by kernel_rfl⟩
instance : ZrT Tryd.prog 52 (#[Value.slice none 0 0, Value.map none, Value.bool false, Value.int .i64 0, Value.bool false]) := ⟨by kernel_rfl⟩
instance : RwT Tryd.prog 52 5 := ⟨by kernel_rfl⟩
instance : PlT Tryd.prog 52 [(0, 1), (1, 1), (2, 1), (3, 1), (4, 1)] := ⟨by kernel_rfl⟩
instance : UT Tryd.prog 53 (TypeDesc.array 2 38) := ⟨Tryd.underlying53⟩
instance : SzT Tryd.prog 53 2 := ⟨by kernel_rfl⟩
instance : ByT Tryd.prog 53 16 := ⟨by kernel_rfl⟩
instance : ZrT Tryd.prog 53 (#[Value.pointer none, Value.pointer none]) := ⟨by kernel_rfl⟩
instance : RwT Tryd.prog 53 2 := ⟨by kernel_rfl⟩
instance : UT Tryd.prog 54 (TypeDesc.struct #[{ name := "logs", type := 53, offset := 0, embedded := false, tag := "", pkgPath := "jalousie/store", byteOffset := 0 }, { name := "at", type := 3, offset := 2, embedded := false, tag := "", pkgPath := "jalousie/store", byteOffset := 16 }]) := ⟨Tryd.underlying54⟩
instance : SzT Tryd.prog 54 3 := ⟨by kernel_rfl⟩
instance : ByT Tryd.prog 54 24 := ⟨by kernel_rfl⟩
instance : ZrT Tryd.prog 54 (#[Value.pointer none, Value.pointer none, Value.int .i64 0]) := ⟨by kernel_rfl⟩
instance : RwT Tryd.prog 54 3 := ⟨by kernel_rfl⟩
instance : PlT Tryd.prog 54 [(0, 2), (2, 1)] := ⟨by kernel_rfl⟩
instance : UT Tryd.prog 55 (TypeDesc.struct #[{ name := "logs", type := 53, offset := 0, embedded := false, tag := "", pkgPath := "jalousie/store", byteOffset := 0 }, { name := "at", type := 3, offset := 2, embedded := false, tag := "", pkgPath := "jalousie/store", byteOffset := 16 }]) := ⟨Tryd.underlying55⟩
instance : SzT Tryd.prog 55 3 := ⟨by kernel_rfl⟩
instance : ByT Tryd.prog 55 24 := ⟨by kernel_rfl⟩
instance : ZrT Tryd.prog 55 (#[Value.pointer none, Value.pointer none, Value.int .i64 0]) := ⟨by kernel_rfl⟩
instance : RwT Tryd.prog 55 3 := ⟨by kernel_rfl⟩
instance : PlT Tryd.prog 55 [(0, 2), (2, 1)] := ⟨by kernel_rfl⟩
instance : UT Tryd.prog 56 (TypeDesc.interface #[("Error", 134)]) := ⟨Tryd.underlying56⟩
instance : SzT Tryd.prog 56 1 := ⟨by kernel_rfl⟩
instance : ByT Tryd.prog 56 16 := ⟨by kernel_rfl⟩
instance : ZrT Tryd.prog 56 (#[Value.nilIface]) := ⟨by kernel_rfl⟩
instance : FlT Tryd.prog 56 := ⟨by kernel_rfl⟩
instance : UT Tryd.prog 57 (TypeDesc.interface #[("Error", 134)]) := ⟨Tryd.underlying57⟩
instance : SzT Tryd.prog 57 1 := ⟨by kernel_rfl⟩
instance : ByT Tryd.prog 57 16 := ⟨by kernel_rfl⟩
instance : ZrT Tryd.prog 57 (#[Value.nilIface]) := ⟨by kernel_rfl⟩
instance : FlT Tryd.prog 57 := ⟨by kernel_rfl⟩
instance : UT Tryd.prog 58 (TypeDesc.func #[9, 27] #[57] false) := ⟨Tryd.underlying58⟩
instance : SzT Tryd.prog 58 1 := ⟨by kernel_rfl⟩
instance : ByT Tryd.prog 58 8 := ⟨by kernel_rfl⟩
instance : ZrT Tryd.prog 58 (#[Value.nilFunc]) := ⟨by kernel_rfl⟩
instance : FlT Tryd.prog 58 := ⟨by kernel_rfl⟩
instance : UT Tryd.prog 59 (TypeDesc.func #[57] #[27] false) := ⟨Tryd.underlying59⟩
instance : SzT Tryd.prog 59 1 := ⟨by kernel_rfl⟩
instance : ByT Tryd.prog 59 8 := ⟨by kernel_rfl⟩
instance : ZrT Tryd.prog 59 (#[Value.nilFunc]) := ⟨by kernel_rfl⟩
instance : FlT Tryd.prog 59 := ⟨by kernel_rfl⟩
instance : UT Tryd.prog 60 (TypeDesc.func #[38] #[36] false) := ⟨Tryd.underlying60⟩
instance : SzT Tryd.prog 60 1 := ⟨by kernel_rfl⟩
instance : ByT Tryd.prog 60 8 := ⟨by kernel_rfl⟩
instance : ZrT Tryd.prog 60 (#[Value.nilFunc]) := ⟨by kernel_rfl⟩
instance : FlT Tryd.prog 60 := ⟨by kernel_rfl⟩
instance : UT Tryd.prog 61 (TypeDesc.tuple #[30, 57]) := ⟨Tryd.underlying61⟩
instance : SzT Tryd.prog 61 1 := ⟨by kernel_rfl⟩
instance : ByT Tryd.prog 61 0 := ⟨by kernel_rfl⟩
instance : FlT Tryd.prog 61 := ⟨by kernel_rfl⟩
instance : UT Tryd.prog 62 (TypeDesc.func #[22, 3] #[30, 57] false) := ⟨Tryd.underlying62⟩
instance : SzT Tryd.prog 62 1 := ⟨by kernel_rfl⟩
instance : ByT Tryd.prog 62 8 := ⟨by kernel_rfl⟩
instance : ZrT Tryd.prog 62 (#[Value.nilFunc]) := ⟨by kernel_rfl⟩
instance : FlT Tryd.prog 62 := ⟨by kernel_rfl⟩
instance : UT Tryd.prog 63 (TypeDesc.func #[] #[38] false) := ⟨Tryd.underlying63⟩
instance : SzT Tryd.prog 63 1 := ⟨by kernel_rfl⟩
instance : ByT Tryd.prog 63 8 := ⟨by kernel_rfl⟩
instance : ZrT Tryd.prog 63 (#[Value.nilFunc]) := ⟨by kernel_rfl⟩
instance : FlT Tryd.prog 63 := ⟨by kernel_rfl⟩
instance : UT Tryd.prog 64 (TypeDesc.func #[] #[41] false) := ⟨Tryd.underlying64⟩
instance : SzT Tryd.prog 64 1 := ⟨by kernel_rfl⟩
instance : ByT Tryd.prog 64 8 := ⟨by kernel_rfl⟩
instance : ZrT Tryd.prog 64 (#[Value.nilFunc]) := ⟨by kernel_rfl⟩
instance : FlT Tryd.prog 64 := ⟨by kernel_rfl⟩
instance : UT Tryd.prog 65 (TypeDesc.pointer 98) := ⟨Tryd.underlying65⟩
instance : SzT Tryd.prog 65 1 := ⟨by kernel_rfl⟩
instance : ByT Tryd.prog 65 8 := ⟨by kernel_rfl⟩
instance : ZrT Tryd.prog 65 (#[Value.pointer none]) := ⟨by kernel_rfl⟩
instance : FlT Tryd.prog 65 := ⟨by kernel_rfl⟩
instance : UT Tryd.prog 66 (TypeDesc.func #[30] #[65] false) := ⟨Tryd.underlying66⟩
instance : SzT Tryd.prog 66 1 := ⟨by kernel_rfl⟩
instance : ByT Tryd.prog 66 8 := ⟨by kernel_rfl⟩
instance : ZrT Tryd.prog 66 (#[Value.nilFunc]) := ⟨by kernel_rfl⟩
instance : FlT Tryd.prog 66 := ⟨by kernel_rfl⟩
instance : UT Tryd.prog 67 (TypeDesc.func #[] #[30] false) := ⟨Tryd.underlying67⟩
instance : SzT Tryd.prog 67 1 := ⟨by kernel_rfl⟩
instance : ByT Tryd.prog 67 8 := ⟨by kernel_rfl⟩
instance : ZrT Tryd.prog 67 (#[Value.nilFunc]) := ⟨by kernel_rfl⟩
instance : FlT Tryd.prog 67 := ⟨by kernel_rfl⟩
instance : UT Tryd.prog 68 (TypeDesc.func #[3] #[30] false) := ⟨Tryd.underlying68⟩
instance : SzT Tryd.prog 68 1 := ⟨by kernel_rfl⟩
instance : ByT Tryd.prog 68 8 := ⟨by kernel_rfl⟩
instance : ZrT Tryd.prog 68 (#[Value.nilFunc]) := ⟨by kernel_rfl⟩
instance : FlT Tryd.prog 68 := ⟨by kernel_rfl⟩
instance : UT Tryd.prog 69 (TypeDesc.struct #[{ name := "serial", type := 36, offset := 0, embedded := false, tag := "", pkgPath := "jalousie/cells", byteOffset := 0 }, { name := "count", type := 36, offset := 1, embedded := false, tag := "", pkgPath := "jalousie/cells", byteOffset := 8 }, { name := "note", type := 41, offset := 2, embedded := false, tag := "", pkgPath := "jalousie/cells", byteOffset := 16 }]) := ⟨Tryd.underlying69⟩
instance : SzT Tryd.prog 69 18 := ⟨by kernel_rfl⟩
instance : ByT Tryd.prog 69 32 := ⟨by kernel_rfl⟩
instance : ZrT Tryd.prog 69 (#[Value.int .u64 0, Value.int .u64 0, Value.int .u8 0, Value.int .u8 0, Value.int .u8 0, Value.int .u8 0, Value.int .u8 0, Value.int .u8 0, Value.int .u8 0, Value.int .u8 0, Value.int .u8 0, Value.int .u8 0, Value.int .u8 0, Value.int .u8 0, Value.int .u8 0, Value.int .u8 0, Value.int .u8 0, Value.int .u8 0]) := ⟨by kernel_rfl⟩
instance : RwT Tryd.prog 69 18 := ⟨by kernel_rfl⟩
instance : PlT Tryd.prog 69 [(0, 1), (1, 1), (2, 16)] := ⟨by kernel_rfl⟩
instance : UT Tryd.prog 70 (TypeDesc.struct #[{ name := "serial", type := 36, offset := 0, embedded := false, tag := "", pkgPath := "jalousie/cells", byteOffset := 0 }, { name := "count", type := 36, offset := 1, embedded := false, tag := "", pkgPath := "jalousie/cells", byteOffset := 8 }, { name := "note", type := 41, offset := 2, embedded := false, tag := "", pkgPath := "jalousie/cells", byteOffset := 16 }]) := ⟨Tryd.underlying70⟩
instance : SzT Tryd.prog 70 18 := ⟨by kernel_rfl⟩
instance : ByT Tryd.prog 70 32 := ⟨by kernel_rfl⟩
instance : ZrT Tryd.prog 70 (#[Value.int .u64 0, Value.int .u64 0, Value.int .u8 0, Value.int .u8 0, Value.int .u8 0, Value.int .u8 0, Value.int .u8 0, Value.int .u8 0, Value.int .u8 0, Value.int .u8 0, Value.int .u8 0, Value.int .u8 0, Value.int .u8 0, Value.int .u8 0, Value.int .u8 0, Value.int .u8 0, Value.int .u8 0, Value.int .u8 0]) := ⟨by kernel_rfl⟩
instance : RwT Tryd.prog 70 18 := ⟨by kernel_rfl⟩
instance : PlT Tryd.prog 70 [(0, 1), (1, 1), (2, 16)] := ⟨by kernel_rfl⟩
instance : UT Tryd.prog 71 (TypeDesc.struct #[{ name := "disk", type := 24, offset := 0, embedded := false, tag := "", pkgPath := "jalousie/cells", byteOffset := 0 }, { name := "from", type := 3, offset := 1, embedded := false, tag := "", pkgPath := "jalousie/cells", byteOffset := 8 }, { name := "room", type := 3, offset := 2, embedded := false, tag := "", pkgPath := "jalousie/cells", byteOffset := 16 }, { name := "state", type := 70, offset := 3, embedded := false, tag := "", pkgPath := "jalousie/cells", byteOffset := 24 }, { name := "bytes", type := 30, offset := 21, embedded := false, tag := "", pkgPath := "jalousie/cells", byteOffset := 56 }, { name := "over", type := 4, offset := 22, embedded := false, tag := "", pkgPath := "jalousie/cells", byteOffset := 80 }]) := ⟨Tryd.underlying71⟩
instance : SzT Tryd.prog 71 23 := ⟨by kernel_rfl⟩
instance : ByT Tryd.prog 71 88 := ⟨by kernel_rfl⟩
instance : ZrT Tryd.prog 71 (#[Value.pointer none, Value.int .i64 0, Value.int .i64 0, Value.int .u64 0, Value.int .u64 0, Value.int .u8 0, Value.int .u8 0, Value.int .u8 0, Value.int .u8 0, Value.int .u8 0, Value.int .u8 0, Value.int .u8 0, Value.int .u8 0, Value.int .u8 0, Value.int .u8 0, Value.int .u8 0, Value.int .u8 0, Value.int .u8 0, Value.int .u8 0, Value.int .u8 0, Value.int .u8 0, Value.slice none 0 0, Value.bool false]) := ⟨by kernel_rfl⟩
instance : RwT Tryd.prog 71 23 := ⟨by kernel_rfl⟩
instance : PlT Tryd.prog 71 [(0, 1), (1, 1), (2, 1), (3, 18), (21, 1), (22, 1)] := ⟨by kernel_rfl⟩
instance : UT Tryd.prog 72 (TypeDesc.struct #[{ name := "disk", type := 24, offset := 0, embedded := false, tag := "", pkgPath := "jalousie/cells", byteOffset := 0 }, { name := "from", type := 3, offset := 1, embedded := false, tag := "", pkgPath := "jalousie/cells", byteOffset := 8 }, { name := "room", type := 3, offset := 2, embedded := false, tag := "", pkgPath := "jalousie/cells", byteOffset := 16 }, { name := "state", type := 70, offset := 3, embedded := false, tag := "", pkgPath := "jalousie/cells", byteOffset := 24 }, { name := "bytes", type := 30, offset := 21, embedded := false, tag := "", pkgPath := "jalousie/cells", byteOffset := 56 }, { name := "over", type := 4, offset := 22, embedded := false, tag := "", pkgPath := "jalousie/cells", byteOffset := 80 }]) := ⟨Tryd.underlying72⟩
instance : SzT Tryd.prog 72 23 := ⟨by kernel_rfl⟩
instance : ByT Tryd.prog 72 88 := ⟨by kernel_rfl⟩
instance : ZrT Tryd.prog 72 (#[Value.pointer none, Value.int .i64 0, Value.int .i64 0, Value.int .u64 0, Value.int .u64 0, Value.int .u8 0, Value.int .u8 0, Value.int .u8 0, Value.int .u8 0, Value.int .u8 0, Value.int .u8 0, Value.int .u8 0, Value.int .u8 0, Value.int .u8 0, Value.int .u8 0, Value.int .u8 0, Value.int .u8 0, Value.int .u8 0, Value.int .u8 0, Value.int .u8 0, Value.int .u8 0, Value.slice none 0 0, Value.bool false]) := ⟨by kernel_rfl⟩
instance : RwT Tryd.prog 72 23 := ⟨by kernel_rfl⟩
instance : PlT Tryd.prog 72 [(0, 1), (1, 1), (2, 1), (3, 18), (21, 1), (22, 1)] := ⟨by kernel_rfl⟩
instance : UT Tryd.prog 73 (TypeDesc.func #[] #[27] false) := ⟨Tryd.underlying73⟩
instance : SzT Tryd.prog 73 1 := ⟨by kernel_rfl⟩
instance : ByT Tryd.prog 73 8 := ⟨by kernel_rfl⟩
instance : ZrT Tryd.prog 73 (#[Value.nilFunc]) := ⟨by kernel_rfl⟩
instance : FlT Tryd.prog 73 := ⟨by kernel_rfl⟩
instance : UT Tryd.prog 74 (TypeDesc.func #[30] #[27] false) := ⟨Tryd.underlying74⟩
instance : SzT Tryd.prog 74 1 := ⟨by kernel_rfl⟩
instance : ByT Tryd.prog 74 8 := ⟨by kernel_rfl⟩
instance : ZrT Tryd.prog 74 (#[Value.nilFunc]) := ⟨by kernel_rfl⟩
instance : FlT Tryd.prog 74 := ⟨by kernel_rfl⟩
instance : UT Tryd.prog 75 (TypeDesc.tuple #[36, 30, 3]) := ⟨Tryd.underlying75⟩
instance : SzT Tryd.prog 75 1 := ⟨by kernel_rfl⟩
instance : ByT Tryd.prog 75 0 := ⟨by kernel_rfl⟩
instance : FlT Tryd.prog 75 := ⟨by kernel_rfl⟩
instance : UT Tryd.prog 76 (TypeDesc.func #[30, 78] #[36, 30, 3] false) := ⟨Tryd.underlying76⟩
instance : SzT Tryd.prog 76 1 := ⟨by kernel_rfl⟩
instance : ByT Tryd.prog 76 8 := ⟨by kernel_rfl⟩
instance : ZrT Tryd.prog 76 (#[Value.nilFunc]) := ⟨by kernel_rfl⟩
instance : FlT Tryd.prog 76 := ⟨by kernel_rfl⟩
instance : UT Tryd.prog 77 (TypeDesc.struct #[{ name := "Kind", type := 5, offset := 0, embedded := false, tag := "", pkgPath := "", byteOffset := 0 }, { name := "X", type := 36, offset := 1, embedded := false, tag := "", pkgPath := "", byteOffset := 8 }, { name := "B", type := 30, offset := 2, embedded := false, tag := "", pkgPath := "", byteOffset := 16 }]) := ⟨Tryd.underlying77⟩
instance : SzT Tryd.prog 77 3 := ⟨by kernel_rfl⟩
instance : ByT Tryd.prog 77 40 := ⟨by kernel_rfl⟩
instance : ZrT Tryd.prog 77 (#[Value.int .u8 0, Value.int .u64 0, Value.slice none 0 0]) := ⟨by kernel_rfl⟩
instance : RwT Tryd.prog 77 3 := ⟨by kernel_rfl⟩
instance : PlT Tryd.prog 77 [(0, 1), (1, 1), (2, 1)] := ⟨by kernel_rfl⟩
instance : UT Tryd.prog 78 (TypeDesc.struct #[{ name := "Kind", type := 5, offset := 0, embedded := false, tag := "", pkgPath := "", byteOffset := 0 }, { name := "X", type := 36, offset := 1, embedded := false, tag := "", pkgPath := "", byteOffset := 8 }, { name := "B", type := 30, offset := 2, embedded := false, tag := "", pkgPath := "", byteOffset := 16 }]) := ⟨Tryd.underlying78⟩
instance : SzT Tryd.prog 78 3 := ⟨by kernel_rfl⟩
instance : ByT Tryd.prog 78 40 := ⟨by kernel_rfl⟩
instance : ZrT Tryd.prog 78 (#[Value.int .u8 0, Value.int .u64 0, Value.slice none 0 0]) := ⟨by kernel_rfl⟩
instance : RwT Tryd.prog 78 3 := ⟨by kernel_rfl⟩
instance : PlT Tryd.prog 78 [(0, 1), (1, 1), (2, 1)] := ⟨by kernel_rfl⟩
instance : UT Tryd.prog 79 (TypeDesc.func #[3] #[4] false) := ⟨Tryd.underlying79⟩
instance : SzT Tryd.prog 79 1 := ⟨by kernel_rfl⟩
instance : ByT Tryd.prog 79 8 := ⟨by kernel_rfl⟩
instance : ZrT Tryd.prog 79 (#[Value.nilFunc]) := ⟨by kernel_rfl⟩
instance : FlT Tryd.prog 79 := ⟨by kernel_rfl⟩
instance : UT Tryd.prog 80 (TypeDesc.array 64 5) := ⟨Tryd.underlying80⟩
instance : SzT Tryd.prog 80 64 := ⟨by kernel_rfl⟩
instance : ByT Tryd.prog 80 64 := ⟨by kernel_rfl⟩
instance : ZrT Tryd.prog 80 ((List.replicate 64 (Value.int .u8 0)).toArray) := ⟨by kernel_rfl⟩
instance : RwT Tryd.prog 80 64 := ⟨by kernel_rfl⟩
instance : UT Tryd.prog 81 (TypeDesc.array 64 5) := ⟨Tryd.underlying81⟩
instance : SzT Tryd.prog 81 64 := ⟨by kernel_rfl⟩
instance : ByT Tryd.prog 81 64 := ⟨by kernel_rfl⟩
instance : ZrT Tryd.prog 81 ((List.replicate 64 (Value.int .u8 0)).toArray) := ⟨by kernel_rfl⟩
instance : RwT Tryd.prog 81 64 := ⟨by kernel_rfl⟩
instance : UT Tryd.prog 82 (TypeDesc.tuple #[81, 4]) := ⟨Tryd.underlying82⟩
instance : SzT Tryd.prog 82 1 := ⟨by kernel_rfl⟩
instance : ByT Tryd.prog 82 0 := ⟨by kernel_rfl⟩
instance : FlT Tryd.prog 82 := ⟨by kernel_rfl⟩
instance : UT Tryd.prog 83 (TypeDesc.pointer 85) := ⟨Tryd.underlying83⟩
instance : SzT Tryd.prog 83 1 := ⟨by kernel_rfl⟩
instance : ByT Tryd.prog 83 8 := ⟨by kernel_rfl⟩
instance : ZrT Tryd.prog 83 (#[Value.pointer none]) := ⟨by kernel_rfl⟩
instance : FlT Tryd.prog 83 := ⟨by kernel_rfl⟩
instance : UT Tryd.prog 84 (TypeDesc.struct #[{ name := "doing", type := 9, offset := 0, embedded := false, tag := "", pkgPath := "jalousie/store", byteOffset := 0 }, { name := "fault", type := 57, offset := 1, embedded := false, tag := "", pkgPath := "jalousie/store", byteOffset := 16 }]) := ⟨Tryd.underlying84⟩
instance : SzT Tryd.prog 84 2 := ⟨by kernel_rfl⟩
instance : ByT Tryd.prog 84 32 := ⟨by kernel_rfl⟩
instance : ZrT Tryd.prog 84 (#[Value.string ByteArray.empty, Value.nilIface]) := ⟨by kernel_rfl⟩
instance : RwT Tryd.prog 84 2 := ⟨by kernel_rfl⟩
instance : PlT Tryd.prog 84 [(0, 1), (1, 1)] := ⟨by kernel_rfl⟩
instance : UT Tryd.prog 85 (TypeDesc.struct #[{ name := "doing", type := 9, offset := 0, embedded := false, tag := "", pkgPath := "jalousie/store", byteOffset := 0 }, { name := "fault", type := 57, offset := 1, embedded := false, tag := "", pkgPath := "jalousie/store", byteOffset := 16 }]) := ⟨Tryd.underlying85⟩
instance : SzT Tryd.prog 85 2 := ⟨by kernel_rfl⟩
instance : ByT Tryd.prog 85 32 := ⟨by kernel_rfl⟩
instance : ZrT Tryd.prog 85 (#[Value.string ByteArray.empty, Value.nilIface]) := ⟨by kernel_rfl⟩
instance : RwT Tryd.prog 85 2 := ⟨by kernel_rfl⟩
instance : PlT Tryd.prog 85 [(0, 1), (1, 1)] := ⟨by kernel_rfl⟩
instance : UT Tryd.prog 86 (TypeDesc.func #[57, 57] #[4] false) := ⟨Tryd.underlying86⟩
instance : SzT Tryd.prog 86 1 := ⟨by kernel_rfl⟩
instance : ByT Tryd.prog 86 8 := ⟨by kernel_rfl⟩
instance : ZrT Tryd.prog 86 (#[Value.nilFunc]) := ⟨by kernel_rfl⟩
instance : FlT Tryd.prog 86 := ⟨by kernel_rfl⟩
instance : UT Tryd.prog 87 (TypeDesc.int IntKind.u64) := ⟨Tryd.underlying87⟩
instance : SzT Tryd.prog 87 1 := ⟨by kernel_rfl⟩
instance : ByT Tryd.prog 87 8 := ⟨by kernel_rfl⟩
instance : ZrT Tryd.prog 87 (#[Value.int .u64 0]) := ⟨by kernel_rfl⟩
instance : FlT Tryd.prog 87 := ⟨by kernel_rfl⟩
instance : UT Tryd.prog 88 (TypeDesc.struct #[{ name := "b", type := 30, offset := 0, embedded := false, tag := "", pkgPath := "jalousie/pack", byteOffset := 0 }]) := ⟨Tryd.underlying88⟩
instance : SzT Tryd.prog 88 1 := ⟨by kernel_rfl⟩
instance : ByT Tryd.prog 88 24 := ⟨by kernel_rfl⟩
instance : ZrT Tryd.prog 88 (#[Value.slice none 0 0]) := ⟨by kernel_rfl⟩
instance : RwT Tryd.prog 88 1 := ⟨by kernel_rfl⟩
instance : PlT Tryd.prog 88 [(0, 1)] := ⟨by kernel_rfl⟩
instance : UT Tryd.prog 89 (TypeDesc.struct #[{ name := "b", type := 30, offset := 0, embedded := false, tag := "", pkgPath := "jalousie/pack", byteOffset := 0 }]) := ⟨Tryd.underlying89⟩
instance : SzT Tryd.prog 89 1 := ⟨by kernel_rfl⟩
instance : ByT Tryd.prog 89 24 := ⟨by kernel_rfl⟩
instance : ZrT Tryd.prog 89 (#[Value.slice none 0 0]) := ⟨by kernel_rfl⟩
instance : RwT Tryd.prog 89 1 := ⟨by kernel_rfl⟩
instance : PlT Tryd.prog 89 [(0, 1)] := ⟨by kernel_rfl⟩
instance : UT Tryd.prog 90 (TypeDesc.struct #[{ name := "grown", type := 89, offset := 0, embedded := true, tag := "", pkgPath := "jalousie/pack", byteOffset := 0 }, { name := "long", type := 4, offset := 1, embedded := false, tag := "", pkgPath := "jalousie/pack", byteOffset := 24 }]) := ⟨Tryd.underlying90⟩
instance : SzT Tryd.prog 90 2 := ⟨by kernel_rfl⟩
instance : ByT Tryd.prog 90 32 := ⟨by kernel_rfl⟩
instance : ZrT Tryd.prog 90 (#[Value.slice none 0 0, Value.bool false]) := ⟨by kernel_rfl⟩
instance : RwT Tryd.prog 90 2 := ⟨by kernel_rfl⟩
instance : PlT Tryd.prog 90 [(0, 1), (1, 1)] := ⟨by kernel_rfl⟩
instance : UT Tryd.prog 91 (TypeDesc.struct #[{ name := "grown", type := 89, offset := 0, embedded := true, tag := "", pkgPath := "jalousie/pack", byteOffset := 0 }, { name := "long", type := 4, offset := 1, embedded := false, tag := "", pkgPath := "jalousie/pack", byteOffset := 24 }]) := ⟨Tryd.underlying91⟩
instance : SzT Tryd.prog 91 2 := ⟨by kernel_rfl⟩
instance : ByT Tryd.prog 91 32 := ⟨by kernel_rfl⟩
instance : ZrT Tryd.prog 91 (#[Value.slice none 0 0, Value.bool false]) := ⟨by kernel_rfl⟩
instance : RwT Tryd.prog 91 2 := ⟨by kernel_rfl⟩
instance : PlT Tryd.prog 91 [(0, 1), (1, 1)] := ⟨by kernel_rfl⟩
instance : UT Tryd.prog 92 (TypeDesc.func #[30] #[] false) := ⟨Tryd.underlying92⟩
instance : SzT Tryd.prog 92 1 := ⟨by kernel_rfl⟩
instance : ByT Tryd.prog 92 8 := ⟨by kernel_rfl⟩
instance : ZrT Tryd.prog 92 (#[Value.nilFunc]) := ⟨by kernel_rfl⟩
instance : FlT Tryd.prog 92 := ⟨by kernel_rfl⟩
instance : UT Tryd.prog 93 (TypeDesc.tuple #[30, 27]) := ⟨Tryd.underlying93⟩
instance : SzT Tryd.prog 93 1 := ⟨by kernel_rfl⟩
instance : ByT Tryd.prog 93 0 := ⟨by kernel_rfl⟩
instance : FlT Tryd.prog 93 := ⟨by kernel_rfl⟩
instance : UT Tryd.prog 94 (TypeDesc.func #[] #[30, 27] false) := ⟨Tryd.underlying94⟩
instance : SzT Tryd.prog 94 1 := ⟨by kernel_rfl⟩
instance : ByT Tryd.prog 94 8 := ⟨by kernel_rfl⟩
instance : ZrT Tryd.prog 94 (#[Value.nilFunc]) := ⟨by kernel_rfl⟩
instance : FlT Tryd.prog 94 := ⟨by kernel_rfl⟩
instance : UT Tryd.prog 95 (TypeDesc.func #[3] #[38] false) := ⟨Tryd.underlying95⟩
instance : SzT Tryd.prog 95 1 := ⟨by kernel_rfl⟩
instance : ByT Tryd.prog 95 8 := ⟨by kernel_rfl⟩
instance : ZrT Tryd.prog 95 (#[Value.nilFunc]) := ⟨by kernel_rfl⟩
instance : FlT Tryd.prog 95 := ⟨by kernel_rfl⟩
instance : UT Tryd.prog 96 (TypeDesc.func #[30] #[30] false) := ⟨Tryd.underlying96⟩
instance : SzT Tryd.prog 96 1 := ⟨by kernel_rfl⟩
instance : ByT Tryd.prog 96 8 := ⟨by kernel_rfl⟩
instance : ZrT Tryd.prog 96 (#[Value.nilFunc]) := ⟨by kernel_rfl⟩
instance : FlT Tryd.prog 96 := ⟨by kernel_rfl⟩
instance : UT Tryd.prog 97 (TypeDesc.struct #[{ name := "left", type := 30, offset := 0, embedded := false, tag := "", pkgPath := "jalousie/pack", byteOffset := 0 }, { name := "bad", type := 4, offset := 1, embedded := false, tag := "", pkgPath := "jalousie/pack", byteOffset := 24 }]) := ⟨Tryd.underlying97⟩
instance : SzT Tryd.prog 97 2 := ⟨by kernel_rfl⟩
instance : ByT Tryd.prog 97 32 := ⟨by kernel_rfl⟩
instance : ZrT Tryd.prog 97 (#[Value.slice none 0 0, Value.bool false]) := ⟨by kernel_rfl⟩
instance : RwT Tryd.prog 97 2 := ⟨by kernel_rfl⟩
instance : PlT Tryd.prog 97 [(0, 1), (1, 1)] := ⟨by kernel_rfl⟩
instance : UT Tryd.prog 98 (TypeDesc.struct #[{ name := "left", type := 30, offset := 0, embedded := false, tag := "", pkgPath := "jalousie/pack", byteOffset := 0 }, { name := "bad", type := 4, offset := 1, embedded := false, tag := "", pkgPath := "jalousie/pack", byteOffset := 24 }]) := ⟨Tryd.underlying98⟩
instance : SzT Tryd.prog 98 2 := ⟨by kernel_rfl⟩
instance : ByT Tryd.prog 98 32 := ⟨by kernel_rfl⟩
instance : ZrT Tryd.prog 98 (#[Value.slice none 0 0, Value.bool false]) := ⟨by kernel_rfl⟩
instance : RwT Tryd.prog 98 2 := ⟨by kernel_rfl⟩
instance : PlT Tryd.prog 98 [(0, 1), (1, 1)] := ⟨by kernel_rfl⟩
instance : UT Tryd.prog 99 (TypeDesc.tuple #[36, 3]) := ⟨Tryd.underlying99⟩
instance : SzT Tryd.prog 99 1 := ⟨by kernel_rfl⟩
instance : ByT Tryd.prog 99 0 := ⟨by kernel_rfl⟩
instance : FlT Tryd.prog 99 := ⟨by kernel_rfl⟩
instance : UT Tryd.prog 100 (TypeDesc.func #[] #[36, 3] false) := ⟨Tryd.underlying100⟩
instance : SzT Tryd.prog 100 1 := ⟨by kernel_rfl⟩
instance : ByT Tryd.prog 100 8 := ⟨by kernel_rfl⟩
instance : ZrT Tryd.prog 100 (#[Value.nilFunc]) := ⟨by kernel_rfl⟩
instance : FlT Tryd.prog 100 := ⟨by kernel_rfl⟩
instance : UT Tryd.prog 101 (TypeDesc.func #[3] #[30, 27] false) := ⟨Tryd.underlying101⟩
instance : SzT Tryd.prog 101 1 := ⟨by kernel_rfl⟩
instance : ByT Tryd.prog 101 8 := ⟨by kernel_rfl⟩
instance : ZrT Tryd.prog 101 (#[Value.nilFunc]) := ⟨by kernel_rfl⟩
instance : FlT Tryd.prog 101 := ⟨by kernel_rfl⟩
instance : UT Tryd.prog 102 (TypeDesc.tuple #[70, 4]) := ⟨Tryd.underlying102⟩
instance : SzT Tryd.prog 102 1 := ⟨by kernel_rfl⟩
instance : ByT Tryd.prog 102 0 := ⟨by kernel_rfl⟩
instance : FlT Tryd.prog 102 := ⟨by kernel_rfl⟩
instance : UT Tryd.prog 103 (TypeDesc.func #[30] #[70, 4] false) := ⟨Tryd.underlying103⟩
instance : SzT Tryd.prog 103 1 := ⟨by kernel_rfl⟩
instance : ByT Tryd.prog 103 8 := ⟨by kernel_rfl⟩
instance : ZrT Tryd.prog 103 (#[Value.nilFunc]) := ⟨by kernel_rfl⟩
instance : FlT Tryd.prog 103 := ⟨by kernel_rfl⟩
instance : UT Tryd.prog 104 (TypeDesc.func #[30] #[36, 3] false) := ⟨Tryd.underlying104⟩
instance : SzT Tryd.prog 104 1 := ⟨by kernel_rfl⟩
instance : ByT Tryd.prog 104 8 := ⟨by kernel_rfl⟩
instance : ZrT Tryd.prog 104 (#[Value.nilFunc]) := ⟨by kernel_rfl⟩
instance : FlT Tryd.prog 104 := ⟨by kernel_rfl⟩
instance : UT Tryd.prog 105 (TypeDesc.interface #[("AssignableTo", 150), ("Comparable", 23), ("Elem", 151), ("Implements", 150), ("Kind", 152), ("Name", 134), ("PkgPath", 134), ("Size", 153), ("String", 134), ("internal/reflectlite.common", 154), ("internal/reflectlite.uncommon", 155)]) := ⟨Tryd.underlying105⟩
instance : SzT Tryd.prog 105 1 := ⟨by kernel_rfl⟩
instance : ByT Tryd.prog 105 16 := ⟨by kernel_rfl⟩
instance : ZrT Tryd.prog 105 (#[Value.nilIface]) := ⟨by kernel_rfl⟩
instance : FlT Tryd.prog 105 := ⟨by kernel_rfl⟩
instance : UT Tryd.prog 106 (TypeDesc.interface #[("AssignableTo", 150), ("Comparable", 23), ("Elem", 151), ("Implements", 150), ("Kind", 152), ("Name", 134), ("PkgPath", 134), ("Size", 153), ("String", 134), ("internal/reflectlite.common", 154), ("internal/reflectlite.uncommon", 155)]) := ⟨Tryd.underlying106⟩
instance : SzT Tryd.prog 106 1 := ⟨by kernel_rfl⟩
instance : ByT Tryd.prog 106 16 := ⟨by kernel_rfl⟩
instance : ZrT Tryd.prog 106 (#[Value.nilIface]) := ⟨by kernel_rfl⟩
instance : FlT Tryd.prog 106 := ⟨by kernel_rfl⟩
instance : UT Tryd.prog 107 (TypeDesc.func #[20] #[106] false) := ⟨Tryd.underlying107⟩
instance : SzT Tryd.prog 107 1 := ⟨by kernel_rfl⟩
instance : ByT Tryd.prog 107 8 := ⟨by kernel_rfl⟩
instance : ZrT Tryd.prog 107 (#[Value.nilFunc]) := ⟨by kernel_rfl⟩
instance : FlT Tryd.prog 107 := ⟨by kernel_rfl⟩
instance : UT Tryd.prog 108 (TypeDesc.func #[57, 57, 4] #[4] false) := ⟨Tryd.underlying108⟩
instance : SzT Tryd.prog 108 1 := ⟨by kernel_rfl⟩
instance : ByT Tryd.prog 108 8 := ⟨by kernel_rfl⟩
instance : ZrT Tryd.prog 108 (#[Value.nilFunc]) := ⟨by kernel_rfl⟩
instance : FlT Tryd.prog 108 := ⟨by kernel_rfl⟩
instance : UT Tryd.prog 109 (TypeDesc.pointer 91) := ⟨Tryd.underlying109⟩
instance : SzT Tryd.prog 109 1 := ⟨by kernel_rfl⟩
instance : ByT Tryd.prog 109 8 := ⟨by kernel_rfl⟩
instance : ZrT Tryd.prog 109 (#[Value.pointer none]) := ⟨by kernel_rfl⟩
instance : FlT Tryd.prog 109 := ⟨by kernel_rfl⟩
instance : UT Tryd.prog 110 (TypeDesc.func #[36] #[] false) := ⟨Tryd.underlying110⟩
instance : SzT Tryd.prog 110 1 := ⟨by kernel_rfl⟩
instance : ByT Tryd.prog 110 8 := ⟨by kernel_rfl⟩
instance : ZrT Tryd.prog 110 (#[Value.nilFunc]) := ⟨by kernel_rfl⟩
instance : FlT Tryd.prog 110 := ⟨by kernel_rfl⟩
instance : UT Tryd.prog 111 (TypeDesc.array 32 5) := ⟨Tryd.underlying111⟩
instance : SzT Tryd.prog 111 32 := ⟨by kernel_rfl⟩
instance : ByT Tryd.prog 111 32 := ⟨by kernel_rfl⟩
instance : ZrT Tryd.prog 111 ((List.replicate 32 (Value.int .u8 0)).toArray) := ⟨by kernel_rfl⟩
instance : RwT Tryd.prog 111 32 := ⟨by kernel_rfl⟩
instance : UT Tryd.prog 112 (TypeDesc.array 32 5) := ⟨Tryd.underlying112⟩
instance : SzT Tryd.prog 112 32 := ⟨by kernel_rfl⟩
instance : ByT Tryd.prog 112 32 := ⟨by kernel_rfl⟩
instance : ZrT Tryd.prog 112 ((List.replicate 32 (Value.int .u8 0)).toArray) := ⟨by kernel_rfl⟩
instance : RwT Tryd.prog 112 32 := ⟨by kernel_rfl⟩
instance : UT Tryd.prog 113 (TypeDesc.func #[30] #[36] false) := ⟨Tryd.underlying113⟩
instance : SzT Tryd.prog 113 1 := ⟨by kernel_rfl⟩
instance : ByT Tryd.prog 113 8 := ⟨by kernel_rfl⟩
instance : ZrT Tryd.prog 113 (#[Value.nilFunc]) := ⟨by kernel_rfl⟩
instance : FlT Tryd.prog 113 := ⟨by kernel_rfl⟩
instance : UT Tryd.prog 114 (TypeDesc.func #[] #[112] false) := ⟨Tryd.underlying114⟩
instance : SzT Tryd.prog 114 1 := ⟨by kernel_rfl⟩
instance : ByT Tryd.prog 114 8 := ⟨by kernel_rfl⟩
instance : ZrT Tryd.prog 114 (#[Value.nilFunc]) := ⟨by kernel_rfl⟩
instance : FlT Tryd.prog 114 := ⟨by kernel_rfl⟩
instance : UT Tryd.prog 115 (TypeDesc.func #[36] #[30] false) := ⟨Tryd.underlying115⟩
instance : SzT Tryd.prog 115 1 := ⟨by kernel_rfl⟩
instance : ByT Tryd.prog 115 8 := ⟨by kernel_rfl⟩
instance : ZrT Tryd.prog 115 (#[Value.nilFunc]) := ⟨by kernel_rfl⟩
instance : FlT Tryd.prog 115 := ⟨by kernel_rfl⟩
instance : UT Tryd.prog 116 (TypeDesc.struct #[{ name := "Type", type := 17, offset := 0, embedded := true, tag := "", pkgPath := "", byteOffset := 0 }]) := ⟨Tryd.underlying116⟩
instance : SzT Tryd.prog 116 1 := ⟨by kernel_rfl⟩
instance : ByT Tryd.prog 116 8 := ⟨by kernel_rfl⟩
instance : ZrT Tryd.prog 116 (#[Value.pointer none]) := ⟨by kernel_rfl⟩
instance : RwT Tryd.prog 116 1 := ⟨by kernel_rfl⟩
instance : PlT Tryd.prog 116 [(0, 1)] := ⟨by kernel_rfl⟩
instance : UT Tryd.prog 117 (TypeDesc.struct #[{ name := "Type", type := 17, offset := 0, embedded := true, tag := "", pkgPath := "", byteOffset := 0 }]) := ⟨Tryd.underlying117⟩
instance : SzT Tryd.prog 117 1 := ⟨by kernel_rfl⟩
instance : ByT Tryd.prog 117 8 := ⟨by kernel_rfl⟩
instance : ZrT Tryd.prog 117 (#[Value.pointer none]) := ⟨by kernel_rfl⟩
instance : RwT Tryd.prog 117 1 := ⟨by kernel_rfl⟩
instance : PlT Tryd.prog 117 [(0, 1)] := ⟨by kernel_rfl⟩
instance : UT Tryd.prog 118 (TypeDesc.pointer 158) := ⟨Tryd.underlying118⟩
instance : SzT Tryd.prog 118 1 := ⟨by kernel_rfl⟩
instance : ByT Tryd.prog 118 8 := ⟨by kernel_rfl⟩
instance : ZrT Tryd.prog 118 (#[Value.pointer none]) := ⟨by kernel_rfl⟩
instance : FlT Tryd.prog 118 := ⟨by kernel_rfl⟩
instance : UT Tryd.prog 119 (TypeDesc.interface #[("Is", 121)]) := ⟨Tryd.underlying119⟩
instance : SzT Tryd.prog 119 1 := ⟨by kernel_rfl⟩
instance : ByT Tryd.prog 119 16 := ⟨by kernel_rfl⟩
instance : ZrT Tryd.prog 119 (#[Value.nilIface]) := ⟨by kernel_rfl⟩
instance : FlT Tryd.prog 119 := ⟨by kernel_rfl⟩
instance : UT Tryd.prog 120 (TypeDesc.tuple #[119, 4]) := ⟨Tryd.underlying120⟩
instance : SzT Tryd.prog 120 1 := ⟨by kernel_rfl⟩
instance : ByT Tryd.prog 120 0 := ⟨by kernel_rfl⟩
instance : FlT Tryd.prog 120 := ⟨by kernel_rfl⟩
instance : UT Tryd.prog 121 (TypeDesc.func #[57] #[4] false) := ⟨Tryd.underlying121⟩
instance : SzT Tryd.prog 121 1 := ⟨by kernel_rfl⟩
instance : ByT Tryd.prog 121 8 := ⟨by kernel_rfl⟩
instance : ZrT Tryd.prog 121 (#[Value.nilFunc]) := ⟨by kernel_rfl⟩
instance : FlT Tryd.prog 121 := ⟨by kernel_rfl⟩
instance : UT Tryd.prog 122 (TypeDesc.interface #[("Unwrap", 123)]) := ⟨Tryd.underlying122⟩
instance : SzT Tryd.prog 122 1 := ⟨by kernel_rfl⟩
instance : ByT Tryd.prog 122 16 := ⟨by kernel_rfl⟩
instance : ZrT Tryd.prog 122 (#[Value.nilIface]) := ⟨by kernel_rfl⟩
instance : FlT Tryd.prog 122 := ⟨by kernel_rfl⟩
instance : UT Tryd.prog 123 (TypeDesc.func #[] #[57] false) := ⟨Tryd.underlying123⟩
instance : SzT Tryd.prog 123 1 := ⟨by kernel_rfl⟩
instance : ByT Tryd.prog 123 8 := ⟨by kernel_rfl⟩
instance : ZrT Tryd.prog 123 (#[Value.nilFunc]) := ⟨by kernel_rfl⟩
instance : FlT Tryd.prog 123 := ⟨by kernel_rfl⟩
instance : UT Tryd.prog 124 (TypeDesc.interface #[("Unwrap", 126)]) := ⟨Tryd.underlying124⟩
instance : SzT Tryd.prog 124 1 := ⟨by kernel_rfl⟩
instance : ByT Tryd.prog 124 16 := ⟨by kernel_rfl⟩
instance : ZrT Tryd.prog 124 (#[Value.nilIface]) := ⟨by kernel_rfl⟩
instance : FlT Tryd.prog 124 := ⟨by kernel_rfl⟩
instance : UT Tryd.prog 125 (TypeDesc.slice 57) := ⟨Tryd.underlying125⟩
instance : SzT Tryd.prog 125 1 := ⟨by kernel_rfl⟩
instance : ByT Tryd.prog 125 24 := ⟨by kernel_rfl⟩
instance : ZrT Tryd.prog 125 (#[Value.slice none 0 0]) := ⟨by kernel_rfl⟩
instance : FlT Tryd.prog 125 := ⟨by kernel_rfl⟩
instance : UT Tryd.prog 126 (TypeDesc.func #[] #[125] false) := ⟨Tryd.underlying126⟩
instance : SzT Tryd.prog 126 1 := ⟨by kernel_rfl⟩
instance : ByT Tryd.prog 126 8 := ⟨by kernel_rfl⟩
instance : ZrT Tryd.prog 126 (#[Value.nilFunc]) := ⟨by kernel_rfl⟩
instance : FlT Tryd.prog 126 := ⟨by kernel_rfl⟩
instance : UT Tryd.prog 127 (TypeDesc.array 10 5) := ⟨Tryd.underlying127⟩
instance : SzT Tryd.prog 127 10 := ⟨by kernel_rfl⟩
instance : ByT Tryd.prog 127 10 := ⟨by kernel_rfl⟩
instance : ZrT Tryd.prog 127 (#[Value.int .u8 0, Value.int .u8 0, Value.int .u8 0, Value.int .u8 0, Value.int .u8 0, Value.int .u8 0, Value.int .u8 0, Value.int .u8 0, Value.int .u8 0, Value.int .u8 0]) := ⟨by kernel_rfl⟩
instance : RwT Tryd.prog 127 10 := ⟨by kernel_rfl⟩
instance : UT Tryd.prog 128 (TypeDesc.func #[30] #[] true) := ⟨Tryd.underlying128⟩
instance : SzT Tryd.prog 128 1 := ⟨by kernel_rfl⟩
instance : ByT Tryd.prog 128 8 := ⟨by kernel_rfl⟩
instance : ZrT Tryd.prog 128 (#[Value.nilFunc]) := ⟨by kernel_rfl⟩
instance : FlT Tryd.prog 128 := ⟨by kernel_rfl⟩
instance : UT Tryd.prog 129 (TypeDesc.func #[30, 36] #[] false) := ⟨Tryd.underlying129⟩
instance : SzT Tryd.prog 129 1 := ⟨by kernel_rfl⟩
instance : ByT Tryd.prog 129 8 := ⟨by kernel_rfl⟩
instance : ZrT Tryd.prog 129 (#[Value.nilFunc]) := ⟨by kernel_rfl⟩
instance : FlT Tryd.prog 129 := ⟨by kernel_rfl⟩
instance : UT Tryd.prog 130 (TypeDesc.pointer 89) := ⟨Tryd.underlying130⟩
instance : SzT Tryd.prog 130 1 := ⟨by kernel_rfl⟩
instance : ByT Tryd.prog 130 8 := ⟨by kernel_rfl⟩
instance : ZrT Tryd.prog 130 (#[Value.pointer none]) := ⟨by kernel_rfl⟩
instance : FlT Tryd.prog 130 := ⟨by kernel_rfl⟩
instance : UT Tryd.prog 131 (TypeDesc.func #[22] #[30] true) := ⟨Tryd.underlying131⟩
instance : SzT Tryd.prog 131 1 := ⟨by kernel_rfl⟩
instance : ByT Tryd.prog 131 8 := ⟨by kernel_rfl⟩
instance : ZrT Tryd.prog 131 (#[Value.nilFunc]) := ⟨by kernel_rfl⟩
instance : FlT Tryd.prog 131 := ⟨by kernel_rfl⟩
instance : UT Tryd.prog 132 (TypeDesc.func #[30, 3] #[30] false) := ⟨Tryd.underlying132⟩
instance : SzT Tryd.prog 132 1 := ⟨by kernel_rfl⟩
instance : ByT Tryd.prog 132 8 := ⟨by kernel_rfl⟩
instance : ZrT Tryd.prog 132 (#[Value.nilFunc]) := ⟨by kernel_rfl⟩
instance : FlT Tryd.prog 132 := ⟨by kernel_rfl⟩
instance : UT Tryd.prog 133 (TypeDesc.pointer 160) := ⟨Tryd.underlying133⟩
instance : SzT Tryd.prog 133 1 := ⟨by kernel_rfl⟩
instance : ByT Tryd.prog 133 8 := ⟨by kernel_rfl⟩
instance : ZrT Tryd.prog 133 (#[Value.pointer none]) := ⟨by kernel_rfl⟩
instance : FlT Tryd.prog 133 := ⟨by kernel_rfl⟩
instance : UT Tryd.prog 134 (TypeDesc.func #[] #[9] false) := ⟨Tryd.underlying134⟩
instance : SzT Tryd.prog 134 1 := ⟨by kernel_rfl⟩
instance : ByT Tryd.prog 134 8 := ⟨by kernel_rfl⟩
instance : ZrT Tryd.prog 134 (#[Value.nilFunc]) := ⟨by kernel_rfl⟩
instance : FlT Tryd.prog 134 := ⟨by kernel_rfl⟩
instance : UT Tryd.prog 135 (TypeDesc.struct #[{ name := "_interface", type := 17, offset := 0, embedded := false, tag := "", pkgPath := "runtime", byteOffset := 0 }, { name := "concrete", type := 17, offset := 1, embedded := false, tag := "", pkgPath := "runtime", byteOffset := 8 }, { name := "asserted", type := 17, offset := 2, embedded := false, tag := "", pkgPath := "runtime", byteOffset := 16 }, { name := "missingMethod", type := 9, offset := 3, embedded := false, tag := "", pkgPath := "runtime", byteOffset := 24 }]) := ⟨Tryd.underlying135⟩
instance : SzT Tryd.prog 135 4 := ⟨by kernel_rfl⟩
instance : ByT Tryd.prog 135 40 := ⟨by kernel_rfl⟩
instance : ZrT Tryd.prog 135 (#[Value.pointer none, Value.pointer none, Value.pointer none, Value.string ByteArray.empty]) := ⟨by kernel_rfl⟩
instance : RwT Tryd.prog 135 4 := ⟨by kernel_rfl⟩
instance : PlT Tryd.prog 135 [(0, 1), (1, 1), (2, 1), (3, 1)] := ⟨by kernel_rfl⟩
instance : UT Tryd.prog 136 (TypeDesc.struct #[{ name := "_interface", type := 17, offset := 0, embedded := false, tag := "", pkgPath := "runtime", byteOffset := 0 }, { name := "concrete", type := 17, offset := 1, embedded := false, tag := "", pkgPath := "runtime", byteOffset := 8 }, { name := "asserted", type := 17, offset := 2, embedded := false, tag := "", pkgPath := "runtime", byteOffset := 16 }, { name := "missingMethod", type := 9, offset := 3, embedded := false, tag := "", pkgPath := "runtime", byteOffset := 24 }]) := ⟨Tryd.underlying136⟩
instance : SzT Tryd.prog 136 4 := ⟨by kernel_rfl⟩
instance : ByT Tryd.prog 136 40 := ⟨by kernel_rfl⟩
instance : ZrT Tryd.prog 136 (#[Value.pointer none, Value.pointer none, Value.pointer none, Value.string ByteArray.empty]) := ⟨by kernel_rfl⟩
instance : RwT Tryd.prog 136 4 := ⟨by kernel_rfl⟩
instance : PlT Tryd.prog 136 [(0, 1), (1, 1), (2, 1), (3, 1)] := ⟨by kernel_rfl⟩
instance : UT Tryd.prog 137 (TypeDesc.array 0 16) := ⟨Tryd.underlying137⟩
instance : SzT Tryd.prog 137 0 := ⟨by kernel_rfl⟩
instance : ByT Tryd.prog 137 0 := ⟨by kernel_rfl⟩
instance : ZrT Tryd.prog 137 (#[]) := ⟨by kernel_rfl⟩
instance : RwT Tryd.prog 137 0 := ⟨by kernel_rfl⟩
instance : UT Tryd.prog 138 (TypeDesc.struct #[{ name := "_", type := 137, offset := 0, embedded := false, tag := "", pkgPath := "runtime", byteOffset := 0 }]) := ⟨Tryd.underlying138⟩
instance : SzT Tryd.prog 138 0 := ⟨by kernel_rfl⟩
instance : ByT Tryd.prog 138 0 := ⟨by kernel_rfl⟩
instance : ZrT Tryd.prog 138 (#[]) := ⟨by kernel_rfl⟩
instance : RwT Tryd.prog 138 0 := ⟨by kernel_rfl⟩
instance : PlT Tryd.prog 138 [(0, 0)] := ⟨by kernel_rfl⟩
instance : UT Tryd.prog 139 (TypeDesc.struct #[{ name := "_", type := 137, offset := 0, embedded := false, tag := "", pkgPath := "runtime", byteOffset := 0 }]) := ⟨Tryd.underlying139⟩
instance : SzT Tryd.prog 139 0 := ⟨by kernel_rfl⟩
instance : ByT Tryd.prog 139 0 := ⟨by kernel_rfl⟩
instance : ZrT Tryd.prog 139 (#[]) := ⟨by kernel_rfl⟩
instance : RwT Tryd.prog 139 0 := ⟨by kernel_rfl⟩
instance : PlT Tryd.prog 139 [(0, 0)] := ⟨by kernel_rfl⟩
instance : UT Tryd.prog 140 (TypeDesc.int IntKind.u32) := ⟨Tryd.underlying140⟩
instance : SzT Tryd.prog 140 1 := ⟨by kernel_rfl⟩
instance : ByT Tryd.prog 140 4 := ⟨by kernel_rfl⟩
instance : ZrT Tryd.prog 140 (#[Value.int .u32 0]) := ⟨by kernel_rfl⟩
instance : FlT Tryd.prog 140 := ⟨by kernel_rfl⟩
instance : UT Tryd.prog 141 (TypeDesc.int IntKind.u8) := ⟨Tryd.underlying141⟩
instance : SzT Tryd.prog 141 1 := ⟨by kernel_rfl⟩
instance : ByT Tryd.prog 141 1 := ⟨by kernel_rfl⟩
instance : ZrT Tryd.prog 141 (#[Value.int .u8 0]) := ⟨by kernel_rfl⟩
instance : FlT Tryd.prog 141 := ⟨by kernel_rfl⟩
instance : UT Tryd.prog 142 (TypeDesc.int IntKind.u8) := ⟨Tryd.underlying142⟩
instance : SzT Tryd.prog 142 1 := ⟨by kernel_rfl⟩
instance : ByT Tryd.prog 142 1 := ⟨by kernel_rfl⟩
instance : ZrT Tryd.prog 142 (#[Value.int .u8 0]) := ⟨by kernel_rfl⟩
instance : FlT Tryd.prog 142 := ⟨by kernel_rfl⟩
instance : UT Tryd.prog 143 (TypeDesc.func #[161, 161] #[4] false) := ⟨Tryd.underlying143⟩
instance : SzT Tryd.prog 143 1 := ⟨by kernel_rfl⟩
instance : ByT Tryd.prog 143 8 := ⟨by kernel_rfl⟩
instance : ZrT Tryd.prog 143 (#[Value.nilFunc]) := ⟨by kernel_rfl⟩
instance : FlT Tryd.prog 143 := ⟨by kernel_rfl⟩
instance : UT Tryd.prog 144 (TypeDesc.pointer 5) := ⟨Tryd.underlying144⟩
instance : SzT Tryd.prog 144 1 := ⟨by kernel_rfl⟩
instance : ByT Tryd.prog 144 8 := ⟨by kernel_rfl⟩
instance : ZrT Tryd.prog 144 (#[Value.pointer none]) := ⟨by kernel_rfl⟩
instance : FlT Tryd.prog 144 := ⟨by kernel_rfl⟩
instance : UT Tryd.prog 145 (TypeDesc.int IntKind.i32) := ⟨Tryd.underlying145⟩
instance : SzT Tryd.prog 145 1 := ⟨by kernel_rfl⟩
instance : ByT Tryd.prog 145 4 := ⟨by kernel_rfl⟩
instance : ZrT Tryd.prog 145 (#[Value.int .i32 0]) := ⟨by kernel_rfl⟩
instance : FlT Tryd.prog 145 := ⟨by kernel_rfl⟩
instance : UT Tryd.prog 146 (TypeDesc.int IntKind.i32) := ⟨Tryd.underlying146⟩
instance : SzT Tryd.prog 146 1 := ⟨by kernel_rfl⟩
instance : ByT Tryd.prog 146 4 := ⟨by kernel_rfl⟩
instance : ZrT Tryd.prog 146 (#[Value.int .i32 0]) := ⟨by kernel_rfl⟩
instance : FlT Tryd.prog 146 := ⟨by kernel_rfl⟩
instance : UT Tryd.prog 147 (TypeDesc.struct #[{ name := "Size_", type := 12, offset := 0, embedded := false, tag := "", pkgPath := "", byteOffset := 0 }, { name := "PtrBytes", type := 12, offset := 1, embedded := false, tag := "", pkgPath := "", byteOffset := 8 }, { name := "Hash", type := 140, offset := 2, embedded := false, tag := "", pkgPath := "", byteOffset := 16 }, { name := "TFlag", type := 141, offset := 3, embedded := false, tag := "", pkgPath := "", byteOffset := 20 }, { name := "Align_", type := 5, offset := 4, embedded := false, tag := "", pkgPath := "", byteOffset := 21 }, { name := "FieldAlign_", type := 5, offset := 5, embedded := false, tag := "", pkgPath := "", byteOffset := 22 }, { name := "Kind_", type := 142, offset := 6, embedded := false, tag := "", pkgPath := "", byteOffset := 23 }, { name := "Equal", type := 143, offset := 7, embedded := false, tag := "", pkgPath := "", byteOffset := 24 }, { name := "GCData", type := 144, offset := 8, embedded := false, tag := "", pkgPath := "", byteOffset := 32 }, { name := "Str", type := 145, offset := 9, embedded := false, tag := "", pkgPath := "", byteOffset := 40 }, { name := "PtrToThis", type := 146, offset := 10, embedded := false, tag := "", pkgPath := "", byteOffset := 44 }]) := ⟨Tryd.underlying147⟩
instance : SzT Tryd.prog 147 11 := ⟨by kernel_rfl⟩
instance : ByT Tryd.prog 147 48 := ⟨by kernel_rfl⟩
instance : ZrT Tryd.prog 147 (#[Value.int .u64 0, Value.int .u64 0, Value.int .u32 0, Value.int .u8 0, Value.int .u8 0, Value.int .u8 0, Value.int .u8 0, Value.nilFunc, Value.pointer none, Value.int .i32 0, Value.int .i32 0]) := ⟨by kernel_rfl⟩
instance : RwT Tryd.prog 147 11 := ⟨by kernel_rfl⟩
instance : PlT Tryd.prog 147 [(0, 1), (1, 1), (2, 1), (3, 1), (4, 1), (5, 1), (6, 1), (7, 1), (8, 1), (9, 1), (10, 1)] := ⟨by kernel_rfl⟩
instance : UT Tryd.prog 148 (TypeDesc.struct #[{ name := "Size_", type := 12, offset := 0, embedded := false, tag := "", pkgPath := "", byteOffset := 0 }, { name := "PtrBytes", type := 12, offset := 1, embedded := false, tag := "", pkgPath := "", byteOffset := 8 }, { name := "Hash", type := 140, offset := 2, embedded := false, tag := "", pkgPath := "", byteOffset := 16 }, { name := "TFlag", type := 141, offset := 3, embedded := false, tag := "", pkgPath := "", byteOffset := 20 }, { name := "Align_", type := 5, offset := 4, embedded := false, tag := "", pkgPath := "", byteOffset := 21 }, { name := "FieldAlign_", type := 5, offset := 5, embedded := false, tag := "", pkgPath := "", byteOffset := 22 }, { name := "Kind_", type := 142, offset := 6, embedded := false, tag := "", pkgPath := "", byteOffset := 23 }, { name := "Equal", type := 143, offset := 7, embedded := false, tag := "", pkgPath := "", byteOffset := 24 }, { name := "GCData", type := 144, offset := 8, embedded := false, tag := "", pkgPath := "", byteOffset := 32 }, { name := "Str", type := 145, offset := 9, embedded := false, tag := "", pkgPath := "", byteOffset := 40 }, { name := "PtrToThis", type := 146, offset := 10, embedded := false, tag := "", pkgPath := "", byteOffset := 44 }]) := ⟨Tryd.underlying148⟩
instance : SzT Tryd.prog 148 11 := ⟨by kernel_rfl⟩
instance : ByT Tryd.prog 148 48 := ⟨by kernel_rfl⟩
instance : ZrT Tryd.prog 148 (#[Value.int .u64 0, Value.int .u64 0, Value.int .u32 0, Value.int .u8 0, Value.int .u8 0, Value.int .u8 0, Value.int .u8 0, Value.nilFunc, Value.pointer none, Value.int .i32 0, Value.int .i32 0]) := ⟨by kernel_rfl⟩
instance : RwT Tryd.prog 148 11 := ⟨by kernel_rfl⟩
instance : PlT Tryd.prog 148 [(0, 1), (1, 1), (2, 1), (3, 1), (4, 1), (5, 1), (6, 1), (7, 1), (8, 1), (9, 1), (10, 1)] := ⟨by kernel_rfl⟩
instance : UT Tryd.prog 149 (TypeDesc.func #[3] #[] false) := ⟨Tryd.underlying149⟩
instance : SzT Tryd.prog 149 1 := ⟨by kernel_rfl⟩
instance : ByT Tryd.prog 149 8 := ⟨by kernel_rfl⟩
instance : ZrT Tryd.prog 149 (#[Value.nilFunc]) := ⟨by kernel_rfl⟩
instance : FlT Tryd.prog 149 := ⟨by kernel_rfl⟩
instance : UT Tryd.prog 150 (TypeDesc.func #[106] #[4] false) := ⟨Tryd.underlying150⟩
instance : SzT Tryd.prog 150 1 := ⟨by kernel_rfl⟩
instance : ByT Tryd.prog 150 8 := ⟨by kernel_rfl⟩
instance : ZrT Tryd.prog 150 (#[Value.nilFunc]) := ⟨by kernel_rfl⟩
instance : FlT Tryd.prog 150 := ⟨by kernel_rfl⟩
instance : UT Tryd.prog 151 (TypeDesc.func #[] #[106] false) := ⟨Tryd.underlying151⟩
instance : SzT Tryd.prog 151 1 := ⟨by kernel_rfl⟩
instance : ByT Tryd.prog 151 8 := ⟨by kernel_rfl⟩
instance : ZrT Tryd.prog 151 (#[Value.nilFunc]) := ⟨by kernel_rfl⟩
instance : FlT Tryd.prog 151 := ⟨by kernel_rfl⟩
instance : UT Tryd.prog 152 (TypeDesc.func #[] #[142] false) := ⟨Tryd.underlying152⟩
instance : SzT Tryd.prog 152 1 := ⟨by kernel_rfl⟩
instance : ByT Tryd.prog 152 8 := ⟨by kernel_rfl⟩
instance : ZrT Tryd.prog 152 (#[Value.nilFunc]) := ⟨by kernel_rfl⟩
instance : FlT Tryd.prog 152 := ⟨by kernel_rfl⟩
instance : UT Tryd.prog 153 (TypeDesc.func #[] #[12] false) := ⟨Tryd.underlying153⟩
instance : SzT Tryd.prog 153 1 := ⟨by kernel_rfl⟩
instance : ByT Tryd.prog 153 8 := ⟨by kernel_rfl⟩
instance : ZrT Tryd.prog 153 (#[Value.nilFunc]) := ⟨by kernel_rfl⟩
instance : FlT Tryd.prog 153 := ⟨by kernel_rfl⟩
instance : UT Tryd.prog 154 (TypeDesc.func #[] #[17] false) := ⟨Tryd.underlying154⟩
instance : SzT Tryd.prog 154 1 := ⟨by kernel_rfl⟩
instance : ByT Tryd.prog 154 8 := ⟨by kernel_rfl⟩
instance : ZrT Tryd.prog 154 (#[Value.nilFunc]) := ⟨by kernel_rfl⟩
instance : FlT Tryd.prog 154 := ⟨by kernel_rfl⟩
instance : UT Tryd.prog 155 (TypeDesc.func #[] #[162] false) := ⟨Tryd.underlying155⟩
instance : SzT Tryd.prog 155 1 := ⟨by kernel_rfl⟩
instance : ByT Tryd.prog 155 8 := ⟨by kernel_rfl⟩
instance : ZrT Tryd.prog 155 (#[Value.nilFunc]) := ⟨by kernel_rfl⟩
instance : FlT Tryd.prog 155 := ⟨by kernel_rfl⟩
instance : UT Tryd.prog 156 (TypeDesc.func #[4] #[] false) := ⟨Tryd.underlying156⟩
instance : SzT Tryd.prog 156 1 := ⟨by kernel_rfl⟩
instance : ByT Tryd.prog 156 8 := ⟨by kernel_rfl⟩
instance : ZrT Tryd.prog 156 (#[Value.nilFunc]) := ⟨by kernel_rfl⟩
instance : FlT Tryd.prog 156 := ⟨by kernel_rfl⟩
instance : UT Tryd.prog 157 (TypeDesc.struct #[{ name := "Method", type := 9, offset := 0, embedded := false, tag := "", pkgPath := "", byteOffset := 0 }, { name := "Kind", type := 142, offset := 1, embedded := false, tag := "", pkgPath := "", byteOffset := 16 }]) := ⟨Tryd.underlying157⟩
instance : SzT Tryd.prog 157 2 := ⟨by kernel_rfl⟩
instance : ByT Tryd.prog 157 24 := ⟨by kernel_rfl⟩
instance : ZrT Tryd.prog 157 (#[Value.string ByteArray.empty, Value.int .u8 0]) := ⟨by kernel_rfl⟩
instance : RwT Tryd.prog 157 2 := ⟨by kernel_rfl⟩
instance : PlT Tryd.prog 157 [(0, 1), (1, 1)] := ⟨by kernel_rfl⟩
instance : UT Tryd.prog 158 (TypeDesc.struct #[{ name := "Method", type := 9, offset := 0, embedded := false, tag := "", pkgPath := "", byteOffset := 0 }, { name := "Kind", type := 142, offset := 1, embedded := false, tag := "", pkgPath := "", byteOffset := 16 }]) := ⟨Tryd.underlying158⟩
instance : SzT Tryd.prog 158 2 := ⟨by kernel_rfl⟩
instance : ByT Tryd.prog 158 24 := ⟨by kernel_rfl⟩
instance : ZrT Tryd.prog 158 (#[Value.string ByteArray.empty, Value.int .u8 0]) := ⟨by kernel_rfl⟩
instance : RwT Tryd.prog 158 2 := ⟨by kernel_rfl⟩
instance : PlT Tryd.prog 158 [(0, 1), (1, 1)] := ⟨by kernel_rfl⟩
instance : UT Tryd.prog 159 (TypeDesc.struct #[{ name := "s", type := 9, offset := 0, embedded := false, tag := "", pkgPath := "errors", byteOffset := 0 }]) := ⟨Tryd.underlying159⟩
instance : SzT Tryd.prog 159 1 := ⟨by kernel_rfl⟩
instance : ByT Tryd.prog 159 16 := ⟨by kernel_rfl⟩
instance : ZrT Tryd.prog 159 (#[Value.string ByteArray.empty]) := ⟨by kernel_rfl⟩
instance : RwT Tryd.prog 159 1 := ⟨by kernel_rfl⟩
instance : PlT Tryd.prog 159 [(0, 1)] := ⟨by kernel_rfl⟩
instance : UT Tryd.prog 160 (TypeDesc.struct #[{ name := "s", type := 9, offset := 0, embedded := false, tag := "", pkgPath := "errors", byteOffset := 0 }]) := ⟨Tryd.underlying160⟩
instance : SzT Tryd.prog 160 1 := ⟨by kernel_rfl⟩
instance : ByT Tryd.prog 160 16 := ⟨by kernel_rfl⟩
instance : ZrT Tryd.prog 160 (#[Value.string ByteArray.empty]) := ⟨by kernel_rfl⟩
instance : RwT Tryd.prog 160 1 := ⟨by kernel_rfl⟩
instance : PlT Tryd.prog 160 [(0, 1)] := ⟨by kernel_rfl⟩
instance : UT Tryd.prog 161 TypeDesc.unsafePointer := ⟨Tryd.underlying161⟩
instance : SzT Tryd.prog 161 1 := ⟨by kernel_rfl⟩
instance : ByT Tryd.prog 161 8 := ⟨by kernel_rfl⟩
instance : ZrT Tryd.prog 161 (#[Value.pointer none]) := ⟨by kernel_rfl⟩
instance : FlT Tryd.prog 161 := ⟨by kernel_rfl⟩
instance : UT Tryd.prog 162 (TypeDesc.pointer 166) := ⟨Tryd.underlying162⟩
instance : SzT Tryd.prog 162 1 := ⟨by kernel_rfl⟩
instance : ByT Tryd.prog 162 8 := ⟨by kernel_rfl⟩
instance : ZrT Tryd.prog 162 (#[Value.pointer none]) := ⟨by kernel_rfl⟩
instance : FlT Tryd.prog 162 := ⟨by kernel_rfl⟩
instance : UT Tryd.prog 163 (TypeDesc.func #[] #[167] false) := ⟨Tryd.underlying163⟩
instance : SzT Tryd.prog 163 1 := ⟨by kernel_rfl⟩
instance : ByT Tryd.prog 163 8 := ⟨by kernel_rfl⟩
instance : ZrT Tryd.prog 163 (#[Value.nilFunc]) := ⟨by kernel_rfl⟩
instance : FlT Tryd.prog 163 := ⟨by kernel_rfl⟩
instance : UT Tryd.prog 164 (TypeDesc.int IntKind.u16) := ⟨Tryd.underlying164⟩
instance : SzT Tryd.prog 164 1 := ⟨by kernel_rfl⟩
instance : ByT Tryd.prog 164 2 := ⟨by kernel_rfl⟩
instance : ZrT Tryd.prog 164 (#[Value.int .u16 0]) := ⟨by kernel_rfl⟩
instance : FlT Tryd.prog 164 := ⟨by kernel_rfl⟩
instance : UT Tryd.prog 165 (TypeDesc.struct #[{ name := "PkgPath", type := 145, offset := 0, embedded := false, tag := "", pkgPath := "", byteOffset := 0 }, { name := "Mcount", type := 164, offset := 1, embedded := false, tag := "", pkgPath := "", byteOffset := 4 }, { name := "Xcount", type := 164, offset := 2, embedded := false, tag := "", pkgPath := "", byteOffset := 6 }, { name := "Moff", type := 140, offset := 3, embedded := false, tag := "", pkgPath := "", byteOffset := 8 }, { name := "_", type := 140, offset := 4, embedded := false, tag := "", pkgPath := "internal/abi", byteOffset := 12 }]) := ⟨Tryd.underlying165⟩
instance : SzT Tryd.prog 165 5 := ⟨by kernel_rfl⟩
instance : ByT Tryd.prog 165 16 := ⟨by kernel_rfl⟩
instance : ZrT Tryd.prog 165 (#[Value.int .i32 0, Value.int .u16 0, Value.int .u16 0, Value.int .u32 0, Value.int .u32 0]) := ⟨by kernel_rfl⟩
instance : RwT Tryd.prog 165 5 := ⟨by kernel_rfl⟩
instance : PlT Tryd.prog 165 [(0, 1), (1, 1), (2, 1), (3, 1), (4, 1)] := ⟨by kernel_rfl⟩
instance : UT Tryd.prog 166 (TypeDesc.struct #[{ name := "PkgPath", type := 145, offset := 0, embedded := false, tag := "", pkgPath := "", byteOffset := 0 }, { name := "Mcount", type := 164, offset := 1, embedded := false, tag := "", pkgPath := "", byteOffset := 4 }, { name := "Xcount", type := 164, offset := 2, embedded := false, tag := "", pkgPath := "", byteOffset := 6 }, { name := "Moff", type := 140, offset := 3, embedded := false, tag := "", pkgPath := "", byteOffset := 8 }, { name := "_", type := 140, offset := 4, embedded := false, tag := "", pkgPath := "internal/abi", byteOffset := 12 }]) := ⟨Tryd.underlying166⟩
instance : SzT Tryd.prog 166 5 := ⟨by kernel_rfl⟩
instance : ByT Tryd.prog 166 16 := ⟨by kernel_rfl⟩
instance : ZrT Tryd.prog 166 (#[Value.int .i32 0, Value.int .u16 0, Value.int .u16 0, Value.int .u32 0, Value.int .u32 0]) := ⟨by kernel_rfl⟩
instance : RwT Tryd.prog 166 5 := ⟨by kernel_rfl⟩
instance : PlT Tryd.prog 166 [(0, 1), (1, 1), (2, 1), (3, 1), (4, 1)] := ⟨by kernel_rfl⟩
instance : UT Tryd.prog 167 (TypeDesc.slice 170) := ⟨Tryd.underlying167⟩
instance : SzT Tryd.prog 167 1 := ⟨by kernel_rfl⟩
instance : ByT Tryd.prog 167 24 := ⟨by kernel_rfl⟩
instance : ZrT Tryd.prog 167 (#[Value.slice none 0 0]) := ⟨by kernel_rfl⟩
instance : FlT Tryd.prog 167 := ⟨by kernel_rfl⟩
instance : UT Tryd.prog 168 (TypeDesc.int IntKind.i32) := ⟨Tryd.underlying168⟩
instance : SzT Tryd.prog 168 1 := ⟨by kernel_rfl⟩
instance : ByT Tryd.prog 168 4 := ⟨by kernel_rfl⟩
instance : ZrT Tryd.prog 168 (#[Value.int .i32 0]) := ⟨by kernel_rfl⟩
instance : FlT Tryd.prog 168 := ⟨by kernel_rfl⟩
instance : UT Tryd.prog 169 (TypeDesc.struct #[{ name := "Name", type := 145, offset := 0, embedded := false, tag := "", pkgPath := "", byteOffset := 0 }, { name := "Mtyp", type := 146, offset := 1, embedded := false, tag := "", pkgPath := "", byteOffset := 4 }, { name := "Ifn", type := 168, offset := 2, embedded := false, tag := "", pkgPath := "", byteOffset := 8 }, { name := "Tfn", type := 168, offset := 3, embedded := false, tag := "", pkgPath := "", byteOffset := 12 }]) := ⟨Tryd.underlying169⟩
instance : SzT Tryd.prog 169 4 := ⟨by kernel_rfl⟩
instance : ByT Tryd.prog 169 16 := ⟨by kernel_rfl⟩
instance : ZrT Tryd.prog 169 (#[Value.int .i32 0, Value.int .i32 0, Value.int .i32 0, Value.int .i32 0]) := ⟨by kernel_rfl⟩
instance : RwT Tryd.prog 169 4 := ⟨by kernel_rfl⟩
instance : PlT Tryd.prog 169 [(0, 1), (1, 1), (2, 1), (3, 1)] := ⟨by kernel_rfl⟩
instance : UT Tryd.prog 170 (TypeDesc.struct #[{ name := "Name", type := 145, offset := 0, embedded := false, tag := "", pkgPath := "", byteOffset := 0 }, { name := "Mtyp", type := 146, offset := 1, embedded := false, tag := "", pkgPath := "", byteOffset := 4 }, { name := "Ifn", type := 168, offset := 2, embedded := false, tag := "", pkgPath := "", byteOffset := 8 }, { name := "Tfn", type := 168, offset := 3, embedded := false, tag := "", pkgPath := "", byteOffset := 12 }]) := ⟨Tryd.underlying170⟩
instance : SzT Tryd.prog 170 4 := ⟨by kernel_rfl⟩
instance : ByT Tryd.prog 170 16 := ⟨by kernel_rfl⟩
instance : ZrT Tryd.prog 170 (#[Value.int .i32 0, Value.int .i32 0, Value.int .i32 0, Value.int .i32 0]) := ⟨by kernel_rfl⟩
instance : RwT Tryd.prog 170 4 := ⟨by kernel_rfl⟩
instance : PlT Tryd.prog 170 [(0, 1), (1, 1), (2, 1), (3, 1)] := ⟨by kernel_rfl⟩
instance : UT Tryd.prog 171 (TypeDesc.func #[9] #[57] false) := ⟨Tryd.underlying171⟩
instance : SzT Tryd.prog 171 1 := ⟨by kernel_rfl⟩
instance : ByT Tryd.prog 171 8 := ⟨by kernel_rfl⟩
instance : ZrT Tryd.prog 171 (#[Value.nilFunc]) := ⟨by kernel_rfl⟩
instance : FlT Tryd.prog 171 := ⟨by kernel_rfl⟩
theorem mixed : Tryd.prog.follows .mixedOrders = true := by kernel_rfl
end Go.Proofs.YtgmghkakiocmjaaDoor
namespace Go.Proofs.YtgmghkakiocmjaaDoor
open Go Go.RowKit
set_option linter.unusedVariables false
set_option linter.unusedSimpArgs false
def secE (f : Nat → Int) : List Value := (List.range 64).map fun j => .int .u8 (f j)
def secV (f : Nat → Int) : Value := .agg (secE f).toArray
theorem secE_len (f : Nat → Int) : (secE f).length = 64 := by simp [secE]
theorem secE_one (f : Nat → Int) : allOne (secE f) = true := by
  unfold secE
  generalize List.range 64 = l
  induction l with
  | nil => rfl
  | cons x l ih => simpa [allOne, Value.oneCell'] using ih
structure Dk where
  secs : List (Nat → Int)
  M : List (ME (Nat → Int))
  cl : Nat
  fused : Bool
  fuse : Int
  gone : Bool
def Dk.new (n : Nat) : Dk := ⟨List.replicate n (fun _ => 0), [], 0, false, 0, false⟩
def Dk.pgone (D : Dk) : Bool := D.gone || (D.fused && D.fuse == 0)
abbrev DskL (gd gw gm : Nat) (D : Dk) : List Chunk := [.blk gd (.cells #[.slice (some ⟨gw, 0, none⟩) D.secs.length D.secs.length, .map (some gm), .bool D.fused, .int .i64 D.fuse, .bool D.gone] 52 (0, 0)), .blk gw (.cells (D.secs.flatMap secE).toArray 81 (0, 0)), .blk gm (.map (mEs secV D.M) D.cl)]
theorem feetD {gd gw gm : Nat} {D : Dk} : feet (DskL gd gw gm D) = [gd, gw, gm] := rfl
set_option maxRecDepth 100000 in
set_option maxHeartbeats 4000000 in
theorem has_t (gd : Nat) (n : Nat) (s : Option Addr) (c : Nat) (vs : List Value) (i : Int) (w : World) (hO : Old w gd 0 (.slice s n c :: vs)) (hi : 0 ≤ i ∧ i < n) : CA Tryd.prog 40 [.pointer (some ⟨gd, 0, none⟩), .int .i64 i] w (RV (.bool true) w) := by
  refine enter (L := []) (X := []) Tryd.func40 rfl Tryd.ntmps40 rfl rfl (Has.nil _) ?_
  repeat (first | refine c_seq ?_ | (refine c_region (id := 0) ?_; refine sq qa ?_; refine l_nil ?_) | (refine c_region (id := 1) ?_; refine sq qm ?_; refine sq (by first | exact dgeqt | exact dgeqf) ?_; refine sq qm ?_; (first | refine sk ?_ | refine skv ?_ | (refine st_want rfl rfl ?_; refine sq qm ?_)); (first | refine sk ?_ | refine skv ?_ | (refine st_want rfl rfl ?_; refine sq qm ?_)); (first | refine sk ?_ | refine skv ?_ | (refine st_want rfl rfl ?_; refine sq qn ?_)); (first | refine sk ?_ | refine skv ?_ | (refine st_want rfl rfl ?_; refine sq qf ?_)); (first | refine sk ?_ | refine skv ?_ | (refine st_want rfl rfl ?_; refine sq (by exact ql (hr := Rd.oldn (j := 0) hO (by rfl) (by simp))) ?_)); (first | refine sk ?_ | refine skv ?_ | (refine st_want rfl rfl ?_; refine sq qls ?_)); (first | refine sk ?_ | refine skv ?_ | (refine st_want rfl rfl ?_; refine sq (by first | exact dlsst | exact dlssf) ?_)); refine sq (by first | exact qpt | exact qpf) ?_; refine sq qa ?_; refine l_nil ?_) | refine n_then ?_ | refine c_block ?_ | refine c_skip ?_ | refine n_block ?_ | refine c_exit ?_ | refine n_then_exit ?_ | refine n_block_eq ?_ | refine n_block_ne rfl ?_ | refine c_ret ?_ | refine n_then_ret ?_ | refine n_block_ret ?_ | refine c_cond_t rfl ?_ | refine c_cond_f rfl ?_ | refine r_succ ?_ )
  (first | apply r_ret () | apply r_end ()); exact rfl; exact rfl; exact (.tmp rfl .nil); exact rfl; exact (List.nil_sublist _); exact new_nil; exact trivial
set_option maxRecDepth 100000 in
set_option maxHeartbeats 4000000 in
theorem pow_c (gd gm : Nat) (s : Value) (fu go : Bool) (fz : Int) (hf : 0 ≤ fz ∧ fz ≤ 9223372036854775807) (w : World) (hL0 : Has [.blk gd (.cells #[s, .map (some gm), .bool fu, .int .i64 fz, .bool go] 52 (0, 0))] w) :
    CA Tryd.prog 41 [.pointer (some ⟨gd, 0, none⟩)] w (RU (.bool (!(go || (fu && fz == 0)))) gd (.cells #[s, .map (some gm), .bool fu, .int .i64 (if go || (fu && fz == 0) then fz else if fu then fz - 1 else fz), .bool (go || (fu && fz == 0))] 52 (0, 0)) w) := by
  cases fu with
  | false =>
    simp only [Bool.false_and, Bool.or_false, Bool.false_eq_true, if_false, ite_self]
    cases go with
    | true =>
      refine enter (L := [.blk gd (.cells #[s, .map (some gm), .bool false, .int .i64 fz, .bool true] 52 (0, 0))]) (X := [gd]) Tryd.func41 rfl Tryd.ntmps41 rfl rfl hL0 ?_
      repeat (first | refine c_seq ?_ | (refine c_region (id := 0) ?_; refine sq qa ?_; refine l_nil ?_) | (refine c_region (id := 1) ?_; refine sq qm ?_; refine sq qn ?_; refine sq qf ?_; refine sq ql ?_; refine sq qm ?_; (first | refine sk ?_ | refine skv ?_ | (refine st_want rfl rfl ?_; refine sq qm ?_)); (first | refine sk ?_ | refine skv ?_ | (refine st_want rfl rfl ?_; refine sq qn ?_)); (first | refine sk ?_ | refine skv ?_ | (refine st_want rfl rfl ?_; refine sq qf ?_)); (first | refine sk ?_ | refine skv ?_ | (refine st_want rfl rfl ?_; refine sq ql ?_)); (first | refine sk ?_ | refine skv ?_ | (refine st_want rfl rfl ?_; refine sq (by first | exact deqlt | exact deqlf) ?_)); refine sq (by first | exact qpt | exact qpf) ?_; refine l_nil ?_) | (refine c_region (id := 3) ?_; refine sq qm ?_; refine sq qn ?_; refine sq qf ?_; refine sq ql ?_; refine l_nil ?_) | (refine c_region (id := 4) ?_; refine sq qa ?_; refine l_nil ?_) | refine n_then ?_ | refine c_block ?_ | refine c_skip ?_ | refine n_block ?_ | refine c_exit ?_ | refine n_then_exit ?_ | refine n_block_eq ?_ | refine n_block_ne rfl ?_ | refine c_ret ?_ | refine n_then_ret ?_ | refine n_block_ret ?_ | refine c_cond_t rfl ?_ | refine c_cond_f rfl ?_ | refine r_succ ?_ )
      (first | apply r_ret () | apply r_end ()); exact rfl; exact rfl; exact (.tmp rfl .nil); exact rfl; exact (by exact (by (repeat (first | exact List.nil_sublist _ | exact List.Sublist.slnil | apply List.Sublist.cons_cons | exact List.Sublist.refl _ | apply List.Sublist.cons)))); exact (by intro g hg; simp [feet, Chunk.foot] at hg; exact .inl (by simp [hg])); exact trivial
    | false =>
      refine enter (L := [.blk gd (.cells #[s, .map (some gm), .bool false, .int .i64 fz, .bool false] 52 (0, 0))]) (X := [gd]) Tryd.func41 rfl Tryd.ntmps41 rfl rfl hL0 ?_
      repeat (first | refine c_seq ?_ | (refine c_region (id := 0) ?_; refine sq qa ?_; refine l_nil ?_) | (refine c_region (id := 1) ?_; refine sq qm ?_; refine sq qn ?_; refine sq qf ?_; refine sq ql ?_; refine sq qm ?_; (first | refine sk ?_ | refine skv ?_ | (refine st_want rfl rfl ?_; refine sq qm ?_)); (first | refine sk ?_ | refine skv ?_ | (refine st_want rfl rfl ?_; refine sq qn ?_)); (first | refine sk ?_ | refine skv ?_ | (refine st_want rfl rfl ?_; refine sq qf ?_)); (first | refine sk ?_ | refine skv ?_ | (refine st_want rfl rfl ?_; refine sq ql ?_)); (first | refine sk ?_ | refine skv ?_ | (refine st_want rfl rfl ?_; refine sq (by first | exact deqlt | exact deqlf) ?_)); refine sq (by first | exact qpt | exact qpf) ?_; refine l_nil ?_) | (refine c_region (id := 3) ?_; refine sq qm ?_; refine sq qn ?_; refine sq qf ?_; refine sq ql ?_; refine l_nil ?_) | (refine c_region (id := 5) ?_; refine sq qm ?_; refine sq qn ?_; refine sq qf ?_; refine sq ql ?_; refine l_nil ?_) | (refine c_region (id := 7) ?_; refine sq qa ?_; refine l_nil ?_) | refine n_then ?_ | refine c_block ?_ | refine c_skip ?_ | refine n_block ?_ | refine c_exit ?_ | refine n_then_exit ?_ | refine n_block_eq ?_ | refine n_block_ne rfl ?_ | refine c_ret ?_ | refine n_then_ret ?_ | refine n_block_ret ?_ | refine c_cond_t rfl ?_ | refine c_cond_f rfl ?_ | refine r_succ ?_ )
      (first | apply r_ret () | apply r_end ()); exact rfl; exact rfl; exact (.tmp rfl .nil); exact rfl; exact (by exact (by (repeat (first | exact List.nil_sublist _ | exact List.Sublist.slnil | apply List.Sublist.cons_cons | exact List.Sublist.refl _ | apply List.Sublist.cons)))); exact (by intro g hg; simp [feet, Chunk.foot] at hg; exact .inl (by simp [hg])); exact trivial
  | true =>
    simp only [Bool.true_and, if_true]
    by_cases hz : fz = 0
    · have e : (fz == 0) = true := by simpa using hz
      rw [e]
      simp only [Bool.or_true, if_true, Bool.not_true]
      cases go with
      | true =>
        refine enter (L := [.blk gd (.cells #[s, .map (some gm), .bool true, .int .i64 fz, .bool true] 52 (0, 0))]) (X := [gd]) Tryd.func41 rfl Tryd.ntmps41 rfl rfl hL0 ?_
        repeat (first | refine c_seq ?_ | (refine c_region (id := 0) ?_; refine sq qa ?_; refine l_nil ?_) | (refine c_region (id := 1) ?_; refine sq qm ?_; refine sq qn ?_; refine sq qf ?_; refine sq ql ?_; refine sq qm ?_; (first | refine sk ?_ | refine skv ?_ | (refine st_want rfl rfl ?_; refine sq qm ?_)); (first | refine sk ?_ | refine skv ?_ | (refine st_want rfl rfl ?_; refine sq qn ?_)); (first | refine sk ?_ | refine skv ?_ | (refine st_want rfl rfl ?_; refine sq qf ?_)); (first | refine sk ?_ | refine skv ?_ | (refine st_want rfl rfl ?_; refine sq ql ?_)); (first | refine sk ?_ | refine skv ?_ | (refine st_want rfl rfl ?_; refine sq (by first | exact deqlt | exact deqlf) ?_)); refine sq (by first | exact qpt | exact qpf) ?_; refine l_nil ?_) | (refine c_region (id := 2) ?_; refine sq qm ?_; refine sq qn ?_; refine sq qf ?_; refine se ?_; refine es1 ?_ (hg := .inl (by simp)); refine l_nil ?_) | (refine c_region (id := 3) ?_; refine sq qm ?_; refine sq qn ?_; refine sq qf ?_; refine sq ql ?_; refine l_nil ?_) | (refine c_region (id := 4) ?_; refine sq qa ?_; refine l_nil ?_) | refine n_then ?_ | refine c_block ?_ | refine c_skip ?_ | refine n_block ?_ | refine c_exit ?_ | refine n_then_exit ?_ | refine n_block_eq ?_ | refine n_block_ne rfl ?_ | refine c_ret ?_ | refine n_then_ret ?_ | refine n_block_ret ?_ | refine c_cond_t rfl ?_ | refine c_cond_f rfl ?_ | refine r_succ ?_ )
        (first | apply r_ret () | apply r_end ()); exact rfl; exact rfl; exact (.tmp rfl .nil); exact rfl; exact (by exact (by (repeat (first | exact List.nil_sublist _ | exact List.Sublist.slnil | apply List.Sublist.cons_cons | exact List.Sublist.refl _ | apply List.Sublist.cons)))); exact (by intro g hg; simp [feet, Chunk.foot] at hg; exact .inl (by simp [hg])); exact trivial
      | false =>
        refine enter (L := [.blk gd (.cells #[s, .map (some gm), .bool true, .int .i64 fz, .bool false] 52 (0, 0))]) (X := [gd]) Tryd.func41 rfl Tryd.ntmps41 rfl rfl hL0 ?_
        repeat (first | refine c_seq ?_ | (refine c_region (id := 0) ?_; refine sq qa ?_; refine l_nil ?_) | (refine c_region (id := 1) ?_; refine sq qm ?_; refine sq qn ?_; refine sq qf ?_; refine sq ql ?_; refine sq qm ?_; (first | refine sk ?_ | refine skv ?_ | (refine st_want rfl rfl ?_; refine sq qm ?_)); (first | refine sk ?_ | refine skv ?_ | (refine st_want rfl rfl ?_; refine sq qn ?_)); (first | refine sk ?_ | refine skv ?_ | (refine st_want rfl rfl ?_; refine sq qf ?_)); (first | refine sk ?_ | refine skv ?_ | (refine st_want rfl rfl ?_; refine sq ql ?_)); (first | refine sk ?_ | refine skv ?_ | (refine st_want rfl rfl ?_; refine sq (by first | exact deqlt | exact deqlf) ?_)); refine sq (by first | exact qpt | exact qpf) ?_; refine l_nil ?_) | (refine c_region (id := 2) ?_; refine sq qm ?_; refine sq qn ?_; refine sq qf ?_; refine se ?_; refine es1 ?_ (hg := .inl (by simp)); refine l_nil ?_) | (refine c_region (id := 3) ?_; refine sq qm ?_; refine sq qn ?_; refine sq qf ?_; refine sq ql ?_; refine l_nil ?_) | (refine c_region (id := 4) ?_; refine sq qa ?_; refine l_nil ?_) | refine n_then ?_ | refine c_block ?_ | refine c_skip ?_ | refine n_block ?_ | refine c_exit ?_ | refine n_then_exit ?_ | refine n_block_eq ?_ | refine n_block_ne rfl ?_ | refine c_ret ?_ | refine n_then_ret ?_ | refine n_block_ret ?_ | refine c_cond_t rfl ?_ | refine c_cond_f rfl ?_ | refine r_succ ?_ )
        (first | apply r_ret () | apply r_end ()); exact rfl; exact rfl; exact (.tmp rfl .nil); exact rfl; exact (by exact (by (repeat (first | exact List.nil_sublist _ | exact List.Sublist.slnil | apply List.Sublist.cons_cons | exact List.Sublist.refl _ | apply List.Sublist.cons)))); exact (by intro g hg; simp [feet, Chunk.foot] at hg; exact .inl (by simp [hg])); exact trivial
    · have e : (fz == 0) = false := by simpa using hz
      rw [e]
      simp only [Bool.or_false]
      cases go with
      | true =>
        simp only [if_true, Bool.not_true]
        refine enter (L := [.blk gd (.cells #[s, .map (some gm), .bool true, .int .i64 fz, .bool true] 52 (0, 0))]) (X := [gd]) Tryd.func41 rfl Tryd.ntmps41 rfl rfl hL0 ?_
        repeat (first | refine c_seq ?_ | (refine c_region (id := 0) ?_; refine sq qa ?_; refine l_nil ?_) | (refine c_region (id := 1) ?_; refine sq qm ?_; refine sq qn ?_; refine sq qf ?_; refine sq ql ?_; refine sq qm ?_; (first | refine sk ?_ | refine skv ?_ | (refine st_want rfl rfl ?_; refine sq qm ?_)); (first | refine sk ?_ | refine skv ?_ | (refine st_want rfl rfl ?_; refine sq qn ?_)); (first | refine sk ?_ | refine skv ?_ | (refine st_want rfl rfl ?_; refine sq qf ?_)); (first | refine sk ?_ | refine skv ?_ | (refine st_want rfl rfl ?_; refine sq ql ?_)); (first | refine sk ?_ | refine skv ?_ | (refine st_want rfl rfl ?_; refine sq (by first | exact deqlt | exact deqlf) ?_)); refine sq (by first | exact qpt | exact qpf) ?_; refine l_nil ?_) | (refine c_region (id := 3) ?_; refine sq qm ?_; refine sq qn ?_; refine sq qf ?_; refine sq ql ?_; refine l_nil ?_) | (refine c_region (id := 4) ?_; refine sq qa ?_; refine l_nil ?_) | refine n_then ?_ | refine c_block ?_ | refine c_skip ?_ | refine n_block ?_ | refine c_exit ?_ | refine n_then_exit ?_ | refine n_block_eq ?_ | refine n_block_ne rfl ?_ | refine c_ret ?_ | refine n_then_ret ?_ | refine n_block_ret ?_ | refine c_cond_t rfl ?_ | refine c_cond_f rfl ?_ | refine r_succ ?_ )
        (first | apply r_ret () | apply r_end ()); exact rfl; exact rfl; exact (.tmp rfl .nil); exact rfl; exact (by exact (by (repeat (first | exact List.nil_sublist _ | exact List.Sublist.slnil | apply List.Sublist.cons_cons | exact List.Sublist.refl _ | apply List.Sublist.cons)))); exact (by intro g hg; simp [feet, Chunk.foot] at hg; exact .inl (by simp [hg])); exact trivial
      | false =>
        simp only [Bool.false_eq_true, if_false, Bool.not_false]
        refine enter (L := [.blk gd (.cells #[s, .map (some gm), .bool true, .int .i64 fz, .bool false] 52 (0, 0))]) (X := [gd]) Tryd.func41 rfl Tryd.ntmps41 rfl rfl hL0 ?_
        repeat (first | refine c_seq ?_ | (refine c_region (id := 0) ?_; refine sq qa ?_; refine l_nil ?_) | (refine c_region (id := 1) ?_; refine sq qm ?_; refine sq qn ?_; refine sq qf ?_; refine sq ql ?_; refine sq qm ?_; (first | refine sk ?_ | refine skv ?_ | (refine st_want rfl rfl ?_; refine sq qm ?_)); (first | refine sk ?_ | refine skv ?_ | (refine st_want rfl rfl ?_; refine sq qn ?_)); (first | refine sk ?_ | refine skv ?_ | (refine st_want rfl rfl ?_; refine sq qf ?_)); (first | refine sk ?_ | refine skv ?_ | (refine st_want rfl rfl ?_; refine sq ql ?_)); (first | refine sk ?_ | refine skv ?_ | (refine st_want rfl rfl ?_; refine sq (by first | exact deqlt | exact deqlf) ?_)); refine sq (by first | exact qpt | exact qpf) ?_; refine l_nil ?_) | (refine c_region (id := 3) ?_; refine sq qm ?_; refine sq qn ?_; refine sq qf ?_; refine sq ql ?_; refine l_nil ?_) | (refine c_region (id := 5) ?_; refine sq qm ?_; refine sq qn ?_; refine sq qf ?_; refine sq ql ?_; refine l_nil ?_) | (refine c_region (id := 6) ?_; refine sq qm ?_; refine sq qn ?_; refine sq qf ?_; refine sq ql ?_; refine sq qsub64 ?_; refine sq qn ?_; refine sq qf ?_; refine se ?_; refine es1 ?_ (hg := .inl (by simp)); refine l_nil ?_) | (refine c_region (id := 7) ?_; refine sq qa ?_; refine l_nil ?_) | refine n_then ?_ | refine c_block ?_ | refine c_skip ?_ | refine n_block ?_ | refine c_exit ?_ | refine n_then_exit ?_ | refine n_block_eq ?_ | refine n_block_ne rfl ?_ | refine c_ret ?_ | refine n_then_ret ?_ | refine n_block_ret ?_ | refine c_cond_t rfl ?_ | refine c_cond_f rfl ?_ | refine r_succ ?_ )
        (first | apply r_ret () | apply r_end ()); exact rfl; exact rfl; exact (.tmp rfl .nil); exact rfl; exact (by exact (by (repeat (first | exact List.nil_sublist _ | exact List.Sublist.slnil | apply List.Sublist.cons_cons | exact List.Sublist.refl _ | apply List.Sublist.cons)))); exact (by intro g hg; simp [feet, Chunk.foot] at hg; exact .inl (by simp [hg])); exact trivial
theorem slblkZ {n m : Nat} {T : List (Nat × Value)} {X : List Nat} {w0 : World} {L L' : List Chunk} {F : Act → World → Prop} {e : TypeId} {g cap sz : Nat} {xs : List Value} (hc : xs.length = cap * sz) (hp : Pl (.sl (some ⟨g, 0, none⟩) cap e sz xs) (.blk g (.cells xs.toArray e (0, 0))) L L') (h : ∀ a w, SS n T X w0 m L' a w → F a w) : ∀ a w, SS n T X w0 m L a w → F a w := by
  intro a w hs
  have hk := hs.has.ok _ hp.mem
  refine h a w ⟨hs.agr, hs.ch, hs.size, Has.repl hp hs.has (fun g hg => .inl (by simpa [Chunk.foot] using hg)) ?_ (fun _ _ _ => rfl)⟩
  simp only [Chunk.ok] at hk ⊢
  rcases hk with ⟨h1, _⟩ | ⟨g', cs, h1, h2, h3, h4⟩
  · cases h1
  · simp only [Option.some.injEq, Addr.mk.injEq, and_true] at h1
    subst h1
    rw [h2]
    congr 2
    have h5 : cs.toList = xs := by
      rw [← h4, List.take_of_length_le (by simp; omega)]
    rw [← h5, Array.toArray_toList]
theorem zsec : secE (fun _ => 0) = List.replicate 64 (.int .u8 0) := rfl
theorem madeSec (n : Nat) : (madeCells (List.replicate 64 (Value.int .u8 0)).toArray (n * 64)).toList = (List.replicate n (fun _ : Nat => (0 : Int))).flatMap secE := by
  have h1 : (madeCells (List.replicate 64 (Value.int .u8 0)).toArray (n * 64)).toList = List.replicate (n * 64) (.int .u8 0) := by
    rw [List.eq_replicate_iff]
    refine ⟨by simp [madeCells], fun b hb => ?_⟩
    simp only [madeCells, Array.toList_map, List.mem_map] at hb
    obtain ⟨i, _, rfl⟩ := hb
    have hlt : i % (List.replicate 64 (Value.int .u8 0)).toArray.size < (List.replicate 64 (Value.int .u8 0)).toArray.size := Nat.mod_lt _ (by simp)
    rw [getElem!_pos (List.replicate 64 (Value.int .u8 0)).toArray (i % _) hlt]
    simp only [List.getElem_toArray, List.getElem_replicate]
  rw [h1]
  symm
  rw [List.eq_replicate_iff]
  refine ⟨by rw [flat_len secE_len]; simp, fun b hb => ?_⟩
  obtain ⟨f, hf, hb⟩ := List.mem_flatMap.1 hb
  rw [List.eq_of_mem_replicate hf, zsec] at hb
  exact List.eq_of_mem_replicate hb
set_option maxRecDepth 100000 in
set_option maxHeartbeats 4000000 in
theorem newd_c (n : Nat) (hn : n ≤ 16384) (w : World) :
    CA Tryd.prog 7 [.int .i64 (n : Int)] w (Ret (fun z : Nat × Nat × Nat => .pointer (some ⟨z.1, 0, none⟩)) [] (fun z => DskL z.1 z.2.1 z.2.2 (Dk.new n)) (fun _ => True) w) := by
  refine enter (L := []) (X := []) Tryd.func7 rfl Tryd.ntmps7 rfl rfl (Has.nil _) ?_
  repeat (first | refine c_seq ?_ | (refine c_region (id := 0) ?_; refine sq qa ?_; refine l_nil ?_) | (refine c_region (id := 1) ?_; refine sq qm ?_; refine sq (by exact Qt.cast (v' := .int .i64 ((n : Nat) : Int)) (congrArg (Value.int .i64) (by split <;> omega)) (q_max rfl rfl)) ?_; refine sq (by exact Qt.cast (v' := .int .i64 ((n : Nat) : Int)) (congrArg (Value.int .i64) (by split <;> omega)) (q_min rfl rfl)) ?_; refine se ?_; refine e_make (zs := (List.replicate 64 (Value.int .u8 0)).toArray) rfl rfl rfl (by omega) (by omega) (by omega) (by omega) ?_; refine se ?_; refine e_makeMap secV rfl ?_; refine sq qbs ?_; refine se ?_; refine eb ?_; refine sq qa ?_; refine l_nil ?_) | refine n_then ?_ | refine c_block ?_ | refine c_skip ?_ | refine n_block ?_ | refine c_exit ?_ | refine n_then_exit ?_ | refine n_block_eq ?_ | refine n_block_ne rfl ?_ | refine c_ret ?_ | refine n_then_ret ?_ | refine n_block_ret ?_ | refine c_cond_t rfl ?_ | refine c_cond_f rfl ?_ | refine r_succ ?_ )
  refine chg (L' := [.blk (w.heap.size + 1 + 1) (.cells #[.slice (some ⟨w.heap.size, 0, none⟩) n n, .map (some (w.heap.size + 1)), .bool false, .int .i64 0, .bool false] 52 (0, 0)), .blk (w.heap.size + 1) (.map (mEs secV []) 0), .sl (some ⟨w.heap.size, 0, none⟩) n 81 64 ((List.replicate n (fun _ : Nat => (0 : Int))).flatMap secE)]) (by rw [← madeSec]; rfl) ?_
  refine slblkZ (g := w.heap.size) (cap := n) (sz := 64) (xs := (List.replicate n (fun _ : Nat => (0 : Int))).flatMap secE) (by rw [flat_len secE_len]; simp) (by (repeat (first | exact Pl.here | apply Pl.there))) ?_
  refine fgs (A := DskL (w.heap.size + 1 + 1) w.heap.size (w.heap.size + 1) (Dk.new n)) (R := []) (by unfold Dk.new DskL; simp only [List.length_replicate]; exact Sp.cons (by (repeat (first | exact Rm.here | apply Rm.there))) (Sp.cons (by (repeat (first | exact Rm.here | apply Rm.there))) (Sp.cons (by (repeat (first | exact Rm.here | apply Rm.there))) Sp.nil))) ?_
  (first | apply r_ret (w.heap.size + 1 + 1, w.heap.size, w.heap.size + 1) | apply r_end (w.heap.size + 1 + 1, w.heap.size, w.heap.size + 1)); exact rfl; exact rfl; exact (.tmp rfl .nil); exact rfl; exact (List.Sublist.refl _); exact (by intro g hg; rw [feetD] at hg; simp at hg; rcases hg with hg | hg | hg <;> exact .inr (by omega)); exact trivial
end Go.Proofs.YtgmghkakiocmjaaDoor
namespace Go.Proofs.YtgmghkakiocmjaaDoor
open Go Go.RowKit
set_option linter.unusedVariables false
set_option linter.unusedSimpArgs false
theorem allOne_u8c (l : List Int) : allOne (l.map (Value.int .u8)) = true := by
  induction l with
  | nil => rfl
  | cons x l ih => simpa [allOne, Value.oneCell'] using ih
set_option maxRecDepth 100000 in
set_option maxHeartbeats 4000000 in
theorem clone_c (a : Option Addr) (len cap : Nat) (xs : List Int) (hxl : xs.length = len) (hbig : len ≤ 100000000) (w : World) (hs : SlE (Value.int .u8) w a xs) :
    CA Tryd.prog 48 [.slice a len cap] w (RLe (Value.int .u8) 5 (fun zs => zs = xs) w) := by
  rcases a with _ | p
  · have hx0 : xs = [] := by
      rcases hs.h with h9 | ⟨g, o, e, _⟩
      · exact h9
      · cases e
    refine enter (L := []) (X := []) Tryd.func48 rfl Tryd.ntmps48 rfl rfl (Has.nil _) ?_
    repeat (first | refine c_seq ?_ | (refine c_region (id := 0) ?_; refine sq qa ?_; refine l_nil ?_) | (refine c_region (id := 1) ?_; refine sq qm ?_; refine sq (by exact q_eql_nil rfl rfl) ?_; refine l_nil ?_) | (refine c_region (id := 2) ?_; refine sq qa ?_; refine l_nil ?_) | refine n_then ?_ | refine c_block ?_ | refine c_skip ?_ | refine n_block ?_ | refine c_exit ?_ | refine n_then_exit ?_ | refine n_block_eq ?_ | refine n_block_ne rfl ?_ | refine c_ret ?_ | refine n_then_ret ?_ | refine n_block_ret ?_ | refine c_cond_t rfl ?_ | refine c_cond_f rfl ?_ | refine r_succ ?_ )
    refine add_nil 5 1 ?_
    (first | apply r_ret (none, 0, []) | apply r_end (none, 0, [])); exact rfl; exact rfl; exact (.tmp rfl .nil); exact rfl; exact (by exact (by (repeat (first | exact List.nil_sublist _ | exact List.Sublist.slnil | apply List.Sublist.cons_cons | exact List.Sublist.refl _ | apply List.Sublist.cons)))); exact (new_sl (OS.nil [] w.heap.size).newc new_nil); exact ⟨by simp, hx0.symm⟩
  · refine enter (L := []) (X := []) Tryd.func48 rfl Tryd.ntmps48 rfl rfl (Has.nil _) ?_
    repeat (first | refine c_seq ?_ | (refine c_region (id := 0) ?_; refine sq qa ?_; refine l_nil ?_) | (refine c_region (id := 1) ?_; refine sq qm ?_; refine sq (by exact q_eql_nil rfl rfl) ?_; refine l_nil ?_) | (refine c_region (id := 3) ?_; refine se ?_; refine e_buildSlice0 rfl ?_; refine sq qm ?_; refine se ?_; refine e_appL (Value.int .u8) [] xs rfl rfl rfl (by (repeat (first | exact Rm.here | apply Rm.there))) hs.rdN rfl hxl ⟨Nat.le_refl _, by omega, .inr ⟨_, rfl⟩, by simp [Chunk.foot]⟩ (allOne_u8c _) (by omega) (by omega) ?_; intro b1 cap1 m1 ho1 hm1; refine sq qa ?_; refine l_nil ?_) | refine n_then ?_ | refine c_block ?_ | refine c_skip ?_ | refine n_block ?_ | refine c_exit ?_ | refine n_then_exit ?_ | refine n_block_eq ?_ | refine n_block_ne rfl ?_ | refine c_ret ?_ | refine n_then_ret ?_ | refine n_block_ret ?_ | refine c_cond_t rfl ?_ | refine c_cond_f rfl ?_ | refine r_succ ?_ )
    rw [Nat.zero_add, ← hxl] at ho1 ⊢
    (first | apply r_ret (b1, cap1, xs) | apply r_end (b1, cap1, xs)); exact rfl; exact rfl; exact (.tmp rfl .nil); exact rfl; exact (by exact (by (repeat (first | exact List.nil_sublist _ | exact List.Sublist.slnil | apply List.Sublist.cons_cons | exact List.Sublist.refl _ | apply List.Sublist.cons)))); exact (new_sl ho1.newc new_nil); exact ⟨by have h9 := ho1.ret; exact h9, rfl⟩
def secL (f : Nat → Int) (i : Nat) : List Int := (List.range i).map f
theorem secL_len (f : Nat → Int) (i : Nat) : (secL f i).length = i := by simp [secL]
theorem secE_eq (f : Nat → Int) : secE f = (secL f 64).map (Value.int .u8) := by simp [secE, secL]
end Go.Proofs.YtgmghkakiocmjaaDoor
namespace Go.Proofs.YtgmghkakiocmjaaDoor
open Go Go.RowKit
set_option linter.unusedVariables false
section
variable {P : Program} {n m d : Nat} {T : List (Nat × Value)} {X : List Nat} {w0 : World} {L L' : List Chunk} {K : Act → World → Prop} {Q : Exit → Act → World → Prop} {x y : Operand} {ty t e src : TypeId} {pos : String} {af : Array Edge} {gu : Option (Nat × Bool)}
theorem q_s2ap {k : Nat} {b : Option Addr} {len cap : Nat} {dst : Option Tmp} (hx : ev T x = some (.slice b len cap)) [hu : UT P t (.array k e)] (hk : k ≤ len) : Qt P X w0 ⟨dst, .sliceToArrayPointer t x, ty, pos, af, gu⟩ T L (.pointer b) := by
  refine ⟨?_⟩
  intro n a w hA hC hL
  simp [execOp, hA.eval hx, run_arrayAt (P := P) w t e k b len cap hu.h hk]
end
end Go.Proofs.YtgmghkakiocmjaaDoor
namespace Go.Proofs.YtgmghkakiocmjaaDoor
open Go Go.RowKit
set_option linter.unusedVariables false
set_option linter.unusedSimpArgs false
def Dk.dead (D : Dk) : Dk := { D with gone := true }
def Dk.lit (D : Dk) : Dk := { D with fuse := if D.fused then D.fuse - 1 else D.fuse, gone := false }
def Dk.put (D : Dk) (i : Nat) (f : Nat → Int) : Dk := match mFind D.M i with
  | none => { D with secs := D.secs.set i f, M := D.M ++ [((i : Int), (D.secs[i]?).getD (fun _ => 0), D.cl)], cl := D.cl + 1 }
  | some _ => { D with secs := D.secs.set i f }
theorem setSec (f : Nat → Int) {secs : List (Nat → Int)} {i : Nat} {g : Nat → Int} (h : secs[i]? = some g) : setA (secs.flatMap secE).toArray (i * 64) (secE f) = ((secs.set i f).flatMap secE).toArray := by
  have hi := (List.getElem?_eq_some_iff.1 h).1
  apply Array.ext'
  rw [setA_toList _ _ _ (by simp only [List.size_toArray, secE_len, flat_len secE_len]; omega)]
  simp only [secE_len]
  rw [List.set_eq_take_append_cons_drop, if_pos hi, List.flatMap_append, List.flatMap_cons, flat_take secE_len, flat_drop secE_len]
  simp only [Nat.add_mul, Nat.one_mul, List.append_assoc]
theorem pow_no (gd gw gm : Nat) (D : Dk) (hf : 0 ≤ D.fuse ∧ D.fuse ≤ 9223372036854775807) (hp : D.pgone = true) (w : World) (h : Has [.blk gd (.cells #[.slice (some ⟨gw, 0, none⟩) D.secs.length D.secs.length, .map (some gm), .bool D.fused, .int .i64 D.fuse, .bool D.gone] 52 (0, 0))] w) :
    CA Tryd.prog 41 [.pointer (some ⟨gd, 0, none⟩)] w (RU (.bool false) gd (.cells #[.slice (some ⟨gw, 0, none⟩) D.secs.length D.secs.length, .map (some gm), .bool D.fused, .int .i64 D.fuse, .bool true] 52 (0, 0)) w) := by
  have h1 := pow_c gd gm (.slice (some ⟨gw, 0, none⟩) D.secs.length D.secs.length) D.fused D.gone D.fuse hf w h
  unfold Dk.pgone at hp
  rw [hp] at h1
  exact h1
theorem pow_yes (gd gw gm : Nat) (D : Dk) (hf : 0 ≤ D.fuse ∧ D.fuse ≤ 9223372036854775807) (hp : D.pgone = false) (w : World) (h : Has [.blk gd (.cells #[.slice (some ⟨gw, 0, none⟩) D.secs.length D.secs.length, .map (some gm), .bool D.fused, .int .i64 D.fuse, .bool D.gone] 52 (0, 0))] w) :
    CA Tryd.prog 41 [.pointer (some ⟨gd, 0, none⟩)] w (RU (.bool true) gd (.cells #[.slice (some ⟨gw, 0, none⟩) D.secs.length D.secs.length, .map (some gm), .bool D.fused, .int .i64 (if D.fused then D.fuse - 1 else D.fuse), .bool false] 52 (0, 0)) w) := by
  have h1 := pow_c gd gm (.slice (some ⟨gw, 0, none⟩) D.secs.length D.secs.length) D.fused D.gone D.fuse hf w h
  unfold Dk.pgone at hp
  rw [hp] at h1
  exact h1
set_option maxRecDepth 100000 in
set_option maxHeartbeats 4000000 in
theorem rd_ok (gd gw gm : Nat) (D : Dk) (i : Nat) (f : Nat → Int) (hs : D.secs[i]? = some f) (hg : D.gone = false) (hn : D.secs.length ≤ 16384) (w : World) (hD : Has (DskL gd gw gm D) w) :
    CA Tryd.prog 51 [.pointer (some ⟨gd, 0, none⟩), .int .i64 (i : Int)] w (Ret (fun z : Option Addr × Nat => .tuple #[.slice z.1 64 z.2, .int .i64 0]) [] (fun z => [.sl z.1 z.2 5 1 ((secL f 64).map (Value.int .u8))]) (fun z => 64 ≤ z.2 ∧ z.2 ≤ 9223372036854775807 ∧ ∃ g, z.1 = some ⟨g, 0, none⟩) w) := by
  have hi := (List.getElem?_eq_some_iff.1 hs).1
  obtain ⟨secs, M, cl, fu, fz, go⟩ := D
  dsimp only at hg hs hn hi
  subst hg
  have hat := flat_at secE_len hs
  rw [secE_eq] at hat
  refine enter (L := [.blk gd (.cells #[.slice (some ⟨gw, 0, none⟩) secs.length secs.length, .map (some gm), .bool fu, .int .i64 fz, .bool false] 52 (0, 0)), .blk gw (.cells (secs.flatMap secE).toArray 81 (0, 0))]) (X := []) Tryd.func51 rfl Tryd.ntmps51 rfl rfl (hD.sub (by (repeat (first | exact List.nil_sublist _ | exact List.Sublist.slnil | apply List.Sublist.cons_cons | exact List.Sublist.refl _ | apply List.Sublist.cons)))) ?_
  repeat (first | refine c_seq ?_ | (refine c_region (id := 0) ?_; refine sq qa ?_; refine sq qa ?_; refine l_nil ?_) | (refine c_region (id := 1) ?_; refine sq qm ?_; refine sq qm ?_; refine se ?_; refine ecp rfl rfl (fun w hC hm hL => by exact has_t gd secs.length _ _ _ (i : Int) w (hL.old (k := 5) (by (repeat (first | exact List.Mem.head _ | apply List.Mem.tail))) (o := 0) rfl) ⟨by omega, by omega⟩) ?_; intro m' hm'; refine sq qnt ?_; refine l_nil ?_) | (refine c_region (id := 3) ?_; refine sq qm ?_; refine sq qn ?_; refine sq qf ?_; refine sq ql ?_; refine l_nil ?_) | (refine c_region (id := 5) ?_; refine sq qm ?_; refine sq qn ?_; refine sq qf ?_; refine sq ql ?_; refine sq qm ?_; refine sq qis ?_; refine sq qsa ?_; refine se ?_; refine e_callL (enc := (Value.int .u8)) (e := 5) rfl rfl (by kernel_rfl) rfl (fun w hC hm hL => by exact clone_c _ 64 64 (secL f 64) (secL_len _ _) (by omega) w (SlE.blk hL (by (repeat (first | exact List.Mem.head _ | apply List.Mem.tail))) (i * 64) 64 hat)) ?_; intro b cap zs m2 hz ho hm2; subst hz; refine sq qa ?_; refine sq qa ?_; refine l_nil ?_) | refine n_then ?_ | refine c_block ?_ | refine c_skip ?_ | refine n_block ?_ | refine c_exit ?_ | refine n_then_exit ?_ | refine n_block_eq ?_ | refine n_block_ne rfl ?_ | refine c_ret ?_ | refine n_then_ret ?_ | refine n_block_ret ?_ | refine c_cond_t rfl ?_ | refine c_cond_f rfl ?_ | refine r_succ ?_ )
  rw [secL_len] at ho
  refine chg (L' := [.sl b cap 5 1 ((secL f 64).map (Value.int .u8)), .blk gd (.cells #[.slice (some ⟨gw, 0, none⟩) secs.length secs.length, .map (some gm), .bool fu, .int .i64 fz, .bool false] 52 (0, 0)), .blk gw (.cells (secs.flatMap secE).toArray 81 (0, 0))]) (by rfl) ?_
  (first | apply r_ret (b, cap) | apply r_end (b, cap)); exact rfl; exact rfl; exact (.tmp rfl (.tmp rfl .nil)); exact (by simp only [secL_len]; rfl); exact (by exact (by (repeat (first | exact List.nil_sublist _ | exact List.Sublist.slnil | apply List.Sublist.cons_cons | exact List.Sublist.refl _ | apply List.Sublist.cons)))); exact (new_sl ho.newc new_nil); exact ⟨ho.le, ho.max, ho.some (by omega)⟩
set_option maxRecDepth 100000 in
set_option maxHeartbeats 4000000 in
theorem wr_lost (gd gw gm : Nat) (D : Dk) (hf : 0 ≤ D.fuse ∧ D.fuse ≤ 9223372036854775807) (hp : D.pgone = true) (i : Int) (hi : 0 ≤ i ∧ i < D.secs.length) (a : Option Addr) (cap : Nat) (w : World) (hD : Has (DskL gd gw gm D) w) :
    CA Tryd.prog 17 [.pointer (some ⟨gd, 0, none⟩), .int .i64 i, .slice a 64 cap] w (Ret (fun _ : Unit => .int .i64 5) [gd, gw, gm] (fun _ => DskL gd gw gm D.dead) (fun _ => True) w) := by
  refine enter (L := DskL gd gw gm D) (X := [gd, gw, gm]) Tryd.func17 rfl Tryd.ntmps17 rfl rfl hD ?_
  repeat (first | refine c_seq ?_ | (refine c_region (id := 0) ?_; refine sq qa ?_; refine l_nil ?_) | (refine c_region (id := 1) ?_; refine sq qm ?_; refine sq qm ?_; refine se ?_; refine ecp rfl rfl (fun w hC hm hL => by exact has_t gd D.secs.length _ _ _ i w (hL.old (k := 5) (by (repeat (first | exact List.Mem.head _ | apply List.Mem.tail))) (o := 0) rfl) ⟨by omega, by omega⟩) ?_; intro m' hm'; refine sq qnt ?_; refine sq qm ?_; (first | refine sk ?_ | refine skv ?_ | (refine st_want rfl rfl ?_; refine sq qm ?_)); (first | refine sk ?_ | refine skv ?_ | (refine st_want rfl rfl ?_; refine sq qls ?_)); (first | refine sk ?_ | refine skv ?_ | (refine st_want rfl rfl ?_; refine sq (by first | exact dneqt | exact dneqf) ?_)); refine sq (by first | exact qpt | exact qpf) ?_; refine l_nil ?_) | (refine c_region (id := 3) ?_; refine sq qm ?_; refine se ?_; refine e_call_upd rfl rfl (by kernel_rfl) rfl (fun w hC hm hL => by exact pow_no gd gw gm D hf hp w (hL.sub (by (repeat (first | exact List.nil_sublist _ | exact List.Sublist.slnil | apply List.Sublist.cons_cons | exact List.Sublist.refl _ | apply List.Sublist.cons))))) (by (repeat (first | exact Pl.here | apply Pl.there))) (.inl (by simp)) ?_; intro m' hm'; refine sq qnt ?_; refine l_nil ?_) | (refine c_region (id := 4) ?_; refine sq qa ?_; refine l_nil ?_) | refine n_then ?_ | refine c_block ?_ | refine c_skip ?_ | refine n_block ?_ | refine c_exit ?_ | refine n_then_exit ?_ | refine n_block_eq ?_ | refine n_block_ne rfl ?_ | refine c_ret ?_ | refine n_then_ret ?_ | refine n_block_ret ?_ | refine c_cond_t rfl ?_ | refine c_cond_f rfl ?_ | refine r_succ ?_ )
  (first | apply r_ret () | apply r_end ()); exact rfl; exact rfl; exact (.tmp rfl .nil); exact rfl; exact (List.Sublist.refl _); exact (by intro g hg; rw [feetD] at hg; exact .inl hg); exact trivial
set_option maxRecDepth 100000 in
set_option maxHeartbeats 4000000 in
theorem wr_ok (gd gw gm : Nat) (D : Dk) (hf : 0 ≤ D.fuse ∧ D.fuse ≤ 9223372036854775807) (hp : D.pgone = false) (hn : D.secs.length ≤ 16384) (i : Nat) (hi : i < D.secs.length) (f : Nat → Int) (a : Option Addr) (cap : Nat) (w : World) (hb : SlE (Value.int .u8) w a (secL f 64)) (hx : ∀ g o, a = some ⟨g, o, none⟩ → g ∉ [gd, gw, gm]) (hD : Has (DskL gd gw gm D) w) :
    CA Tryd.prog 17 [.pointer (some ⟨gd, 0, none⟩), .int .i64 (i : Int), .slice a 64 cap] w (Ret (fun _ : Unit => .int .i64 0) [gd, gw, gm] (fun _ => DskL gd gw gm (D.lit.put i f)) (fun _ => True) w) := by
  obtain ⟨s0, hs⟩ : ∃ s0, D.secs[i]? = some s0 := ⟨_, List.getElem?_eq_getElem hi⟩
  obtain ⟨g, o, rfl, hO⟩ := hb.get (i := 0) (by rw [secL_len]; omega)
  replace hx := hx g o rfl
  rw [← secE_eq] at hO
  have hl2 : (secE f).length = 64 := secE_len f
  have hl0 : (secE s0).length = 64 := secE_len s0
  have hat := flat_at secE_len hs
  cases hm : mFind D.M (i : Int) with
  | none =>
    have hq : D.lit.put i f = { D.lit with secs := D.secs.set i f, M := D.M ++ [((i : Int), s0, D.cl)], cl := D.cl + 1 } := by
      show (match mFind D.M (i : Int) with | none => _ | some _ => _) = _
      rw [hm]
      simp only [Dk.lit, hs, Option.getD_some]
    rw [hq]
    refine enter (L := DskL gd gw gm D) (X := [gd, gw, gm]) Tryd.func17 rfl Tryd.ntmps17 rfl rfl hD ?_
    repeat (first | refine c_seq ?_ | (refine c_region (id := 0) ?_; refine sq qa ?_; refine l_nil ?_) | (refine c_region (id := 1) ?_; refine sq qm ?_; refine sq qm ?_; refine se ?_; refine ecp rfl rfl (fun w hC hm hL => by exact has_t gd D.secs.length _ _ _ (i : Int) w (hL.old (k := 5) (by (repeat (first | exact List.Mem.head _ | apply List.Mem.tail))) (o := 0) rfl) ⟨by omega, by omega⟩) ?_; intro m' hm'; refine sq qnt ?_; refine sq qm ?_; (first | refine sk ?_ | refine skv ?_ | (refine st_want rfl rfl ?_; refine sq qm ?_)); (first | refine sk ?_ | refine skv ?_ | (refine st_want rfl rfl ?_; refine sq qls ?_)); (first | refine sk ?_ | refine skv ?_ | (refine st_want rfl rfl ?_; refine sq (by first | exact dneqt | exact dneqf) ?_)); refine sq (by first | exact qpt | exact qpf) ?_; refine l_nil ?_) | (refine c_region (id := 3) ?_; refine sq qm ?_; refine se ?_; refine e_call_upd rfl rfl (by kernel_rfl) rfl (fun w hC hm hL => by exact pow_yes gd gw gm D hf hp w (hL.sub (by (repeat (first | exact List.nil_sublist _ | exact List.Sublist.slnil | apply List.Sublist.cons_cons | exact List.Sublist.refl _ | apply List.Sublist.cons))))) (by (repeat (first | exact Pl.here | apply Pl.there))) (.inl (by simp)) ?_; intro m' hm'; refine sq qnt ?_; refine l_nil ?_) | (refine c_region (id := 5) ?_; refine sq qm ?_; refine sq qn ?_; refine sq qf ?_; refine sq ql ?_; refine sq qm ?_; refine sq (by exact q_lookup_ok (v := .tuple #[.agg (secE (fun _ => 0)).toArray, .bool false]) secV D.M rfl rfl (zs := (secE (fun _ => 0)).toArray) (by simp [secE]) (by (repeat (first | exact List.Mem.head _ | apply List.Mem.tail))) hm rfl) ?_; refine sq qm ?_; refine sq qe ?_; refine sq qe ?_; refine se ?_; refine ea ?_; refine se ?_; refine esa ?_; refine sq qa ?_; refine l_nil ?_) | (refine c_region (id := 6) ?_; refine sq qm ?_; refine sq qnt ?_; refine l_nil ?_) | (refine x_region (id := 7) none [(0, .n), (1, .n), (2, .n), (3, .q), (4, .n), (5, .n), (6, .n), (7, .n), (8, .q), (9, .n), (10, .n), (11, .q), (12, .e)] (List.eraseIdx _ 3) mixed (by kernel_rfl) (List.eraseIdx_sublist _ _) ?_; refine xn rfl qm ?_; refine xn rfl qn ?_; refine xn rfl qf ?_; refine xq rfl ql ?_; refine xn rfl qm ?_; refine xn rfl qm ?_; refine xn rfl qn ?_; refine xn rfl qf ?_; refine xq rfl ql ?_; refine xn rfl qm ?_; refine xn rfl qis ?_; refine xq rfl (by exact qlr (vs := secE s0) (by rfl) (RdN.blk (by (repeat (first | exact List.Mem.head _ | apply List.Mem.tail))) (by rw [hl0]; exact hat)) hl0) ?_; refine x_e rfl ?_; refine e_mapNew secV D.M s0 rfl rfl rfl hm (by (repeat (first | exact Pl.here | apply Pl.there))) (.inl (by simp)) ?_; refine xk ?_; refine x_nil ?_) | (refine x_region (id := 8) (some 9) [(0, .n), (1, .n), (2, .n), (3, .q), (4, .n), (5, .n), (6, .n), (7, .q), (8, .n), (9, .b)] (List.eraseIdx _ 2) mixed (by kernel_rfl) (List.eraseIdx_sublist _ _) ?_; refine xn rfl qm ?_; refine xn rfl qn ?_; refine xn rfl qf ?_; refine xq rfl ql ?_; refine xn rfl qm ?_; refine xn rfl qm ?_; refine xn rfl (by exact q_s2ap rfl (by decide)) ?_; refine xq rfl (by exact qlr (vs := secE f) (by rfl) (RdN.old hO hx) hl2) ?_; refine xn rfl qis ?_; refine x_b rfl ?_; refine e_store_row (vs := (secE f).toArray) rfl rfl (by simp [secE_len]) (secE_one f) (by rw [setSec f hs]; (repeat (first | exact Pl.here | apply Pl.there))) (by simp [flat_len secE_len]; omega) (.inl (by simp)) ?_; refine x_k (List.nil_sublist _) ?_; refine x_nil ?_) | (refine c_region (id := 9) ?_; refine sq qa ?_; refine l_nil ?_) | refine n_then ?_ | refine c_block ?_ | refine c_skip ?_ | refine n_block ?_ | refine c_exit ?_ | refine n_then_exit ?_ | refine n_block_eq ?_ | refine n_block_ne rfl ?_ | refine c_ret ?_ | refine n_then_ret ?_ | refine n_block_ret ?_ | refine c_cond_t rfl ?_ | refine c_cond_f rfl ?_ | refine r_succ ?_ )
    (first | apply r_ret () | apply r_end ()); exact rfl; exact rfl; exact (.tmp rfl .nil); exact rfl; exact (by have e9 : (D.secs.set i f).length = D.secs.length := List.length_set; refine List.Sublist.trans (l₂ := [.blk gd (.cells #[.slice (some ⟨gw, 0, none⟩) D.secs.length D.secs.length, .map (some gm), .bool D.fused, .int .i64 (if D.fused then D.fuse - 1 else D.fuse), .bool false] 52 (0, 0)), .blk gw (.cells ((D.secs.set i f).flatMap secE).toArray 81 (0, 0)), .blk gm (.map (mEs secV (D.M ++ [((i : Int), s0, D.cl)])) (D.cl + 1))]) (by unfold DskL; simp only [e9]; exact List.Sublist.refl _) (by exact (by (repeat (first | exact List.nil_sublist _ | exact List.Sublist.slnil | apply List.Sublist.cons_cons | exact List.Sublist.refl _ | apply List.Sublist.cons))))); exact (by intro g hg; rw [feetD] at hg; exact .inl hg); exact trivial
  | some s9 =>
    have hq : D.lit.put i f = { D.lit with secs := D.secs.set i f } := by
      show (match mFind D.M (i : Int) with | none => _ | some _ => _) = _
      rw [hm]
      rfl
    rw [hq]
    refine enter (L := DskL gd gw gm D) (X := [gd, gw, gm]) Tryd.func17 rfl Tryd.ntmps17 rfl rfl hD ?_
    repeat (first | refine c_seq ?_ | (refine c_region (id := 0) ?_; refine sq qa ?_; refine l_nil ?_) | (refine c_region (id := 1) ?_; refine sq qm ?_; refine sq qm ?_; refine se ?_; refine ecp rfl rfl (fun w hC hm hL => by exact has_t gd D.secs.length _ _ _ (i : Int) w (hL.old (k := 5) (by (repeat (first | exact List.Mem.head _ | apply List.Mem.tail))) (o := 0) rfl) ⟨by omega, by omega⟩) ?_; intro m' hm'; refine sq qnt ?_; refine sq qm ?_; (first | refine sk ?_ | refine skv ?_ | (refine st_want rfl rfl ?_; refine sq qm ?_)); (first | refine sk ?_ | refine skv ?_ | (refine st_want rfl rfl ?_; refine sq qls ?_)); (first | refine sk ?_ | refine skv ?_ | (refine st_want rfl rfl ?_; refine sq (by first | exact dneqt | exact dneqf) ?_)); refine sq (by first | exact qpt | exact qpf) ?_; refine l_nil ?_) | (refine c_region (id := 3) ?_; refine sq qm ?_; refine se ?_; refine e_call_upd rfl rfl (by kernel_rfl) rfl (fun w hC hm hL => by exact pow_yes gd gw gm D hf hp w (hL.sub (by (repeat (first | exact List.nil_sublist _ | exact List.Sublist.slnil | apply List.Sublist.cons_cons | exact List.Sublist.refl _ | apply List.Sublist.cons))))) (by (repeat (first | exact Pl.here | apply Pl.there))) (.inl (by simp)) ?_; intro m' hm'; refine sq qnt ?_; refine l_nil ?_) | (refine c_region (id := 5) ?_; refine sq qm ?_; refine sq qn ?_; refine sq qf ?_; refine sq ql ?_; refine sq qm ?_; refine sq (by exact q_lookup_ok (v := .tuple #[secV s9, .bool true]) secV D.M rfl rfl (zs := (secE (fun _ => 0)).toArray) (by simp [secE]) (by (repeat (first | exact List.Mem.head _ | apply List.Mem.tail))) hm rfl) ?_; refine sq qm ?_; refine sq qe ?_; refine sq qe ?_; refine se ?_; refine ea ?_; refine se ?_; refine esa ?_; refine sq qa ?_; refine l_nil ?_) | (refine c_region (id := 6) ?_; refine sq qm ?_; refine sq qnt ?_; refine l_nil ?_) | (refine x_region (id := 8) (some 9) [(0, .n), (1, .n), (2, .n), (3, .q), (4, .n), (5, .n), (6, .n), (7, .q), (8, .n), (9, .b)] (List.eraseIdx _ 2) mixed (by kernel_rfl) (List.eraseIdx_sublist _ _) ?_; refine xn rfl qm ?_; refine xn rfl qn ?_; refine xn rfl qf ?_; refine xq rfl ql ?_; refine xn rfl qm ?_; refine xn rfl qm ?_; refine xn rfl (by exact q_s2ap rfl (by decide)) ?_; refine xq rfl (by exact qlr (vs := secE f) (by rfl) (RdN.old hO hx) hl2) ?_; refine xn rfl qis ?_; refine x_b rfl ?_; refine e_store_row (vs := (secE f).toArray) rfl rfl (by simp [secE_len]) (secE_one f) (by rw [setSec f hs]; (repeat (first | exact Pl.here | apply Pl.there))) (by simp [flat_len secE_len]; omega) (.inl (by simp)) ?_; refine x_k (List.nil_sublist _) ?_; refine x_nil ?_) | (refine c_region (id := 9) ?_; refine sq qa ?_; refine l_nil ?_) | refine n_then ?_ | refine c_block ?_ | refine c_skip ?_ | refine n_block ?_ | refine c_exit ?_ | refine n_then_exit ?_ | refine n_block_eq ?_ | refine n_block_ne rfl ?_ | refine c_ret ?_ | refine n_then_ret ?_ | refine n_block_ret ?_ | refine c_cond_t rfl ?_ | refine c_cond_f rfl ?_ | refine r_succ ?_ )
    (first | apply r_ret () | apply r_end ()); exact rfl; exact rfl; exact (.tmp rfl .nil); exact rfl; exact (by have e9 : (D.secs.set i f).length = D.secs.length := List.length_set; refine List.Sublist.trans (l₂ := [.blk gd (.cells #[.slice (some ⟨gw, 0, none⟩) D.secs.length D.secs.length, .map (some gm), .bool D.fused, .int .i64 (if D.fused then D.fuse - 1 else D.fuse), .bool false] 52 (0, 0)), .blk gw (.cells ((D.secs.set i f).flatMap secE).toArray 81 (0, 0)), .blk gm (.map (mEs secV D.M) D.cl)]) (by unfold DskL; simp only [e9]; exact List.Sublist.refl _) (by exact (by (repeat (first | exact List.nil_sublist _ | exact List.Sublist.slnil | apply List.Sublist.cons_cons | exact List.Sublist.refl _ | apply List.Sublist.cons))))); exact (by intro g hg; rw [feetD] at hg; exact .inl hg); exact trivial
end Go.Proofs.YtgmghkakiocmjaaDoor
namespace Go.Proofs.YtgmghkakiocmjaaDoor
open Go Go.RowKit
set_option linter.unusedVariables false
section
variable {P : Program} {n m d : Nat} {T : List (Nat × Value)} {X : List Nat} {w0 : World} {L L' : List Chunk} {K : Act → World → Prop} {Q : Exit → Act → World → Prop} {x y : Operand} {ty t e t2 : TypeId} {pos : String} {af : Array Edge} {gu : Option (Nat × Bool)}
theorem e_appZ {k bytes : Nat} {zz : Value} (hx : ev T x = some (.slice none 0 0)) (hy : ev T y = some (.int .i64 (k : Int))) (hd : Nat.blt d n = true)
    [hu : UT P t (.slice e)] [hu2 : UT P t2 (.int .i64)] [hs : SzT P e 1] [hb : ByT P e bytes] [hz : ZrT P e #[zz]] (h0 : 0 < k) (hby : k * bytes ≤ 140737488355328) (hk : k ≤ 4611686018427387904)
    (h : ∀ cap', k ≤ cap' → cap' ≤ 9223372036854775807 → ∀ a w, SS n ((d, .slice (some ⟨m, 0, none⟩) k cap') :: T) X w0 (m + 1) (.sl (some ⟨m, 0, none⟩) cap' e 1 [] :: L) a w → K a w) :
    ∀ a w, SS n T X w0 m L a w → OW P ⟨some d, .call { callee := .builtin .append, args := #[x, y], argTypes := #[t, t2] }, ty, pos, af, gu⟩ K Q a w := by
  intro a w hs'
  obtain ⟨hA, hC, rfl, hL⟩ := hs'
  obtain ⟨it, z, h1, h2, h3⟩ := zeroOf_spec hz.h
  have hs1 := hs.h
  have hb1 := hb.h
  simp only [h1, Option.map_some, Option.some.injEq] at hs1 hb1
  have hr := Lib.run_append_grow_zeros (P := P) w t t2 ty e it z .i64 .i64 hu.h hu2.h h1 h2 none 0 0 [] (run_firstCells_none w.drew it.size 0 0 0) k h0 (by omega) (by omega) (by omega) (by rw [hb1]; omega) (growslice_fits (by omega) (by rw [hb1, Nat.zero_add]; exact hby))
  rw [Nat.zero_add] at hr
  have hL0 : Has L w.drew := hL.drew _
  have hC0 : Ch X w0 w.drew := hC.drew _
  have hge := grownCap_ge w k 0 e
  have hle := grownCap_le_maxLen w k 0 e (by simp only [maxLen]; omega)
  obtain ⟨G, hG⟩ : ∃ G, G = grownCap w k 0 e := ⟨_, rfl⟩
  rw [← hG] at hr hge hle
  have hcz : ([].toArray ++ Builtin.zeroCells z.cells k ++ Builtin.zeroCells z.cells (G - k)).size = G := by
    simp [size_zeroCells, h3]; omega
  generalize ([].toArray ++ Builtin.zeroCells z.cells k ++ Builtin.zeroCells z.cells (G - k)) = C at hr hcz
  have h4 := hL0.alloc (.cells C e)
  refine wp_value (w' := w.drew.alloc (.cells C e)) (v := .slice (some ⟨w.heap.size, 0, none⟩) k G) ?_ (h G hge (by simpa [maxLen] using hle) _ _ ⟨hA.put _ hd, hC0.alloc _, by simp, ?_⟩)
  · simp only [execOp, resolve, Sem.run_bind, Sem.run_pure, Result.andThen_ok, invoke, List.map_toArray, List.map_cons, List.map_nil, hA.eval hx, hA.eval hy, builtin, hr]
  · exact Has.repl (w := w.drew.alloc (.cells C e)) (c := .blk w.heap.size (.cells C e)) .here h4 (fun k hk => .inl (by simpa [Chunk.foot] using hk)) (.inr ⟨w.heap.size, C, rfl, h4.ok _ (List.mem_cons_self ..), by rw [hcz, Nat.mul_one], rfl⟩) (fun _ _ _ => rfl)
end
end Go.Proofs.YtgmghkakiocmjaaDoor
namespace Go.Proofs.YtgmghkakiocmjaaDoor
open Go Go.RowKit
set_option linter.unusedVariables false
section
variable {P : Program} {n m d : Nat} {T : List (Nat × Value)} {X : List Nat} {w0 : World} {L L' : List Chunk} {K : Act → World → Prop} {Q : Exit → Act → World → Prop} {x y : Operand} {ty t e : TypeId} {pos : String} {af : Array Edge} {gu : Option (Nat × Bool)}
theorem e_appG {α : Type} (enc : α → Value) (zs ys : List α) {p q : Addr} {len cap bytes len2 cap2 : Nat} {zz : Value} (hx : ev T x = some (.slice (some p) len cap)) (hy : ev T y = some (.slice (some q) len2 cap2)) (hd : Nat.blt d n = true)
    [hu : UT P t (.slice e)] [hs : SzT P e 1] [hb : ByT P e bytes] [hz : ZrT P e #[zz]] (hv1 : RdN X w0 L p (zs.map enc)) (hv : RdN X w0 L q (ys.map enc))
    (hlen : zs.length = len) (hlen2 : ys.length = len2) (hone : allOne (ys.map enc) = true) (hfull : cap < len + len2) (hby : (len + len2) * bytes ≤ 140737488355328) (hl9 : len + len2 ≤ 9223372036854775807)
    (h : ∀ cap', len + len2 ≤ cap' → cap' ≤ 9223372036854775807 → ∀ a w, SS n ((d, .slice (some ⟨m, 0, none⟩) (len + len2) cap') :: T) X w0 (m + 1) (.sl (some ⟨m, 0, none⟩) cap' e 1 ((zs ++ ys).map enc) :: L) a w → K a w) :
    ∀ a w, SS n T X w0 m L a w → OW P ⟨some d, .call { callee := .builtin .append, args := #[x, y], argTypes := #[t, t] }, ty, pos, af, gu⟩ K Q a w := by
  intro a w hs'
  obtain ⟨hA, hC, rfl, hL⟩ := hs'
  obtain ⟨it, z, h1, h2, h3⟩ := zeroOf_spec hz.h
  have hs1 := hs.h
  have hb1 := hb.h
  simp only [h1, Option.map_some, Option.some.injEq] at hs1 hb1
  have hL0 : Has L w.drew := hL.drew _
  have hC0 : Ch X w0 w.drew := hC.drew _
  have hold := run_firstCells_some (P := P) w.drew it.size len p len cap (zs.map enc) (by rw [hs1]; simp [hlen]) (hv1.cells hC0 hL0)
  have hsrc : Src P it.size t (.slice (some q) len2 cap2) len2 (ys.map enc) w := by
    rw [hs1]
    exact Src.ofVw hu.h (.inr ⟨q, rfl, hv⟩) (by simp [hlen2]) (fun h => by cases h) (allOne_mem hone) hC hL
  have hr := run_append_grow_src (P := P) w t t ty e it z hu.h h1 h2 (some p) len cap (zs.map enc) hold (.slice (some q) len2 cap2) len2 (ys.map enc) hsrc hfull (by omega) (growslice_fits (by omega) (by rw [hb1]; exact hby))
  have hge := grownCap_ge w (len + len2) cap e
  have hle := grownCap_le_maxLen w (len + len2) cap e (by simp only [maxLen]; omega)
  obtain ⟨G, hG⟩ : ∃ G, G = grownCap w (len + len2) cap e := ⟨_, rfl⟩
  rw [← hG] at hr hge hle
  have hcz : ((zs.map enc ++ ys.map enc).toArray ++ Builtin.zeroCells z.cells (G - (len + len2))).size = G := by
    simp [size_zeroCells, h3, hlen, hlen2]; omega
  have hct : ((zs.map enc ++ ys.map enc).toArray ++ Builtin.zeroCells z.cells (G - (len + len2))).toList.take ((zs ++ ys).map enc).length = (zs ++ ys).map enc := by
    rw [List.map_append, Array.toList_append]
    exact List.take_left
  generalize ((zs.map enc ++ ys.map enc).toArray ++ Builtin.zeroCells z.cells (G - (len + len2))) = C at hr hcz hct
  have h4 := hL0.alloc (.cells C e)
  refine wp_value (w' := w.drew.alloc (.cells C e)) (v := .slice (some ⟨w.heap.size, 0, none⟩) (len + len2) G) ?_ (h G hge (by simpa [maxLen] using hle) _ _ ⟨hA.put _ hd, hC0.alloc _, by simp, ?_⟩)
  · simp only [execOp, resolve, Sem.run_bind, Sem.run_pure, Result.andThen_ok, invoke, List.map_toArray, List.map_cons, List.map_nil, hA.eval hx, hA.eval hy, builtin, hr]
  · exact Has.repl (w := w.drew.alloc (.cells C e)) (c := .blk w.heap.size (.cells C e)) .here h4 (fun k hk => .inl (by simpa [Chunk.foot] using hk)) (.inr ⟨w.heap.size, C, rfl, h4.ok _ (List.mem_cons_self ..), by rw [hcz, Nat.mul_one], hct⟩) (fun _ _ _ => rfl)
theorem q_eql_pnil {a : Addr} {dst : Option Tmp} {ty2 : TypeId} (hx : ev T x = some (.pointer (some a))) (hy : ev T y = some (.pointer none)) (hu : P.underlying t = some (.pointer (P.pointee t))) : Qt P X w0 ⟨dst, .binOp .eql t x y ty2, ty, pos, af, gu⟩ T L (.bool false) :=
  q_bin_val hx hy (fun w => by simp [eqGuard]) (fun w => by have h := run_eql_pointer_nil (P := P) w t (some a) hu; simpa using h)
end
end Go.Proofs.YtgmghkakiocmjaaDoor
namespace Go.Proofs.YtgmghkakiocmjaaDoor
open Go Go.RowKit
set_option linter.unusedVariables false
set_option linter.unusedSimpArgs false
structure RB (F : Nat → Int) : Prop where
  h : ∀ j, 0 ≤ F j ∧ F j ≤ 255
def numB (F : Nat → Int) (o : Nat) : Nat → Int
  | 0 => 0
  | k + 1 => numB F o k * 256 + F (o + k)
theorem numB_rng {F : Nat → Int} (hF : RB F) (o : Nat) : ∀ k, 0 ≤ numB F o k ∧ numB F o k < 256 ^ k
  | 0 => by simp [numB]
  | k + 1 => by
    have h1 := numB_rng hF o k
    have h2 := hF.h (o + k)
    rw [numB, Int.pow_succ]
    generalize (256 : Int) ^ k = p at h1 ⊢
    omega
theorem or_low (a b : Nat) (h : b < 256) : (a * 256) ||| b = a * 256 + b := by
  rw [show a * 256 = a * 2 ^ 8 from rfl, ← Nat.shiftLeft_eq, ← Nat.shiftLeft_add_eq_or_of_lt (i := 8) h]
theorem num_step {x d : Int} (hx : 0 ≤ x ∧ x < 72057594037927936) (hd : 0 ≤ d ∧ d ≤ 255) : bits .or .u64 (x * 2 ^ (8 : Int).toNat % 18446744073709551616) (d % 18446744073709551616) = x * 256 + d := by
  obtain ⟨n, rfl⟩ := Int.eq_ofNat_of_zero_le hx.1
  obtain ⟨q, rfl⟩ := Int.eq_ofNat_of_zero_le hd.1
  have e1 : ((n : Int) * 2 ^ (8 : Int).toNat % 18446744073709551616) = ((n * 256 : Nat) : Int) := by
    show ((n : Int) * 256 % 18446744073709551616) = _
    omega
  have e2 : ((q : Int) % 18446744073709551616) = ((q : Nat) : Int) := by omega
  rw [e1, e2, u64_or_nat _ _ (by omega) (by omega), or_low _ _ (by omega)]
  omega
theorem pw256 : ∀ i, i < 8 → (256 : Int) ^ i ≤ 72057594037927936 := by decide
def byI (F : Nat → Int) (o k : Nat) : List Int := (List.range k).map fun j => F (o + j)
def byS (F : Nat → Int) (o k : Nat) : List Value := (byI F o k).map (Value.int .u8)
theorem byS_nth (F : Nat → Int) (o k i : Nat) (h : i < k) : nth (byS F o k) i = some (.int .u8 (F (o + i))) := by
  rw [nth_eq]; simp [byS, byI, h]
theorem byS_len (F : Nat → Int) (o k : Nat) : (byS F o k).length = k := by simp [byS, byI]
theorem byS_sub (F : Nat → Int) (o k a n : Nat) (h : a + n ≤ k) : ((byS F o k).drop a).take n = byS F (o + a) n := by
  apply List.ext_getElem
  · simp [byS, byI]; omega
  · intro i h1 h2
    simp [byS, byI, Nat.add_assoc]
set_option maxRecDepth 100000 in
set_option maxHeartbeats 4000000 in
theorem cnumber_c (F : Nat → Int) (hF : RB F) (o : Nat) (g a cap : Nat) (w : World) (hO : Old w g a (byS F o 8)) :
    CA Tryd.prog 63 [.slice (some ⟨g, a, none⟩) 8 cap] w (RV (.int .u64 (numB F o 8)) w) := by
  refine enter (L := []) (X := []) Tryd.func63 rfl Tryd.ntmps63 rfl rfl (Has.nil _) ?_
  repeat (first | refine c_seq ?_ | (refine c_region (id := 0) ?_; refine sq qa ?_; refine l_nil ?_) | (refine c_region (id := 1) ?_; refine sq qa ?_; refine l_nil ?_) | (refine c_region (id := 2) ?_; refine sq qm ?_; refine sq qls ?_; refine sq qm ?_; refine l_nil ?_) | refine n_then ?_ | refine c_block ?_ | refine c_skip ?_ | refine n_block ?_ | refine c_exit ?_ | refine n_then_exit ?_ | refine n_block_eq ?_ | refine n_block_ne rfl ?_ | refine c_ret ?_ | refine n_then_ret ?_ | refine n_block_ret ?_ | refine c_cond_t rfl ?_ | refine c_cond_f rfl ?_ | refine r_succ ?_ )
  refine c_loop (γ := Nat) (fun i => [(8, .int .i64 i), (6, .slice (some ⟨g, a, none⟩) 8 cap), (7, .int .i64 (8 : Nat)), (3, .int .u64 (numB F o i))]) (fun _ => w.heap.size) (fun _ => []) (fun i => i ≤ 8) (fun i => 8 - i) 0 (by simp) ⟨rfl, rfl, rfl, rfl, trivial⟩ rfl (List.nil_sublist _) ?_
  intro i hi
  by_cases h8 : i < 8
  · have hr := numB_rng hF o i
    have hp : (256 : Int) ^ i ≤ 72057594037927936 := pw256 i h8
    have hst := num_step (x := numB F o i) (d := F (o + i)) ⟨hr.1, by omega⟩ (hF.h _)
    have hn := byS_nth F o 8 i h8
    repeat (first | refine c_seq ?_ | (refine c_region (id := 3) ?_; refine sq (by first | exact dlsst | exact dlssf) ?_; refine l_nil ?_) | (refine c_region (id := 4) ?_; refine sq (by exact qis (o' := a + i) (ho := by omega)) ?_; refine sq (by exact ql (hr := Rd.oldn hO hn (by simp))) ?_; refine sq qa ?_; refine l_nil ?_) | (refine c_region (id := 5) ?_; refine sq qm ?_; refine sq qshlU ?_; refine sq qm ?_; refine sq qcU ?_; refine sq qor ?_; refine sq qa ?_; refine l_nil ?_) | (refine c_region (id := 6) ?_; refine sq qadd64 ?_; refine sq qm ?_; refine l_nil ?_) | refine n_then ?_ | refine c_block ?_ | refine c_skip ?_ | refine n_block ?_ | refine c_exit ?_ | refine n_then_exit ?_ | refine n_block_eq ?_ | refine n_block_ne rfl ?_ | refine c_ret ?_ | refine n_then_ret ?_ | refine n_block_ret ?_ | refine c_cond_t rfl ?_ | refine c_cond_f rfl ?_ | refine r_succ ?_ )
    refine c_round (i + 1) (by omega) (by omega) ⟨rfl, rfl, rfl, by rw [numB, ← hst]; rfl, trivial⟩ rfl (List.nil_sublist _)
  · obtain rfl : i = 8 := by omega
    repeat (first | refine c_seq ?_ | (refine c_region (id := 3) ?_; refine sq (by first | exact dlsst | exact dlssf) ?_; refine l_nil ?_) | (refine c_region (id := 7) ?_; refine sq qm ?_; refine sq qa ?_; refine l_nil ?_) | refine n_then ?_ | refine c_block ?_ | refine c_skip ?_ | refine n_block ?_ | refine c_exit ?_ | refine n_then_exit ?_ | refine n_block_eq ?_ | refine n_block_ne rfl ?_ | refine c_ret ?_ | refine n_then_ret ?_ | refine n_block_ret ?_ | refine c_cond_t rfl ?_ | refine c_cond_f rfl ?_ | refine r_succ ?_ )
    (first | apply r_ret () | apply r_end ()); exact rfl; exact rfl; exact (.tmp rfl .nil); exact rfl; exact (List.nil_sublist _); exact new_nil; exact trivial
def shN (x : Int) (i : Nat) : Int := x / 2 ^ (8 * (i : Int)).toNat % 256
def pnI (H : Array Value) (o : Nat) (x : Int) : Nat → Array Value
  | 0 => H
  | i + 1 => (pnI H o x i).setIfInBounds (o + (7 - i)) (.int .u8 (shN x i))
theorem pnI_size (H : Array Value) (o : Nat) (x : Int) : ∀ i, (pnI H o x i).size = H.size
  | 0 => rfl
  | i + 1 => by rw [pnI, Array.size_setIfInBounds, pnI_size H o x i]
set_option maxRecDepth 100000 in
set_option maxHeartbeats 4000000 in
theorem cput_c (H : Array Value) (t : TypeId) (o g cap : Nat) (x : Int) (ho : o + 8 ≤ H.size) (w : World) (hL0 : Has [.blk g (.cells H t (0, 0))] w) :
    CA Tryd.prog 67 [.slice (some ⟨g, o, none⟩) 8 cap, .int .u64 x] w (RU (.tuple #[]) g (.cells (pnI H o x 8) t (0, 0)) w) := by
  refine enter (L := [.blk g (.cells H t (0, 0))]) (X := [g]) Tryd.func67 rfl Tryd.ntmps67 rfl rfl hL0 ?_
  repeat (first | refine c_seq ?_ | (refine c_region (id := 0) ?_; refine sq qm ?_; refine sq qls ?_; refine sq qm ?_; refine l_nil ?_) | refine n_then ?_ | refine c_block ?_ | refine c_skip ?_ | refine n_block ?_ | refine c_exit ?_ | refine n_then_exit ?_ | refine n_block_eq ?_ | refine n_block_ne rfl ?_ | refine c_ret ?_ | refine n_then_ret ?_ | refine n_block_ret ?_ | refine c_cond_t rfl ?_ | refine c_cond_f rfl ?_ | refine r_succ ?_ )
  refine c_loop (γ := Nat) (fun i => [(7, .int .i64 i), (6, .int .i64 (8 : Nat)), (0, .slice (some ⟨g, o, none⟩) 8 cap), (1, .int .u64 x)]) (fun _ => w.heap.size) (fun i => [.blk g (.cells (pnI H o x i) t (0, 0))]) (fun i => i ≤ 8) (fun i => 8 - i) 0 (by simp) ⟨rfl, rfl, rfl, rfl, trivial⟩ rfl (List.Sublist.refl _) ?_
  intro i hi
  have hsz := pnI_size H o x i
  by_cases h8 : i < 8
  · repeat (first | refine c_seq ?_ | (refine c_region (id := 1) ?_; refine sq (by first | exact dlsst | exact dlssf) ?_; refine l_nil ?_) | (refine c_region (id := 2) ?_; refine sq qm ?_; refine sq qa ?_; refine l_nil ?_) | (refine c_region (id := 3) ?_; refine sq qm ?_; refine sq qm ?_; refine sq qls ?_; refine sq qsub64 ?_; refine sq qm ?_; refine sq qsub64 ?_; refine sq qm ?_; refine sq qm ?_; refine sq qmul64 ?_; refine sq (by exact qshr (hb := by show (8 * (i : Int)).toNat ≤ 64; omega)) ?_; refine sq qc8 ?_; refine sq (by exact qis (o' := o + (7 - i)) (ho := by omega)) ?_; refine se ?_; refine es2 ?_ (hg := .inl (by simp)) (hoff := by omega); refine l_nil ?_) | (refine c_region (id := 4) ?_; refine sq qadd64 ?_; refine sq qm ?_; refine l_nil ?_) | refine n_then ?_ | refine c_block ?_ | refine c_skip ?_ | refine n_block ?_ | refine c_exit ?_ | refine n_then_exit ?_ | refine n_block_eq ?_ | refine n_block_ne rfl ?_ | refine c_ret ?_ | refine n_then_ret ?_ | refine n_block_ret ?_ | refine c_cond_t rfl ?_ | refine c_cond_f rfl ?_ | refine r_succ ?_ )
    refine c_round (i + 1) (by omega) (by omega) ⟨rfl, rfl, rfl, rfl, trivial⟩ rfl (List.Sublist.refl _)
  · obtain rfl : i = 8 := by omega
    repeat (first | refine c_seq ?_ | (refine c_region (id := 1) ?_; refine sq (by first | exact dlsst | exact dlssf) ?_; refine l_nil ?_) | refine n_then ?_ | refine c_block ?_ | refine c_skip ?_ | refine n_block ?_ | refine c_exit ?_ | refine n_then_exit ?_ | refine n_block_eq ?_ | refine n_block_ne rfl ?_ | refine c_ret ?_ | refine n_then_ret ?_ | refine n_block_ret ?_ | refine c_cond_t rfl ?_ | refine c_cond_f rfl ?_ | refine r_succ ?_ )
    (first | apply r_ret () | apply r_end ()); exact rfl; exact rfl; exact .nil; exact rfl; exact (List.Sublist.refl _); exact (by intro g hg; simp [feet, Chunk.foot] at hg; exact .inl (by simp [hg])); exact trivial
structure Hd where
  ser : Int
  cnt : Int
  nt : Nat → Int
abbrev noteE (f : Nat → Int) : List Value := [.int .u8 (f 0), .int .u8 (f 1), .int .u8 (f 2), .int .u8 (f 3), .int .u8 (f 4), .int .u8 (f 5), .int .u8 (f 6), .int .u8 (f 7), .int .u8 (f 8), .int .u8 (f 9), .int .u8 (f 10), .int .u8 (f 11), .int .u8 (f 12), .int .u8 (f 13), .int .u8 (f 14), .int .u8 (f 15)]
abbrev headE (h : Hd) : List Value := .int .u64 h.ser :: .int .u64 h.cnt :: noteE h.nt
def halfL (h : Hd) : List Int := [shN h.ser 7, shN h.ser 6, shN h.ser 5, shN h.ser 4, shN h.ser 3, shN h.ser 2, shN h.ser 1, shN h.ser 0, shN h.cnt 7, shN h.cnt 6, shN h.cnt 5, shN h.cnt 4, shN h.cnt 3, shN h.cnt 2, shN h.cnt 1, shN h.cnt 0, h.nt 0, h.nt 1, h.nt 2, h.nt 3, h.nt 4, h.nt 5, h.nt 6, h.nt 7, h.nt 8, h.nt 9, h.nt 10, h.nt 11, h.nt 12, h.nt 13, h.nt 14, h.nt 15]
def secH (h : Hd) (j : Nat) : Int := (halfL h).getD (j % 32) 0
theorem secH_list (h : Hd) : halfL h ++ halfL h = secL (secH h) 64 := rfl
theorem allOne_u8L (l : List Int) : allOne (l.map (Value.int .u8)) = true := by
  induction l with
  | nil => rfl
  | cons x l ih => simpa [allOne, Value.oneCell'] using ih
set_option maxRecDepth 100000 in
set_option maxHeartbeats 4000000 in
theorem place_c (h : Hd) (hs : 0 ≤ h.ser) (w : World) : CA Tryd.prog 53 [.agg (headE h).toArray] w (RV (.int .i64 (h.ser % 2)) w) := by
  refine enter (L := []) (X := []) Tryd.func53 rfl Tryd.ntmps53 rfl rfl (Has.nil _) ?_
  repeat (first | refine c_seq ?_ | (refine c_region (id := 0) ?_; refine se ?_; refine eb ?_; refine sq qa ?_; refine l_nil ?_) | (refine c_region (id := 1) ?_; refine sq qf ?_; refine sq ql ?_; refine sq qrem ?_; refine sq (by exact qci (h0 := by omega) (h1 := by omega)) ?_; refine sq qa ?_; refine l_nil ?_) | refine n_then ?_ | refine c_block ?_ | refine c_skip ?_ | refine n_block ?_ | refine c_exit ?_ | refine n_then_exit ?_ | refine n_block_eq ?_ | refine n_block_ne rfl ?_ | refine c_ret ?_ | refine n_then_ret ?_ | refine n_block_ret ?_ | refine c_cond_t rfl ?_ | refine c_cond_f rfl ?_ | refine r_succ ?_ )
  (first | apply r_ret () | apply r_end ()); exact rfl; exact rfl; exact (.tmp rfl .nil); exact rfl; exact (List.nil_sublist _); exact new_nil; exact trivial
set_option maxRecDepth 100000 in
set_option maxHeartbeats 4000000 in
theorem half_eq (h : Hd) : setA (pnI (pnI (List.replicate 32 (Value.int .u8 0)).toArray 0 h.ser 8) 8 h.cnt 8) 16 (noteE h.nt) = ((halfL h).map (Value.int .u8)).toArray := by
  apply Array.ext'
  simp only [pnI, setA, noteE, Array.toList_setIfInBounds, halfL, List.map_cons, List.map_nil, Nat.zero_add, Nat.sub_zero, Nat.reduceSub, Nat.reduceAdd, ← setL_eq, List.replicate, setL]
set_option maxRecDepth 100000 in
set_option maxHeartbeats 4000000 in
theorem half_c (h : Hd) (w : World) : CA Tryd.prog 64 [.agg (headE h).toArray] w (RV (.agg ((halfL h).map (Value.int .u8)).toArray) w) := by
  refine enter (L := []) (X := []) Tryd.func64 rfl Tryd.ntmps64 rfl rfl (Has.nil _) ?_
  repeat (first | refine c_seq ?_ | (refine c_region (id := 0) ?_; refine se ?_; refine eb ?_; refine se ?_; refine ea ?_; refine l_nil ?_) | (refine c_region (id := 1) ?_; refine se ?_; refine ea ?_; refine l_nil ?_) | (refine x_region (id := 2) (some 3) [(0, .n), (1, .n), (2, .q), (3, .b)] _ mixed (by kernel_rfl) (List.Sublist.refl _) ?_; refine xn rfl qsa ?_; refine xn rfl qf ?_; refine xq rfl ql ?_; refine x_b rfl ?_; refine e_call_upd rfl rfl (by kernel_rfl) rfl (fun w hC hm hL => by exact cput_c (List.replicate 32 (Value.int .u8 0)).toArray _ 0 _ _ h.ser (by simp [pnI_size]) w (hL.sub (by (repeat (first | exact List.nil_sublist _ | exact List.Sublist.slnil | apply List.Sublist.cons_cons | exact List.Sublist.refl _ | apply List.Sublist.cons))))) (by (repeat (first | exact Pl.here | apply Pl.there))) (by first | (left; simp; done) | (right; omega)) ?_; intro m' hm'; refine x_k (List.nil_sublist _) ?_; refine x_nil ?_) | refine n_then ?_ | refine c_block ?_ | refine c_skip ?_ | refine n_block ?_ | refine c_exit ?_ | refine n_then_exit ?_ | refine n_block_eq ?_ | refine n_block_ne rfl ?_ | refine c_ret ?_ | refine n_then_ret ?_ | refine n_block_ret ?_ | refine c_cond_t rfl ?_ | refine c_cond_f rfl ?_ | refine r_succ ?_ )
  repeat (first | refine c_seq ?_ | (refine x_region (id := 3) (some 3) [(0, .n), (1, .n), (2, .q), (3, .b)] _ mixed (by kernel_rfl) (List.Sublist.refl _) ?_; refine xn rfl qsa ?_; refine xn rfl qf ?_; refine xq rfl ql ?_; refine x_b rfl ?_; refine e_call_upd rfl rfl (by kernel_rfl) rfl (fun w hC hm hL => by exact cput_c (pnI (List.replicate 32 (Value.int .u8 0)).toArray 0 h.ser 8) _ 8 _ _ h.cnt (by simp [pnI_size]) w (hL.sub (by (repeat (first | exact List.nil_sublist _ | exact List.Sublist.slnil | apply List.Sublist.cons_cons | exact List.Sublist.refl _ | apply List.Sublist.cons))))) (by (repeat (first | exact Pl.here | apply Pl.there))) (by first | (left; simp; done) | (right; omega)) ?_; intro m' hm'; refine x_k (List.nil_sublist _) ?_; refine x_nil ?_) | refine n_then ?_ | refine c_block ?_ | refine c_skip ?_ | refine n_block ?_ | refine c_exit ?_ | refine n_then_exit ?_ | refine n_block_eq ?_ | refine n_block_ne rfl ?_ | refine c_ret ?_ | refine n_then_ret ?_ | refine n_block_ret ?_ | refine c_cond_t rfl ?_ | refine c_cond_f rfl ?_ | refine r_succ ?_ )
  repeat (first | refine c_seq ?_ | (refine x_region (id := 4) (some 3) [(0, .n), (1, .n), (2, .n), (3, .b)] _ mixed (by kernel_rfl) (List.Sublist.refl _) ?_; refine xn rfl qsa ?_; refine xn rfl qf ?_; refine xn rfl qsa ?_; refine x_b rfl ?_; refine e_copy (cs := pnI (pnI (List.replicate 32 (Value.int .u8 0)).toArray 0 h.ser 8) 8 h.cnt 8) (news := noteE h.nt) (k := 16) rfl rfl rfl (RdN.blk (by (repeat (first | exact List.Mem.head _ | apply List.Mem.tail))) (by rfl)) (by rfl) (by rfl) (by (repeat (first | exact Pl.here | apply Pl.there))) (by simp [pnI_size]) (by first | (left; simp; done) | (right; omega)) (by rfl) ?_; refine x_k (List.nil_sublist _) ?_; refine x_nil ?_) | refine n_then ?_ | refine c_block ?_ | refine c_skip ?_ | refine n_block ?_ | refine c_exit ?_ | refine n_then_exit ?_ | refine n_block_eq ?_ | refine n_block_ne rfl ?_ | refine c_ret ?_ | refine n_then_ret ?_ | refine n_block_ret ?_ | refine c_cond_t rfl ?_ | refine c_cond_f rfl ?_ | refine r_succ ?_ )
  rw [half_eq]
  repeat (first | refine c_seq ?_ | (refine c_region (id := 5) ?_; refine sq (by exact qlb (hl := by simp [halfL])) ?_; refine se ?_; refine esa ?_ (hk := by simp [halfL]) (ho := allOne_u8L _) (hoff := by rfl); refine l_nil ?_) | refine n_then ?_ | refine c_block ?_ | refine c_skip ?_ | refine n_block ?_ | refine c_exit ?_ | refine n_then_exit ?_ | refine n_block_eq ?_ | refine n_block_ne rfl ?_ | refine c_ret ?_ | refine n_then_ret ?_ | refine n_block_ret ?_ | refine c_cond_t rfl ?_ | refine c_cond_f rfl ?_ | refine r_succ ?_ )
  (first | apply r_ret () | apply r_end ()); exact rfl; exact rfl; exact (.row rfl (by (repeat (first | exact List.Mem.head _ | apply List.Mem.tail))) (by simp [halfL]) .nil); exact rfl; exact (List.nil_sublist _); exact new_nil; exact trivial
set_option maxRecDepth 100000 in
set_option maxHeartbeats 4000000 in
theorem sector_c (h : Hd) (w : World) : CA Tryd.prog 55 [.agg (headE h).toArray] w (RLe (Value.int .u8) 5 (fun zs => zs = secL (secH h) 64) w) := by
  refine enter (L := []) (X := []) Tryd.func55 rfl Tryd.ntmps55 rfl rfl (Has.nil _) ?_
  repeat (first | refine c_seq ?_ | (refine c_region (id := 0) ?_; refine se ?_; refine eb ?_; refine sq qa ?_; refine l_nil ?_) | (refine c_region (id := 1) ?_; refine sq (by first | exact qlb | exact qlr) ?_; refine se ?_; refine ecp rfl rfl (fun w hC hm hL => by exact half_c h w) ?_; intro m' hm'; refine se ?_; refine ea ?_; refine se ?_; refine esa ?_ (hk := by simp [halfL]) (ho := allOne_u8L _) (hoff := by rfl); refine l_nil ?_) | refine n_then ?_ | refine c_block ?_ | refine c_skip ?_ | refine n_block ?_ | refine c_exit ?_ | refine n_then_exit ?_ | refine n_block_eq ?_ | refine n_block_ne rfl ?_ | refine c_ret ?_ | refine n_then_ret ?_ | refine n_block_ret ?_ | refine c_cond_t rfl ?_ | refine c_cond_f rfl ?_ | refine r_succ ?_ )
  repeat (first | refine c_seq ?_ | (refine x_region (id := 2) (some 2) [(0, .n), (1, .n), (2, .b), (3, .n)] _ mixed (by kernel_rfl) (List.Sublist.refl _) ?_; refine xn rfl qsa ?_; refine xn rfl qsa ?_; refine x_b rfl ?_; refine e_appG (Value.int .u8) (halfL h) (halfL h) rfl rfl rfl (RdN.blk (by (repeat (first | exact List.Mem.head _ | apply List.Mem.tail))) (by simp [halfL])) (RdN.blk (by (repeat (first | exact List.Mem.head _ | apply List.Mem.tail))) (by simp [halfL])) (by rfl) (by rfl) (allOne_u8L _) (by omega) (by omega) (by omega) ?_; intro cap1 hcl1 hcm1; refine x_k (List.nil_sublist _) ?_; refine xn rfl qa ?_; refine x_nil ?_) | refine n_then ?_ | refine c_block ?_ | refine c_skip ?_ | refine n_block ?_ | refine c_exit ?_ | refine n_then_exit ?_ | refine n_block_eq ?_ | refine n_block_ne rfl ?_ | refine c_ret ?_ | refine n_then_ret ?_ | refine n_block_ret ?_ | refine c_cond_t rfl ?_ | refine c_cond_f rfl ?_ | refine r_succ ?_ )
  (first | apply r_ret (some ⟨m' + 1, 0, none⟩, cap1, halfL h ++ halfL h) | apply r_end (some ⟨m' + 1, 0, none⟩, cap1, halfL h ++ halfL h)); exact rfl; exact rfl; exact (.tmp rfl .nil); exact rfl; exact (by exact (by (repeat (first | exact List.nil_sublist _ | exact List.Sublist.slnil | apply List.Sublist.cons_cons | exact List.Sublist.refl _ | apply List.Sublist.cons)))); exact (new_sl (by intro g hg; simp [Chunk.foot] at hg; exact .inr (by omega)) new_nil); exact ⟨⟨hcl1, hcm1, .inr ⟨_, rfl⟩⟩, secH_list h⟩
theorem byI_len (F : Nat → Int) (o k : Nat) : (byI F o k).length = k := by simp [byI]
theorem byS_sz (F : Nat → Int) (o k : Nat) : (byS F o k).toArray.size = k := by simp [byS, byI]
def hdOf (F : Nat → Int) : Hd := ⟨numB F 0 8, numB F 8 8, fun j => if j < 16 then F (16 + j) else 0⟩
def hdZ : Hd := ⟨0, 0, fun _ => 0⟩
def hdS (F : Nat → Int) : Prop := ∀ j, j < 32 → F j = F (32 + j)
theorem hdS_iff (F : Nat → Int) : (byI F 0 32 = byI F 32 32) ↔ hdS F := by
  unfold hdS
  constructor
  · intro h j hj
    have h1 : (byI F 0 32)[j]? = (byI F 32 32)[j]? := by rw [h]
    simpa [byI, hj] using h1
  · intro h
    apply List.ext_getElem
    · simp [byI]
    · intro i h1 h2
      have := h i (by simpa [byI] using h1)
      simpa [byI] using this
theorem note_of (F : Nat → Int) : ((byS F 0 32).drop 16).take 16 = noteE (hdOf F).nt := by
  rw [byS_sub F 0 32 16 16 (by omega)]
  rfl
set_option maxRecDepth 100000 in
set_option maxHeartbeats 4000000 in
theorem headOf_y (F : Nat → Int) (hF : RB F) (hsm : hdS F) (g a cap : Nat) (hc : 64 ≤ cap) (w : World) (hO : Old w g a (byS F 0 64)) :
    CA Tryd.prog 52 [.slice (some ⟨g, a, none⟩) 64 cap] w (RV (.tuple #[.agg (headE (hdOf F)).toArray, .bool true]) w) := by
  have h0 : Old w g a (byS F 0 32) := by have := hO.tak 32; rwa [show (byS F 0 64).take 32 = byS F 0 32 by have := byS_sub F 0 64 0 32 (by omega); rwa [List.drop_zero] at this] at this
  have h32 : Old w g (a + 32) (byS F 32 32) := by have := (hO.drp 32).tak 32; rwa [byS_sub F 0 64 32 32 (by omega)] at this
  have hb : (byI F 0 32 != byI F 32 32) = false := by rw [(hdS_iff F).2 hsm]; simp
  focus
    refine enter (L := []) (X := []) Tryd.func52 rfl Tryd.ntmps52 rfl rfl (Has.nil _) ?_
    refine c_seq ?_
    refine c_region (id := 0) ?_
    refine se ?_; refine ea ?_
    refine sq qa ?_
    refine l_nil ?_
    refine n_then ?_
    refine c_join (γ := Nat × Nat) (fun z => [(4, .pointer (some ⟨z.1, 0, none⟩)), (5, .pointer (some ⟨z.2, 0, none⟩)), (2, .pointer (some ⟨w.heap.size, 0, none⟩)), (3, .bool false), (0, .slice (some ⟨g, a, none⟩) 64 cap)]) (fun _ => w.heap.size + 1 + 1 + 1) (fun z => [.blk z.1 (.cells (byS F 0 32).toArray 112 (0, 0)), .blk z.2 (.cells (byS F 32 32).toArray 112 (0, 0)), .blk w.heap.size (.cells (headE hdZ).toArray 70 (0, 0))]) (fun z => w.heap.size ≤ z.1 ∧ w.heap.size ≤ z.2) ?_ ?_
    · refine xa_region (id := 1) _ mixed (by kernel_rfl) rfl (List.Sublist.refl _) ?_; refine xa_y (i := 0) (by kernel_rfl) rfl (by kernel_rfl) rfl (ya_q (by exact qm)) (by (repeat (first | exact List.nil_sublist _ | exact List.Sublist.slnil | apply List.Sublist.cons_cons | exact List.Sublist.refl _ | apply List.Sublist.cons))) rfl ?_; refine xa_y (i := 1) (by kernel_rfl) rfl (by kernel_rfl) rfl (ya_q (by exact qs (b' := some ⟨g, a, none⟩) (hb' := by rw [if_neg (by omega)]; rfl))) (by (repeat (first | exact List.nil_sublist _ | exact List.Sublist.slnil | apply List.Sublist.cons_cons | exact List.Sublist.refl _ | apply List.Sublist.cons))) rfl ?_; refine xa_y (i := 2) (by kernel_rfl) rfl (by kernel_rfl) rfl (ya_q (by exact q_s2ap rfl (by decide))) (by (repeat (first | exact List.nil_sublist _ | exact List.Sublist.slnil | apply List.Sublist.cons_cons | exact List.Sublist.refl _ | apply List.Sublist.cons))) rfl ?_; refine xa_y (i := 3) (by kernel_rfl) rfl (by kernel_rfl) rfl (ya_q (by exact qlr (vs := byS F 0 32) (hr := RdN.old h0 (by simp)) (hl := byS_len _ _ _))) (by (repeat (first | exact List.nil_sublist _ | exact List.Sublist.slnil | apply List.Sublist.cons_cons | exact List.Sublist.refl _ | apply List.Sublist.cons))) rfl ?_; refine xa_y (i := 4) (by kernel_rfl) rfl (by kernel_rfl) rfl (ya_q (by exact qm)) (by (repeat (first | exact List.nil_sublist _ | exact List.Sublist.slnil | apply List.Sublist.cons_cons | exact List.Sublist.refl _ | apply List.Sublist.cons))) rfl ?_; refine xa_y (i := 5) (by kernel_rfl) rfl (by kernel_rfl) rfl (ya_q (by exact qs (b' := some ⟨g, a + 32, none⟩) (hb' := by rw [if_neg (by omega)]; rfl))) (by (repeat (first | exact List.nil_sublist _ | exact List.Sublist.slnil | apply List.Sublist.cons_cons | exact List.Sublist.refl _ | apply List.Sublist.cons))) rfl ?_; refine xa_y (i := 6) (by kernel_rfl) rfl (by kernel_rfl) rfl (ya_q (by exact q_s2ap rfl (by decide))) (by (repeat (first | exact List.nil_sublist _ | exact List.Sublist.slnil | apply List.Sublist.cons_cons | exact List.Sublist.refl _ | apply List.Sublist.cons))) rfl ?_; refine xa_y (i := 7) (by kernel_rfl) rfl (by kernel_rfl) rfl (ya_q (by exact qlr (vs := byS F 32 32) (hr := RdN.old h32 (by simp)) (hl := byS_len _ _ _))) (by (repeat (first | exact List.nil_sublist _ | exact List.Sublist.slnil | apply List.Sublist.cons_cons | exact List.Sublist.refl _ | apply List.Sublist.cons))) rfl ?_; refine xa_br 8 [9] (by kernel_rfl) ?_; refine br_cons rfl rfl ?_ ?_; (focus refine ea ?_; refine xa_k (by (repeat (first | exact Sel.nil | (refine Sel.cons (by (repeat (first | exact Rm.here | apply Rm.there))) ?_)))) ?_; refine xa_br 9 [] (by kernel_rfl) ?_; refine br_cons rfl rfl ?_ ?_; (focus refine ea ?_; refine xa_k (by (repeat (first | exact Sel.nil | (refine Sel.cons (by (repeat (first | exact Rm.here | apply Rm.there))) ?_)))) ?_; refine xa_br 10 [] (by kernel_rfl) ?_; refine br_cons rfl rfl ?_ ?_; (focus refine esa ?_ (hk := by exact byS_sz _ _ _) (ho := allOne_u8L _) (hoff := by rfl); refine xa_k (by (repeat (first | exact Sel.nil | (refine Sel.cons (by (repeat (first | exact Rm.here | apply Rm.there))) ?_)))) ?_; refine xa_br 11 [] (by kernel_rfl) ?_; refine br_cons rfl rfl ?_ ?_; (focus refine esa ?_ (hk := by exact byS_sz _ _ _) (ho := allOne_u8L _) (hoff := by rfl); refine xa_k (by (repeat (first | exact Sel.nil | (refine Sel.cons (by (repeat (first | exact Rm.here | apply Rm.there))) ?_)))) ?_; refine xa_nil (by kernel_rfl) rfl ?_; refine n_then ?_; refine c_joinedS (⟨_, _⟩ : Nat × Nat) ⟨rfl, rfl, rfl, rfl, rfl, trivial⟩ (by rfl) (by (repeat (first | exact Sel.nil | (refine Sel.cons (by (repeat (first | exact Rm.here | apply Rm.there))) ?_)))) ⟨by dsimp only; omega, by dsimp only; omega⟩); exact br_nil); exact br_nil); exact br_nil); refine br_cons rfl rfl ?_ ?_; (focus refine ea ?_; refine xa_k (by (repeat (first | exact Sel.nil | (refine Sel.cons (by (repeat (first | exact Rm.here | apply Rm.there))) ?_)))) ?_; refine xa_br 8 [] (by kernel_rfl) ?_; refine br_cons rfl rfl ?_ ?_; (focus refine ea ?_; refine xa_k (by (repeat (first | exact Sel.nil | (refine Sel.cons (by (repeat (first | exact Rm.here | apply Rm.there))) ?_)))) ?_; refine xa_br 10 [] (by kernel_rfl) ?_; refine br_cons rfl rfl ?_ ?_; (focus refine esa ?_ (hk := by exact byS_sz _ _ _) (ho := allOne_u8L _) (hoff := by rfl); refine xa_k (by (repeat (first | exact Sel.nil | (refine Sel.cons (by (repeat (first | exact Rm.here | apply Rm.there))) ?_)))) ?_; refine xa_br 11 [] (by kernel_rfl) ?_; refine br_cons rfl rfl ?_ ?_; (focus refine esa ?_ (hk := by exact byS_sz _ _ _) (ho := allOne_u8L _) (hoff := by rfl); refine xa_k (by (repeat (first | exact Sel.nil | (refine Sel.cons (by (repeat (first | exact Rm.here | apply Rm.there))) ?_)))) ?_; refine xa_nil (by kernel_rfl) rfl ?_; refine n_then ?_; refine c_joinedS (⟨_, _⟩ : Nat × Nat) ⟨rfl, rfl, rfl, rfl, rfl, trivial⟩ (by rfl) (by (repeat (first | exact Sel.nil | (refine Sel.cons (by (repeat (first | exact Rm.here | apply Rm.there))) ?_)))) ⟨by dsimp only; omega, by dsimp only; omega⟩); exact br_nil); exact br_nil); exact br_nil); exact br_nil
    · rintro z ⟨hz1, hz2⟩
      repeat (first | refine c_seq ?_ | (refine c_region (id := 2) ?_; refine sq (by exact qlb (hl := byS_sz _ _ _)) ?_; refine sq (by exact qlb (hl := byS_sz _ _ _)) ?_; refine sq (by exact Qt.cast (congrArg Value.bool hb) (q_neq_ints (xs := byI F 0 32) (ys := byI F 32 32) rfl rfl rfl rfl Tryd.eqGuardType112 (byI_len _ _ _) (byI_len _ _ _))) ?_; refine l_nil ?_) | (refine x_region (id := 4) (some 8) [(0, .n), (2, .n), (4, .n), (5, .n), (6, .q), (1, .e), (3, .e), (7, .n), (8, .b), (9, .n)] _ mixed (by kernel_rfl) (List.Sublist.refl _) ?_; refine xn rfl qsa ?_; refine xn rfl qsa ?_; refine xn rfl qsa ?_; refine xn rfl (by exact q_s2ap rfl (by decide)) ?_; refine xq rfl (by exact qlr (vs := noteE (hdOf F).nt) (hr := RdN.blk (by (repeat (first | exact List.Mem.head _ | apply List.Mem.tail))) (by exact note_of F)) (hl := by rfl)) ?_; refine x_e rfl ?_; refine ecp rfl rfl (fun w hC hm hL => by first | exact cnumber_c F hF 0 z.1 0 32 w (hL.old (k := 8) (by (repeat (first | exact List.Mem.head _ | apply List.Mem.tail))) (by exact byS_sub F 0 32 0 8 (by omega))) | exact cnumber_c F hF 8 z.1 8 24 w (hL.old (k := 8) (by (repeat (first | exact List.Mem.head _ | apply List.Mem.tail))) (by exact byS_sub F 0 32 8 8 (by omega)))) ?_; intro m' hm'; refine xk ?_; refine x_e rfl ?_; refine ecp rfl rfl (fun w hC hm hL => by first | exact cnumber_c F hF 0 z.1 0 32 w (hL.old (k := 8) (by (repeat (first | exact List.Mem.head _ | apply List.Mem.tail))) (by exact byS_sub F 0 32 0 8 (by omega))) | exact cnumber_c F hF 8 z.1 8 24 w (hL.old (k := 8) (by (repeat (first | exact List.Mem.head _ | apply List.Mem.tail))) (by exact byS_sub F 0 32 8 8 (by omega)))) ?_; intro m' hm'; refine xk ?_; refine xn rfl qbs ?_; refine x_b rfl ?_; refine esa ?_ (hk := by rfl) (ho := by rfl) (hoff := by rfl); refine x_k (List.nil_sublist _) ?_; refine xn rfl qa ?_; refine x_nil ?_) | refine n_then ?_ | refine c_block ?_ | refine c_skip ?_ | refine n_block ?_ | refine c_exit ?_ | refine n_then_exit ?_ | refine n_block_eq ?_ | refine n_block_ne rfl ?_ | refine c_ret ?_ | refine n_then_ret ?_ | refine n_block_ret ?_ | refine c_cond_t rfl ?_ | refine c_cond_f rfl ?_ | refine r_succ ?_ )
      (first | apply r_ret () | apply r_end ()); exact rfl; exact rfl; exact (.row rfl (by (repeat (first | exact List.Mem.head _ | apply List.Mem.tail))) (by rfl) (.tmp rfl .nil)); exact rfl; exact (List.nil_sublist _); exact new_nil; exact trivial
set_option maxRecDepth 100000 in
set_option maxHeartbeats 4000000 in
theorem headOf_n (F : Nat → Int) (hF : RB F) (hsm : ¬ hdS F) (g a cap : Nat) (hc : 64 ≤ cap) (w : World) (hO : Old w g a (byS F 0 64)) :
    CA Tryd.prog 52 [.slice (some ⟨g, a, none⟩) 64 cap] w (RV (.tuple #[.agg (headE hdZ).toArray, .bool false]) w) := by
  have h0 : Old w g a (byS F 0 32) := by have := hO.tak 32; rwa [show (byS F 0 64).take 32 = byS F 0 32 by have := byS_sub F 0 64 0 32 (by omega); rwa [List.drop_zero] at this] at this
  have h32 : Old w g (a + 32) (byS F 32 32) := by have := (hO.drp 32).tak 32; rwa [byS_sub F 0 64 32 32 (by omega)] at this
  have hb : (byI F 0 32 != byI F 32 32) = true := by simp only [bne_iff_ne, ne_eq]; exact fun e => hsm ((hdS_iff F).1 e)
  focus
    refine enter (L := []) (X := []) Tryd.func52 rfl Tryd.ntmps52 rfl rfl (Has.nil _) ?_
    refine c_seq ?_
    refine c_region (id := 0) ?_
    refine se ?_; refine ea ?_
    refine sq qa ?_
    refine l_nil ?_
    refine n_then ?_
    refine c_join (γ := Nat × Nat) (fun z => [(4, .pointer (some ⟨z.1, 0, none⟩)), (5, .pointer (some ⟨z.2, 0, none⟩)), (2, .pointer (some ⟨w.heap.size, 0, none⟩)), (3, .bool false), (0, .slice (some ⟨g, a, none⟩) 64 cap)]) (fun _ => w.heap.size + 1 + 1 + 1) (fun z => [.blk z.1 (.cells (byS F 0 32).toArray 112 (0, 0)), .blk z.2 (.cells (byS F 32 32).toArray 112 (0, 0)), .blk w.heap.size (.cells (headE hdZ).toArray 70 (0, 0))]) (fun z => w.heap.size ≤ z.1 ∧ w.heap.size ≤ z.2) ?_ ?_
    · refine xa_region (id := 1) _ mixed (by kernel_rfl) rfl (List.Sublist.refl _) ?_; refine xa_y (i := 0) (by kernel_rfl) rfl (by kernel_rfl) rfl (ya_q (by exact qm)) (by (repeat (first | exact List.nil_sublist _ | exact List.Sublist.slnil | apply List.Sublist.cons_cons | exact List.Sublist.refl _ | apply List.Sublist.cons))) rfl ?_; refine xa_y (i := 1) (by kernel_rfl) rfl (by kernel_rfl) rfl (ya_q (by exact qs (b' := some ⟨g, a, none⟩) (hb' := by rw [if_neg (by omega)]; rfl))) (by (repeat (first | exact List.nil_sublist _ | exact List.Sublist.slnil | apply List.Sublist.cons_cons | exact List.Sublist.refl _ | apply List.Sublist.cons))) rfl ?_; refine xa_y (i := 2) (by kernel_rfl) rfl (by kernel_rfl) rfl (ya_q (by exact q_s2ap rfl (by decide))) (by (repeat (first | exact List.nil_sublist _ | exact List.Sublist.slnil | apply List.Sublist.cons_cons | exact List.Sublist.refl _ | apply List.Sublist.cons))) rfl ?_; refine xa_y (i := 3) (by kernel_rfl) rfl (by kernel_rfl) rfl (ya_q (by exact qlr (vs := byS F 0 32) (hr := RdN.old h0 (by simp)) (hl := byS_len _ _ _))) (by (repeat (first | exact List.nil_sublist _ | exact List.Sublist.slnil | apply List.Sublist.cons_cons | exact List.Sublist.refl _ | apply List.Sublist.cons))) rfl ?_; refine xa_y (i := 4) (by kernel_rfl) rfl (by kernel_rfl) rfl (ya_q (by exact qm)) (by (repeat (first | exact List.nil_sublist _ | exact List.Sublist.slnil | apply List.Sublist.cons_cons | exact List.Sublist.refl _ | apply List.Sublist.cons))) rfl ?_; refine xa_y (i := 5) (by kernel_rfl) rfl (by kernel_rfl) rfl (ya_q (by exact qs (b' := some ⟨g, a + 32, none⟩) (hb' := by rw [if_neg (by omega)]; rfl))) (by (repeat (first | exact List.nil_sublist _ | exact List.Sublist.slnil | apply List.Sublist.cons_cons | exact List.Sublist.refl _ | apply List.Sublist.cons))) rfl ?_; refine xa_y (i := 6) (by kernel_rfl) rfl (by kernel_rfl) rfl (ya_q (by exact q_s2ap rfl (by decide))) (by (repeat (first | exact List.nil_sublist _ | exact List.Sublist.slnil | apply List.Sublist.cons_cons | exact List.Sublist.refl _ | apply List.Sublist.cons))) rfl ?_; refine xa_y (i := 7) (by kernel_rfl) rfl (by kernel_rfl) rfl (ya_q (by exact qlr (vs := byS F 32 32) (hr := RdN.old h32 (by simp)) (hl := byS_len _ _ _))) (by (repeat (first | exact List.nil_sublist _ | exact List.Sublist.slnil | apply List.Sublist.cons_cons | exact List.Sublist.refl _ | apply List.Sublist.cons))) rfl ?_; refine xa_br 8 [9] (by kernel_rfl) ?_; refine br_cons rfl rfl ?_ ?_; (focus refine ea ?_; refine xa_k (by (repeat (first | exact Sel.nil | (refine Sel.cons (by (repeat (first | exact Rm.here | apply Rm.there))) ?_)))) ?_; refine xa_br 9 [] (by kernel_rfl) ?_; refine br_cons rfl rfl ?_ ?_; (focus refine ea ?_; refine xa_k (by (repeat (first | exact Sel.nil | (refine Sel.cons (by (repeat (first | exact Rm.here | apply Rm.there))) ?_)))) ?_; refine xa_br 10 [] (by kernel_rfl) ?_; refine br_cons rfl rfl ?_ ?_; (focus refine esa ?_ (hk := by exact byS_sz _ _ _) (ho := allOne_u8L _) (hoff := by rfl); refine xa_k (by (repeat (first | exact Sel.nil | (refine Sel.cons (by (repeat (first | exact Rm.here | apply Rm.there))) ?_)))) ?_; refine xa_br 11 [] (by kernel_rfl) ?_; refine br_cons rfl rfl ?_ ?_; (focus refine esa ?_ (hk := by exact byS_sz _ _ _) (ho := allOne_u8L _) (hoff := by rfl); refine xa_k (by (repeat (first | exact Sel.nil | (refine Sel.cons (by (repeat (first | exact Rm.here | apply Rm.there))) ?_)))) ?_; refine xa_nil (by kernel_rfl) rfl ?_; refine n_then ?_; refine c_joinedS (⟨_, _⟩ : Nat × Nat) ⟨rfl, rfl, rfl, rfl, rfl, trivial⟩ (by rfl) (by (repeat (first | exact Sel.nil | (refine Sel.cons (by (repeat (first | exact Rm.here | apply Rm.there))) ?_)))) ⟨by dsimp only; omega, by dsimp only; omega⟩); exact br_nil); exact br_nil); exact br_nil); refine br_cons rfl rfl ?_ ?_; (focus refine ea ?_; refine xa_k (by (repeat (first | exact Sel.nil | (refine Sel.cons (by (repeat (first | exact Rm.here | apply Rm.there))) ?_)))) ?_; refine xa_br 8 [] (by kernel_rfl) ?_; refine br_cons rfl rfl ?_ ?_; (focus refine ea ?_; refine xa_k (by (repeat (first | exact Sel.nil | (refine Sel.cons (by (repeat (first | exact Rm.here | apply Rm.there))) ?_)))) ?_; refine xa_br 10 [] (by kernel_rfl) ?_; refine br_cons rfl rfl ?_ ?_; (focus refine esa ?_ (hk := by exact byS_sz _ _ _) (ho := allOne_u8L _) (hoff := by rfl); refine xa_k (by (repeat (first | exact Sel.nil | (refine Sel.cons (by (repeat (first | exact Rm.here | apply Rm.there))) ?_)))) ?_; refine xa_br 11 [] (by kernel_rfl) ?_; refine br_cons rfl rfl ?_ ?_; (focus refine esa ?_ (hk := by exact byS_sz _ _ _) (ho := allOne_u8L _) (hoff := by rfl); refine xa_k (by (repeat (first | exact Sel.nil | (refine Sel.cons (by (repeat (first | exact Rm.here | apply Rm.there))) ?_)))) ?_; refine xa_nil (by kernel_rfl) rfl ?_; refine n_then ?_; refine c_joinedS (⟨_, _⟩ : Nat × Nat) ⟨rfl, rfl, rfl, rfl, rfl, trivial⟩ (by rfl) (by (repeat (first | exact Sel.nil | (refine Sel.cons (by (repeat (first | exact Rm.here | apply Rm.there))) ?_)))) ⟨by dsimp only; omega, by dsimp only; omega⟩); exact br_nil); exact br_nil); exact br_nil); exact br_nil
    · rintro z ⟨hz1, hz2⟩
      repeat (first | refine c_seq ?_ | (refine c_region (id := 2) ?_; refine sq (by exact qlb (hl := byS_sz _ _ _)) ?_; refine sq (by exact qlb (hl := byS_sz _ _ _)) ?_; refine sq (by exact Qt.cast (congrArg Value.bool hb) (q_neq_ints (xs := byI F 0 32) (ys := byI F 32 32) rfl rfl rfl rfl Tryd.eqGuardType112 (byI_len _ _ _) (byI_len _ _ _))) ?_; refine l_nil ?_) | (refine c_region (id := 3) ?_; refine sq qbs ?_; refine se ?_; refine esa ?_ (hk := by rfl) (ho := by rfl) (hoff := by rfl); refine sq qa ?_; refine l_nil ?_) | refine n_then ?_ | refine c_block ?_ | refine c_skip ?_ | refine n_block ?_ | refine c_exit ?_ | refine n_then_exit ?_ | refine n_block_eq ?_ | refine n_block_ne rfl ?_ | refine c_ret ?_ | refine n_then_ret ?_ | refine n_block_ret ?_ | refine c_cond_t rfl ?_ | refine c_cond_f rfl ?_ | refine r_succ ?_ )
      (first | apply r_ret () | apply r_end ()); exact rfl; exact rfl; exact (.row rfl (by (repeat (first | exact List.Mem.head _ | apply List.Mem.tail))) (by rfl) (.tmp rfl .nil)); exact rfl; exact (List.nil_sublist _); exact new_nil; exact trivial
end Go.Proofs.YtgmghkakiocmjaaDoor
namespace Go.Proofs.YtgmghkakiocmjaaDoor
open Go Go.RowKit
set_option linter.unusedVariables false
set_option linter.unusedSimpArgs false
def Dk.still (D : Dk) : Dk := { D with M := [] }
set_option maxRecDepth 100000 in
set_option maxHeartbeats 4000000 in
theorem sync_ok (gd gw gm : Nat) (D : Dk) (hf : 0 ≤ D.fuse ∧ D.fuse ≤ 9223372036854775807) (hp : D.pgone = false) (w : World) (hD : Has (DskL gd gw gm D) w) :
    CA Tryd.prog 56 [.pointer (some ⟨gd, 0, none⟩)] w (Ret (fun _ : Unit => .int .i64 0) [gd, gw, gm] (fun _ => DskL gd gw gm D.lit.still) (fun _ => True) w) := by
  refine enter (L := DskL gd gw gm D) (X := [gd, gw, gm]) Tryd.func56 rfl Tryd.ntmps56 rfl rfl hD ?_
  repeat (first | refine c_seq ?_ | (refine c_region (id := 0) ?_; refine sq qa ?_; refine l_nil ?_) | (refine c_region (id := 1) ?_; refine sq qm ?_; refine se ?_; refine e_call_upd rfl rfl (by kernel_rfl) rfl (fun w hC hm hL => by exact pow_yes gd gw gm D hf hp w (hL.sub (by (repeat (first | exact List.nil_sublist _ | exact List.Sublist.slnil | apply List.Sublist.cons_cons | exact List.Sublist.refl _ | apply List.Sublist.cons))))) (by (repeat (first | exact Pl.here | apply Pl.there))) (.inl (by simp)) ?_; intro m' hm'; refine sq qnt ?_; refine l_nil ?_) | (refine c_region (id := 3) ?_; refine sq qm ?_; refine sq qn ?_; refine sq qf ?_; refine sq ql ?_; refine se ?_; refine e_clearMap secV D.M rfl (by (repeat (first | exact Pl.here | apply Pl.there))) (.inl (by simp)) ?_; refine l_nil ?_) | (refine c_region (id := 4) ?_; refine sq qa ?_; refine l_nil ?_) | refine n_then ?_ | refine c_block ?_ | refine c_skip ?_ | refine n_block ?_ | refine c_exit ?_ | refine n_then_exit ?_ | refine n_block_eq ?_ | refine n_block_ne rfl ?_ | refine c_ret ?_ | refine n_then_ret ?_ | refine n_block_ret ?_ | refine c_cond_t rfl ?_ | refine c_cond_f rfl ?_ | refine r_succ ?_ )
  (first | apply r_ret () | apply r_end ()); exact rfl; exact rfl; exact (.tmp rfl .nil); exact rfl; exact (List.Sublist.refl _); exact (by intro g hg; rw [feetD] at hg; exact .inl hg); exact trivial
set_option maxRecDepth 100000 in
set_option maxHeartbeats 4000000 in
theorem sync_lost (gd gw gm : Nat) (D : Dk) (hf : 0 ≤ D.fuse ∧ D.fuse ≤ 9223372036854775807) (hp : D.pgone = true) (w : World) (hD : Has (DskL gd gw gm D) w) :
    CA Tryd.prog 56 [.pointer (some ⟨gd, 0, none⟩)] w (Ret (fun _ : Unit => .int .i64 5) [gd, gw, gm] (fun _ => DskL gd gw gm D.dead) (fun _ => True) w) := by
  refine enter (L := DskL gd gw gm D) (X := [gd, gw, gm]) Tryd.func56 rfl Tryd.ntmps56 rfl rfl hD ?_
  repeat (first | refine c_seq ?_ | (refine c_region (id := 0) ?_; refine sq qa ?_; refine l_nil ?_) | (refine c_region (id := 1) ?_; refine sq qm ?_; refine se ?_; refine e_call_upd rfl rfl (by kernel_rfl) rfl (fun w hC hm hL => by exact pow_no gd gw gm D hf hp w (hL.sub (by (repeat (first | exact List.nil_sublist _ | exact List.Sublist.slnil | apply List.Sublist.cons_cons | exact List.Sublist.refl _ | apply List.Sublist.cons))))) (by (repeat (first | exact Pl.here | apply Pl.there))) (.inl (by simp)) ?_; intro m' hm'; refine sq qnt ?_; refine l_nil ?_) | (refine c_region (id := 2) ?_; refine sq qa ?_; refine l_nil ?_) | refine n_then ?_ | refine c_block ?_ | refine c_skip ?_ | refine n_block ?_ | refine c_exit ?_ | refine n_then_exit ?_ | refine n_block_eq ?_ | refine n_block_ne rfl ?_ | refine c_ret ?_ | refine n_then_ret ?_ | refine n_block_ret ?_ | refine c_cond_t rfl ?_ | refine c_cond_f rfl ?_ | refine r_succ ?_ )
  (first | apply r_ret () | apply r_end ()); exact rfl; exact rfl; exact (.tmp rfl .nil); exact rfl; exact (List.Sublist.refl _); exact (by intro g hg; rw [feetD] at hg; exact .inl hg); exact trivial
theorem mFind_mem {M : List (ME (Nat → Int))} {e : ME (Nat → Int)} (he : e ∈ M) {i : Int} (hi : e.1 = i) : ∃ f, mFind M i = some f := by
  unfold mFind
  cases h : M.find? fun e => e.1 == i with
  | none => rw [List.find?_eq_none] at h; exact absurd (by simp [hi]) (h e he)
  | some x => exact ⟨x.2.1, rfl⟩
end Go.Proofs.YtgmghkakiocmjaaDoor
namespace Go.Proofs.YtgmghkakiocmjaaDoor
open Go Go.RowKit
set_option linter.unusedVariables false
set_option linter.unusedSimpArgs false
theorem apart_sl {L' A : List Chunk} {b : Option Addr} {cap e sz : Nat} {xs : List Value} (hm : Chunk.sl b cap e sz xs ∈ L') (h : ∀ g ∈ feet A, g ∉ feet L') : ∀ g o, b = some ⟨g, o, none⟩ → g ∉ feet A := by
  intro g o hb hg
  exact h g hg (List.mem_flatMap.2 ⟨_, hm, by rw [hb]; simp [Chunk.foot]⟩)
theorem Dk.new_len (n : Nat) : (Dk.new n).secs.length = n := by simp [Dk.new]
theorem Dk.put_gone (D : Dk) (i : Nat) (f : Nat → Int) : (D.lit.put i f).gone = false := by
  unfold Dk.put; split <;> rfl
set_option maxRecDepth 100000 in
set_option maxHeartbeats 4000000 in
theorem sect_c (gd gw gm : Nat) (D : Dk) (w : World) (hD : Has (DskL gd gw gm D) w) : CA Tryd.prog 19 [.pointer (some ⟨gd, 0, none⟩)] w (RV (.int .i64 D.secs.length) w) := by
  refine enter (L := DskL gd gw gm D) (X := []) Tryd.func19 rfl Tryd.ntmps19 rfl rfl hD ?_
  repeat (first | refine c_seq ?_ | (refine c_region (id := 0) ?_; refine sq qa ?_; refine l_nil ?_) | (refine c_region (id := 1) ?_; refine sq qm ?_; refine sq qn ?_; refine sq qf ?_; refine sq ql ?_; refine sq qls ?_; refine sq qa ?_; refine l_nil ?_) | refine n_then ?_ | refine c_block ?_ | refine c_skip ?_ | refine n_block ?_ | refine c_exit ?_ | refine n_then_exit ?_ | refine n_block_eq ?_ | refine n_block_ne rfl ?_ | refine c_ret ?_ | refine n_then_ret ?_ | refine n_block_ret ?_ | refine c_cond_t rfl ?_ | refine c_cond_f rfl ?_ | refine r_succ ?_ )
  (first | apply r_ret () | apply r_end ()); exact rfl; exact rfl; exact (.tmp rfl .nil); exact rfl; exact (List.nil_sublist _); exact new_nil; exact trivial
end Go.Proofs.YtgmghkakiocmjaaDoor
namespace Go.Proofs.YtgmghkakiocmjaaDoor
open Go Go.RowKit
set_option linter.unusedVariables false
set_option linter.unusedSimpArgs false
structure Dk.OK (n : Nat) (D : Dk) : Prop where
  len : D.secs.length = n
  n9 : n ≤ 16384
  ks : (D.M.map (·.1)).Nodup
  bd : ∀ e ∈ D.M, 0 ≤ e.1 ∧ e.1 < n
  cl : ∀ e ∈ D.M, e.2.2 < D.cl
  bs : (D.M.map (·.2.2)).Nodup
  ml : D.M.length ≤ D.cl
  hf : 0 ≤ D.fuse ∧ D.fuse ≤ 9223372036854775807
theorem Dk.OK.le {n : Nat} {D : Dk} (h : D.OK n) : D.secs.length ≤ 16384 := by rw [h.len]; exact h.n9
theorem Dk.OK.new (n : Nat) (hn : n ≤ 16384) : (Dk.new n).OK n := ⟨Dk.new_len n, hn, .nil, by simp [Dk.new], by simp [Dk.new], .nil, by simp [Dk.new], by simp [Dk.new]⟩
theorem Dk.OK.dead {n : Nat} {D : Dk} (h : D.OK n) : D.dead.OK n := ⟨h.len, h.n9, h.ks, h.bd, h.cl, h.bs, h.ml, h.hf⟩
theorem Dk.OK.lit {n : Nat} {D : Dk} (h : D.OK n) (hp : D.pgone = false) : D.lit.OK n := ⟨h.len, h.n9, h.ks, h.bd, h.cl, h.bs, h.ml, by
  have h1 := h.hf
  unfold Dk.pgone at hp
  simp only [Dk.lit]
  cases hfu : D.fused with
  | false => simpa using h1
  | true =>
    simp [hfu] at hp
    simp
    omega⟩
theorem mFind_none {M : List (ME (Nat → Int))} {i : Int} (h : mFind M i = none) : i ∉ M.map (·.1) := by
  intro hm
  obtain ⟨e, he, hi⟩ := List.mem_map.1 hm
  obtain ⟨f, hf⟩ := mFind_mem he hi
  rw [hf] at h
  cases h
theorem Dk.OK.put {n : Nat} {D : Dk} (h : D.OK n) (i : Nat) (hi : i < n) (f : Nat → Int) : (D.put i f).OK n := by
  unfold Dk.put
  split
  · next hm =>
    refine ⟨by simpa using h.len, h.n9, ?_, ?_, ?_, ?_, by simpa using h.ml, h.hf⟩
    · simp only [List.map_append, List.map_cons, List.map_nil]
      exact List.nodup_append.2 ⟨h.ks, by simp, fun a ha b hb => by simp at hb; subst hb; exact fun e => mFind_none hm (e ▸ ha)⟩
    · intro e he
      rcases List.mem_append.1 he with he | he
      · exact h.bd e he
      · simp at he; subst he; exact ⟨by simp, by simpa using hi⟩
    · intro e he
      rcases List.mem_append.1 he with he | he
      · exact Nat.lt_succ_of_lt (h.cl e he)
      · simp at he; subst he; simp
    · simp only [List.map_append, List.map_cons, List.map_nil]
      refine List.nodup_append.2 ⟨h.bs, by simp, fun a ha b hb => ?_⟩
      simp at hb
      subst hb
      obtain ⟨e, he, rfl⟩ := List.mem_map.1 ha
      have := h.cl e he
      omega
  · exact ⟨by simpa using h.len, h.n9, h.ks, h.bd, h.cl, h.bs, h.ml, h.hf⟩
theorem Dk.OK.still {n : Nat} {D : Dk} (h : D.OK n) : D.still.OK n := ⟨h.len, h.n9, .nil, by simp [Dk.still], by simp [Dk.still], .nil, by simp [Dk.still], h.hf⟩
theorem put_cl (D : Dk) (i : Nat) (f : Nat → Int) : (D.put i f).cl ≤ D.cl + 1 := by
  unfold Dk.put; split <;> simp
theorem put_fused (D : Dk) (i : Nat) (f : Nat → Int) : (D.put i f).fused = D.fused := by
  unfold Dk.put; split <;> rfl
end Go.Proofs.YtgmghkakiocmjaaDoor
namespace Go.Proofs.YtgmghkakiocmjaaDoor
open Go Go.RowKit
set_option linter.unusedVariables false
set_option linter.unusedSimpArgs false
structure HdK (h : Hd) : Prop where
  ser : 0 ≤ h.ser ∧ h.ser ≤ 18446744073709551615
  cnt : 0 ≤ h.cnt ∧ h.cnt ≤ 18446744073709551615
  nt : RB h.nt
  hi : ∀ j, 16 ≤ j → h.nt j = 0
theorem RB.zero : RB (fun _ => 0) := ⟨fun _ => by omega⟩
theorem hdZ_K : HdK hdZ := ⟨by decide, by decide, RB.zero, fun _ _ => rfl⟩
theorem hdOf_K {F : Nat → Int} (hF : RB F) : HdK (hdOf F) := by
  have h1 := numB_rng hF 0 8
  have h2 := numB_rng hF 8 8
  have e : (256 : Int) ^ 8 = 18446744073709551616 := by decide
  rw [e] at h1 h2
  refine ⟨⟨h1.1, by have := h1.2; simp only [hdOf]; omega⟩, ⟨h2.1, by have := h2.2; simp only [hdOf]; omega⟩, ⟨fun j => ?_⟩, fun j hj => ?_⟩
  · simp only [hdOf]
    split
    · exact hF.h _
    · omega
  · simp only [hdOf]
    rw [if_neg (by omega)]
theorem shN_rng (x : Int) (i : Nat) : 0 ≤ shN x i ∧ shN x i ≤ 255 := by
  unfold shN; omega
theorem secH_RB {h : Hd} (hk : HdK h) : RB (secH h) := by
  refine ⟨fun j => ?_⟩
  unfold secH
  rw [List.getD_eq_getElem?_getD]
  cases hg : (halfL h)[j % 32]? with
  | none => simp
  | some v =>
    have hm : v ∈ halfL h := List.mem_of_getElem? hg
    rw [Option.getD_some]
    unfold halfL at hm
    simp only [List.mem_cons, List.not_mem_nil, or_false] at hm
    rcases hm with rfl | rfl | rfl | rfl | rfl | rfl | rfl | rfl | rfl | rfl | rfl | rfl | rfl | rfl | rfl | rfl | rfl | rfl | rfl | rfl | rfl | rfl | rfl | rfl | rfl | rfl | rfl | rfl | rfl | rfl | rfl | rfl
    · exact shN_rng _ _
    · exact shN_rng _ _
    · exact shN_rng _ _
    · exact shN_rng _ _
    · exact shN_rng _ _
    · exact shN_rng _ _
    · exact shN_rng _ _
    · exact shN_rng _ _
    · exact shN_rng _ _
    · exact shN_rng _ _
    · exact shN_rng _ _
    · exact shN_rng _ _
    · exact shN_rng _ _
    · exact shN_rng _ _
    · exact shN_rng _ _
    · exact shN_rng _ _
    · exact hk.nt.h _
    · exact hk.nt.h _
    · exact hk.nt.h _
    · exact hk.nt.h _
    · exact hk.nt.h _
    · exact hk.nt.h _
    · exact hk.nt.h _
    · exact hk.nt.h _
    · exact hk.nt.h _
    · exact hk.nt.h _
    · exact hk.nt.h _
    · exact hk.nt.h _
    · exact hk.nt.h _
    · exact hk.nt.h _
    · exact hk.nt.h _
    · exact hk.nt.h _
theorem secH_S (h : Hd) : hdS (secH h) := by
  intro j hj
  unfold secH
  rw [show (32 + j) % 32 = j % 32 by omega]
theorem sh0 (x : Int) : shN x 0 = x % 256 := by
  show x / 1 % 256 = _; omega
theorem sh1 (x : Int) : shN x 1 = x / 256 % 256 := rfl
theorem sh2 (x : Int) : shN x 2 = x / 65536 % 256 := rfl
theorem sh3 (x : Int) : shN x 3 = x / 16777216 % 256 := rfl
theorem sh4 (x : Int) : shN x 4 = x / 4294967296 % 256 := rfl
theorem sh5 (x : Int) : shN x 5 = x / 1099511627776 % 256 := rfl
theorem sh6 (x : Int) : shN x 6 = x / 281474976710656 % 256 := rfl
theorem sh7 (x : Int) : shN x 7 = x / 72057594037927936 % 256 := rfl
theorem numB8 (F : Nat → Int) (o : Nat) : numB F o 8 = (((((((F (o + 0) * 256 + F (o + 1)) * 256 + F (o + 2)) * 256 + F (o + 3)) * 256 + F (o + 4)) * 256 + F (o + 5)) * 256 + F (o + 6)) * 256 + F (o + 7)) := by
  simp only [numB]; omega
theorem num_back (x : Int) (hx : 0 ≤ x ∧ x ≤ 18446744073709551615) : ((((((shN x 7 * 256 + shN x 6) * 256 + shN x 5) * 256 + shN x 4) * 256 + shN x 3) * 256 + shN x 2) * 256 + shN x 1) * 256 + shN x 0 = x := by
  rw [sh0, sh1, sh2, sh3, sh4, sh5, sh6, sh7]
  have e7 : x / 72057594037927936 % 256 = x / 72057594037927936 := by omega
  have e6 : x / 72057594037927936 * 256 + x / 281474976710656 % 256 = x / 281474976710656 := by omega
  have e5 : x / 281474976710656 * 256 + x / 1099511627776 % 256 = x / 1099511627776 := by omega
  have e4 : x / 1099511627776 * 256 + x / 4294967296 % 256 = x / 4294967296 := by omega
  have e3 : x / 4294967296 * 256 + x / 16777216 % 256 = x / 16777216 := by omega
  have e2 : x / 16777216 * 256 + x / 65536 % 256 = x / 65536 := by omega
  have e1 : x / 65536 * 256 + x / 256 % 256 = x / 256 := by omega
  rw [e7, e6, e5, e4, e3, e2, e1]
  omega
theorem hdOf_secH {h : Hd} (hk : HdK h) : hdOf (secH h) = h := by
  obtain ⟨s, c, nt⟩ := h
  have h1 : numB (secH ⟨s, c, nt⟩) 0 8 = s := by
    rw [numB8]; exact num_back s hk.ser
  have h2 : numB (secH ⟨s, c, nt⟩) 8 8 = c := by
    rw [numB8]; exact num_back c hk.cnt
  have h3 : (fun j => if j < 16 then secH ⟨s, c, nt⟩ (16 + j) else 0) = nt := by
    funext j
    by_cases hj : j < 16
    · rw [if_pos hj]
      have : ∀ j, j < 16 → secH ⟨s, c, nt⟩ (16 + j) = nt j := by
        intro j hj
        match j, hj with
        | 0, _ => rfl
        | 1, _ => rfl
        | 2, _ => rfl
        | 3, _ => rfl
        | 4, _ => rfl
        | 5, _ => rfl
        | 6, _ => rfl
        | 7, _ => rfl
        | 8, _ => rfl
        | 9, _ => rfl
        | 10, _ => rfl
        | 11, _ => rfl
        | 12, _ => rfl
        | 13, _ => rfl
        | 14, _ => rfl
        | 15, _ => rfl
        | q + 16, h => exact absurd h (by omega)
      exact this j hj
    · rw [if_neg hj]; exact (hk.hi j (by omega)).symm
  unfold hdOf
  rw [h1, h2, h3]
abbrev lgC (gd fr room : Nat) (h : Hd) (s : Value) (ov : Bool) : Array Value := #[.pointer (some ⟨gd, 0, none⟩), .int .i64 fr, .int .i64 room, .int .u64 h.ser, .int .u64 h.cnt, .int .u8 (h.nt 0), .int .u8 (h.nt 1), .int .u8 (h.nt 2), .int .u8 (h.nt 3), .int .u8 (h.nt 4), .int .u8 (h.nt 5), .int .u8 (h.nt 6), .int .u8 (h.nt 7), .int .u8 (h.nt 8), .int .u8 (h.nt 9), .int .u8 (h.nt 10), .int .u8 (h.nt 11), .int .u8 (h.nt 12), .int .u8 (h.nt 13), .int .u8 (h.nt 14), .int .u8 (h.nt 15), s, .bool ov]
abbrev LgB (gl gd fr room : Nat) (h : Hd) (s : Value) (ov : Bool) : Chunk := .blk gl (.cells (lgC gd fr room h s ov) 72 (0, 0))
theorem lg_set (gd fr room : Nat) (h h' : Hd) (s : Value) (ov : Bool) : setA (lgC gd fr room h s ov) 3 (headE h').toArray.toList = lgC gd fr room h' s ov := by
  apply Array.ext'
  simp only [lgC, setA, noteE, Array.toList_setIfInBounds, ← setL_eq, setL, Nat.reduceAdd]
set_option maxRecDepth 100000 in
set_option maxHeartbeats 4000000 in
theorem note_c (gl gd fr room : Nat) (h : Hd) (s : Value) (ov : Bool) (w : World) (hL0 : Has [LgB gl gd fr room h s ov] w) : CA Tryd.prog 26 [.pointer (some ⟨gl, 0, none⟩)] w (RV (.agg (noteE h.nt).toArray) w) := by
  refine enter (L := [LgB gl gd fr room h s ov]) (X := []) Tryd.func26 rfl Tryd.ntmps26 rfl rfl hL0 ?_
  repeat (first | refine c_seq ?_ | (refine c_region (id := 0) ?_; refine se ?_; refine ea ?_; refine l_nil ?_) | (refine c_region (id := 1) ?_; refine sq qm ?_; refine sq qn ?_; refine sq qf ?_; refine sq qf ?_; refine sq (by exact qlr (vs := noteE h.nt) (hr := RdN.blk (by (repeat (first | exact List.Mem.head _ | apply List.Mem.tail))) (by rfl)) (hl := by rfl)) ?_; refine se ?_; refine esa ?_ (hk := by rfl) (ho := by rfl) (hoff := by rfl); refine l_nil ?_) | refine n_then ?_ | refine c_block ?_ | refine c_skip ?_ | refine n_block ?_ | refine c_exit ?_ | refine n_then_exit ?_ | refine n_block_eq ?_ | refine n_block_ne rfl ?_ | refine c_ret ?_ | refine n_then_ret ?_ | refine n_block_ret ?_ | refine c_cond_t rfl ?_ | refine c_cond_f rfl ?_ | refine r_succ ?_ )
  (first | apply r_ret () | apply r_end ()); exact rfl; exact rfl; exact (.row rfl (by (repeat (first | exact List.Mem.head _ | apply List.Mem.tail))) (by rfl) .nil); exact rfl; exact (List.nil_sublist _); exact new_nil; exact trivial
set_option maxRecDepth 100000 in
set_option maxHeartbeats 4000000 in
theorem room_c (gl gd fr room : Nat) (h : Hd) (b : Option Addr) (len cap : Nat) (ov : Bool) (hr : len ≤ room ∧ room ≤ 100000000) (w : World) (hL0 : Has [LgB gl gd fr room h (.slice b len cap) ov] w) : CA Tryd.prog 32 [.pointer (some ⟨gl, 0, none⟩)] w (RV (.int .i64 ((room : Int) - len)) w) := by
  refine enter (L := [LgB gl gd fr room h (.slice b len cap) ov]) (X := []) Tryd.func32 rfl Tryd.ntmps32 rfl rfl hL0 ?_
  repeat (first | refine c_seq ?_ | (refine c_region (id := 0) ?_; refine sq qa ?_; refine l_nil ?_) | (refine x_region (id := 1) none [(0, .n), (1, .n), (2, .n), (3, .q), (4, .n), (5, .n), (6, .n), (7, .q), (8, .n), (9, .n), (10, .n)] _ mixed (by kernel_rfl) (List.Sublist.refl _) ?_; refine xn rfl qm ?_; refine xn rfl qn ?_; refine xn rfl qf ?_; refine xq rfl ql ?_; refine xn rfl qm ?_; refine xn rfl qn ?_; refine xn rfl qf ?_; refine xq rfl ql ?_; refine xn rfl qls ?_; refine xn rfl qsub64 ?_; refine xn rfl qa ?_; refine x_nil ?_) | refine n_then ?_ | refine c_block ?_ | refine c_skip ?_ | refine n_block ?_ | refine c_exit ?_ | refine n_then_exit ?_ | refine n_block_eq ?_ | refine n_block_ne rfl ?_ | refine c_ret ?_ | refine n_then_ret ?_ | refine n_block_ret ?_ | refine c_cond_t rfl ?_ | refine c_cond_f rfl ?_ | refine r_succ ?_ )
  (first | apply r_ret () | apply r_end ()); exact rfl; exact rfl; exact (.tmp rfl .nil); exact rfl; exact (List.nil_sublist _); exact new_nil; exact trivial
set_option maxRecDepth 100000 in
set_option maxHeartbeats 4000000 in
theorem lover_c (gl gd fr room : Nat) (h : Hd) (s : Value) (ov : Bool) (w : World) (hL0 : Has [LgB gl gd fr room h s ov] w) : CA Tryd.prog 54 [.pointer (some ⟨gl, 0, none⟩)] w (RV (.bool ov) w) := by
  cases ov with
  | true =>
    refine enter (L := [LgB gl gd fr room h s true]) (X := []) Tryd.func54 rfl Tryd.ntmps54 rfl rfl hL0 ?_
    repeat (first | refine c_seq ?_ | (refine c_region (id := 0) ?_; refine sq qa ?_; refine l_nil ?_) | (refine c_region (id := 1) ?_; refine sq qm ?_; refine sq qn ?_; refine sq qf ?_; refine sq ql ?_; refine sq qm ?_; (first | refine sk ?_ | refine skv ?_ | (refine st_want rfl rfl ?_; refine sq qm ?_)); (first | refine sk ?_ | refine skv ?_ | (refine st_want rfl rfl ?_; refine sq qn ?_)); (first | refine sk ?_ | refine skv ?_ | (refine st_want rfl rfl ?_; refine sq qf ?_)); (first | refine sk ?_ | refine skv ?_ | (refine st_want rfl rfl ?_; refine sq ql ?_)); (first | refine sk ?_ | refine skv ?_ | (refine st_want rfl rfl ?_; refine sq (by exact q_eql_pnil rfl rfl (by kernel_rfl)) ?_)); refine sq (by first | exact qpt | exact qpf) ?_; refine sq qa ?_; refine l_nil ?_) | refine n_then ?_ | refine c_block ?_ | refine c_skip ?_ | refine n_block ?_ | refine c_exit ?_ | refine n_then_exit ?_ | refine n_block_eq ?_ | refine n_block_ne rfl ?_ | refine c_ret ?_ | refine n_then_ret ?_ | refine n_block_ret ?_ | refine c_cond_t rfl ?_ | refine c_cond_f rfl ?_ | refine r_succ ?_ )
    (first | apply r_ret () | apply r_end ()); exact rfl; exact rfl; exact (.tmp rfl .nil); exact rfl; exact (List.nil_sublist _); exact new_nil; exact trivial
  | false =>
    refine enter (L := [LgB gl gd fr room h s false]) (X := []) Tryd.func54 rfl Tryd.ntmps54 rfl rfl hL0 ?_
    repeat (first | refine c_seq ?_ | (refine c_region (id := 0) ?_; refine sq qa ?_; refine l_nil ?_) | (refine c_region (id := 1) ?_; refine sq qm ?_; refine sq qn ?_; refine sq qf ?_; refine sq ql ?_; refine sq qm ?_; (first | refine sk ?_ | refine skv ?_ | (refine st_want rfl rfl ?_; refine sq qm ?_)); (first | refine sk ?_ | refine skv ?_ | (refine st_want rfl rfl ?_; refine sq qn ?_)); (first | refine sk ?_ | refine skv ?_ | (refine st_want rfl rfl ?_; refine sq qf ?_)); (first | refine sk ?_ | refine skv ?_ | (refine st_want rfl rfl ?_; refine sq ql ?_)); (first | refine sk ?_ | refine skv ?_ | (refine st_want rfl rfl ?_; refine sq (by exact q_eql_pnil rfl rfl (by kernel_rfl)) ?_)); refine sq (by first | exact qpt | exact qpf) ?_; refine sq qa ?_; refine l_nil ?_) | refine n_then ?_ | refine c_block ?_ | refine c_skip ?_ | refine n_block ?_ | refine c_exit ?_ | refine n_then_exit ?_ | refine n_block_eq ?_ | refine n_block_ne rfl ?_ | refine c_ret ?_ | refine n_then_ret ?_ | refine n_block_ret ?_ | refine c_cond_t rfl ?_ | refine c_cond_f rfl ?_ | refine r_succ ?_ )
    (first | apply r_ret () | apply r_end ()); exact rfl; exact rfl; exact (.tmp rfl .nil); exact rfl; exact (List.nil_sublist _); exact new_nil; exact trivial
set_option maxRecDepth 100000 in
set_option maxHeartbeats 4000000 in
theorem lbytes_c (gl gd fr room : Nat) (h : Hd) (b : Option Addr) (cap : Nat) (ov : Bool) (xs : List Int) (hbig : xs.length ≤ 100000000) (w : World) (hs : SlE (Value.int .u8) w b xs) (hL0 : Has [LgB gl gd fr room h (.slice b xs.length cap) ov] w) : CA Tryd.prog 28 [.pointer (some ⟨gl, 0, none⟩)] w (RLe (Value.int .u8) 5 (fun zs => zs = xs) w) := by
  refine enter (L := [LgB gl gd fr room h (.slice b xs.length cap) ov]) (X := []) Tryd.func28 rfl Tryd.ntmps28 rfl rfl hL0 ?_
  repeat (first | refine c_seq ?_ | (refine c_region (id := 0) ?_; refine sq qa ?_; refine l_nil ?_) | (refine c_region (id := 1) ?_; refine sq qm ?_; refine sq qn ?_; refine sq qf ?_; refine sq ql ?_; refine se ?_; refine e_callL (enc := (Value.int .u8)) (e := 5) rfl rfl (by kernel_rfl) rfl (fun w hC hm hL => by exact clone_c b xs.length cap xs rfl hbig w (hs.ch0 hC)) ?_; intro b1 cap1 zs m1 hz1 ho1 hm1; refine sq qa ?_; refine l_nil ?_) | refine n_then ?_ | refine c_block ?_ | refine c_skip ?_ | refine n_block ?_ | refine c_exit ?_ | refine n_then_exit ?_ | refine n_block_eq ?_ | refine n_block_ne rfl ?_ | refine c_ret ?_ | refine n_then_ret ?_ | refine n_block_ret ?_ | refine c_cond_t rfl ?_ | refine c_cond_f rfl ?_ | refine r_succ ?_ )
  subst hz1
  (first | apply r_ret (b1, cap1, zs) | apply r_end (b1, cap1, zs)); exact rfl; exact rfl; exact (.tmp rfl .nil); exact rfl; exact (by exact (by (repeat (first | exact List.nil_sublist _ | exact List.Sublist.slnil | apply List.Sublist.cons_cons | exact List.Sublist.refl _ | apply List.Sublist.cons)))); exact (new_sl ho1.newc new_nil); exact ⟨by have h9 := ho1.ret; exact h9, rfl⟩
set_option maxRecDepth 100000 in
set_option maxHeartbeats 4000000 in
theorem ready_y (gl gd fr room : Nat) (h : Hd) (s : Value) (hser : 0 ≤ h.ser ∧ h.ser < 4611686018427387904) (w : World) (hL0 : Has [LgB gl gd fr room h s false] w) : CA Tryd.prog 35 [.pointer (some ⟨gl, 0, none⟩)] w (RV (.int .i64 0) w) := by
  refine enter (L := [LgB gl gd fr room h s false]) (X := []) Tryd.func35 rfl Tryd.ntmps35 rfl rfl hL0 ?_
  repeat (first | refine c_seq ?_ | (refine c_region (id := 0) ?_; refine sq qa ?_; refine l_nil ?_) | (refine c_region (id := 1) ?_; refine sq qm ?_; refine se ?_; refine ecp rfl rfl (fun w hC hm hL => by exact lover_c gl gd fr room h s false w (hL.sub (by (repeat (first | exact List.nil_sublist _ | exact List.Sublist.slnil | apply List.Sublist.cons_cons | exact List.Sublist.refl _ | apply List.Sublist.cons))))) ?_; intro m' hm'; refine l_nil ?_) | (refine c_region (id := 2) ?_; refine sq qa ?_; refine l_nil ?_) | (refine c_region (id := 3) ?_; refine sq qm ?_; refine sq qn ?_; refine sq qf ?_; refine sq qf ?_; refine sq ql ?_; refine sq (by first | exact dgeqt | exact dgeqf) ?_; refine l_nil ?_) | (refine c_region (id := 4) ?_; refine sq qa ?_; refine l_nil ?_) | (refine c_region (id := 5) ?_; refine sq qa ?_; refine l_nil ?_) | refine n_then ?_ | refine c_block ?_ | refine c_skip ?_ | refine n_block ?_ | refine c_exit ?_ | refine n_then_exit ?_ | refine n_block_eq ?_ | refine n_block_ne rfl ?_ | refine c_ret ?_ | refine n_then_ret ?_ | refine n_block_ret ?_ | refine c_cond_t rfl ?_ | refine c_cond_f rfl ?_ | refine r_succ ?_ )
  (first | apply r_ret () | apply r_end ()); exact rfl; exact rfl; exact (.tmp rfl .nil); exact rfl; exact (List.nil_sublist _); exact new_nil; exact trivial
set_option maxRecDepth 100000 in
set_option maxHeartbeats 4000000 in
theorem end_c (gl gd fr room : Nat) (h : Hd) (s : Value) (ov : Bool) (w : World) (hL0 : Has [LgB gl gd fr room h s ov] w) : CA Tryd.prog 38 [.pointer (some ⟨gl, 0, none⟩)] w (RU (.int .i64 5) gl (.cells (lgC gd fr room h s true) 72 (0, 0)) w) := by
  refine enter (L := [LgB gl gd fr room h s ov]) (X := [gl]) Tryd.func38 rfl Tryd.ntmps38 rfl rfl hL0 ?_
  repeat (first | refine c_seq ?_ | (refine c_region (id := 0) ?_; refine sq qa ?_; refine l_nil ?_) | (refine c_region (id := 1) ?_; refine sq qm ?_; refine sq qn ?_; refine sq qf ?_; refine se ?_; refine es1 ?_ (hg := .inl (by simp)); refine l_nil ?_) | (refine c_region (id := 2) ?_; refine sq qa ?_; refine l_nil ?_) | refine n_then ?_ | refine c_block ?_ | refine c_skip ?_ | refine n_block ?_ | refine c_exit ?_ | refine n_then_exit ?_ | refine n_block_eq ?_ | refine n_block_ne rfl ?_ | refine c_ret ?_ | refine n_then_ret ?_ | refine n_block_ret ?_ | refine c_cond_t rfl ?_ | refine c_cond_f rfl ?_ | refine r_succ ?_ )
  (first | apply r_ret () | apply r_end ()); exact rfl; exact rfl; exact (.tmp rfl .nil); exact rfl; exact (List.Sublist.refl _); exact (by intro g hg; simp [feet, Chunk.foot] at hg; exact .inl (by simp [hg])); exact trivial
end Go.Proofs.YtgmghkakiocmjaaDoor
namespace Go.Proofs.YtgmghkakiocmjaaDoor
open Go Go.RowKit
set_option linter.unusedVariables false
set_option linter.unusedSimpArgs false
instance (F : Nat → Int) : Decidable (hdS F) := by unfold hdS; infer_instance
def hdU (room p : Nat) (s : Hd) (F : Nat → Int) : Prop := hdS F ∧ (hdOf F).cnt ≤ room ∧ (hdOf F).ser % 2 = p ∧ s.ser ≤ (hdOf F).ser
instance (room p : Nat) (s : Hd) (F : Nat → Int) : Decidable (hdU room p s F) := by unfold hdU; infer_instance
def stepH (room p : Nat) (s : Hd) (F : Nat → Int) : Hd := if hdU room p s F then hdOf F else s
def stI (room : Nat) (Fs : Nat → Nat → Int) : Nat → Hd
  | 0 => hdZ
  | i + 1 => stepH room i (stI room Fs i) (Fs i)
theorem sec_old (F : Nat → Int) : (((secL F 64).map (Value.int .u8)).drop 0).take 64 = byS F 0 64 := by
  rw [List.drop_zero, List.take_of_length_le (by simp [secL_len])]
  simp [secL, byS, byI]
theorem stI_y {room : Nat} {Fs : Nat → Nat → Int} {i : Nat} (h : hdU room i (stI room Fs i) (Fs i)) : stI room Fs (i + 1) = hdOf (Fs i) := by rw [stI, stepH, if_pos h]
theorem stI_n {room : Nat} {Fs : Nat → Nat → Int} {i : Nat} (h : ¬ hdU room i (stI room Fs i) (Fs i)) : stI room Fs (i + 1) = stI room Fs i := by rw [stI, stepH, if_neg h]
set_option maxRecDepth 100000 in
set_option maxHeartbeats 4000000 in
theorem heads_c (gl gd gw gm fr room : Nat) (s : Value) (ov : Bool) (Fs : Nat → Nat → Int) (hfr : fr ≤ 16384) (hroom : room ≤ 100000000) (D : Dk) (hgo : D.gone = false) (hn6 : D.secs.length ≤ 16384) (hF : ∀ i, i < 2 → D.secs[fr + i]? = some (Fs i)) (hRB : ∀ i, i < 2 → RB (Fs i)) (w : World) (hL0 : Has (LgB gl gd fr room hdZ s ov :: DskL gd gw gm D) w) :
    CA Tryd.prog 33 [.pointer (some ⟨gl, 0, none⟩)] w (RU (.int .i64 0) gl (.cells (lgC gd fr room (stI room Fs 2) s ov) 72 (0, 0)) w) := by
  refine enter (L := (LgB gl gd fr room hdZ s ov :: DskL gd gw gm D)) (X := [gl]) Tryd.func33 rfl Tryd.ntmps33 rfl rfl hL0 ?_
  repeat (first | refine c_seq ?_ | (refine c_region (id := 0) ?_; refine sq qa ?_; refine l_nil ?_) | (refine c_region (id := 1) ?_; refine sq qm ?_; refine l_nil ?_) | refine n_then ?_ | refine c_block ?_ | refine c_skip ?_ | refine n_block ?_ | refine c_exit ?_ | refine n_then_exit ?_ | refine n_block_eq ?_ | refine n_block_ne rfl ?_ | refine c_ret ?_ | refine n_then_ret ?_ | refine n_block_ret ?_ | refine c_cond_t rfl ?_ | refine c_cond_f rfl ?_ | refine r_succ ?_ )
  refine c_loop (γ := Nat × Nat) (fun z => [(8, .int .i64 z.1), (0, .pointer (some ⟨gl, 0, none⟩)), (2, .int .i64 0)]) (fun z => z.2) (fun z => (LgB gl gd fr room (stI room Fs z.1) s ov :: DskL gd gw gm D)) (fun z => z.1 ≤ 2 ∧ w.heap.size ≤ z.2) (fun z => 2 - z.1) ⟨0, w.heap.size⟩ ⟨by simp, Nat.le_refl _⟩ ⟨rfl, rfl, rfl, trivial⟩ rfl (List.Sublist.refl _) ?_
  rintro ⟨i, mm⟩ ⟨hi, hmm⟩
  dsimp only at hi hmm ⊢
  by_cases hi2 : i < 2
  · have hFi := hF i hi2
    have hk := hdOf_K (hRB i hi2)
    have hse := hk.ser.1
    have hse2 := hk.ser.2
    have hcn := hk.cnt
    by_cases hS : hdS (Fs i)
    · by_cases hc : (hdOf (Fs i)).cnt ≤ room
      · by_cases hp : (hdOf (Fs i)).ser % 2 = i
        · by_cases hg : (stI room Fs i).ser ≤ (hdOf (Fs i)).ser
          · have e9 := stI_y ⟨hS, hc, hp, hg⟩
            repeat (first | refine c_seq ?_ | (refine c_region (id := 2) ?_; refine sq (by first | exact dlsst | exact dlssf) ?_; refine l_nil ?_) | (refine c_region (id := 3) ?_; refine sq qm ?_; refine sq qa ?_; refine l_nil ?_) | (refine x_region (id := 4) none [(0, .n), (1, .n), (2, .n), (3, .q), (4, .n), (5, .n), (6, .n), (7, .q), (8, .n), (9, .n), (10, .e), (11, .n), (12, .n), (13, .n), (14, .n), (15, .n)] _ mixed (by kernel_rfl) (List.Sublist.refl _) ?_; refine xn rfl qm ?_; refine xn rfl qn ?_; refine xn rfl qf ?_; refine xq rfl ql ?_; refine xn rfl qm ?_; refine xn rfl qn ?_; refine xn rfl qf ?_; refine xq rfl ql ?_; refine xn rfl qm ?_; refine xn rfl (by exact Qt.cast (v' := .int .i64 ((fr + i : Nat) : Int)) (congrArg (Value.int .i64) (by omega)) (q_add64 rfl rfl ⟨by omega, by omega⟩ rfl)) ?_; refine x_e rfl ?_; refine ecl rfl rfl (fun w hC hm hL => by exact rd_ok gd gw gm D (fr + i) (Fs i) hFi hgo hn6 w (hL.sub (by (repeat (first | exact List.nil_sublist _ | exact List.Sublist.slnil | apply List.Sublist.cons_cons | exact List.Sublist.refl _ | apply List.Sublist.cons))))) ?_; intro z4 m4 hz4 hn4 hm4; obtain ⟨b4, cap4⟩ := z4; obtain ⟨hz4a, hz4b, g4, hz4c⟩ := hz4; dsimp only at hz4a hz4b hz4c; subst hz4c; dsimp only; refine xk ?_; refine xn rfl qm ?_; refine xn rfl qe ?_; refine xn rfl qe ?_; refine xn rfl qa ?_; refine xn rfl qa ?_; refine x_nil ?_) | (refine c_region (id := 5) ?_; refine sq qm ?_; refine sq (by first | exact dneqt | exact dneqf) ?_; refine l_nil ?_) | (refine c_region (id := 7) ?_; refine sq qm ?_; refine se ?_; refine ecp rfl rfl (fun w hC hm hL => by exact headOf_y (Fs i) (hRB i hi2) hS g4 0 cap4 (by omega) w (hL.old_sl (k := 64) (o := 0) (by (repeat (first | exact List.Mem.head _ | apply List.Mem.tail))) (sec_old (Fs i)))) ?_; intro m' hm'; refine sq qm ?_; refine sq qe ?_; refine sq qe ?_; refine se ?_; refine ea ?_; refine se ?_; refine esa ?_ (hk := by rfl) (ho := by rfl) (hoff := by rfl); refine sq qa ?_; refine l_nil ?_) | (refine x_region (id := 8) none [(0, .n), (1, .n), (2, .n), (3, .q), (4, .n), (5, .n), (6, .n), (7, .q), (8, .n), (9, .n), (10, .n), (11, .n), (12, .q), (14, .n), (13, .e), (15, .n), (16, .n), (17, .n), (18, .n), (19, .q), (20, .n), (21, .n), (22, .n), (23, .n), (24, .q), (25, .n), (26, .n)] _ mixed (by kernel_rfl) (List.Sublist.refl _) ?_; refine xn rfl qm ?_; refine xn rfl qm ?_; (first | refine x_nskip rfl rfl rfl rfl ?_ | refine x_nskipv rfl rfl (by rfl) rfl ?_ | refine x_ng rfl rfl rfl (by exact qf) rfl ?_); (first | refine x_skip rfl rfl rfl rfl ?_ | refine x_skipv rfl rfl (by rfl) rfl ?_ | refine x_qg rfl rfl rfl (by exact ql) rfl ?_); (first | refine x_nskip rfl rfl rfl rfl ?_ | refine x_nskipv rfl rfl (by rfl) rfl ?_ | refine x_ng rfl rfl rfl (by exact qm) rfl ?_); (first | refine x_nskip rfl rfl rfl rfl ?_ | refine x_nskipv rfl rfl (by rfl) rfl ?_ | refine x_ng rfl rfl rfl (by exact qn) rfl ?_); (first | refine x_nskip rfl rfl rfl rfl ?_ | refine x_nskipv rfl rfl (by rfl) rfl ?_ | refine x_ng rfl rfl rfl (by exact qf) rfl ?_); (first | refine x_skip rfl rfl rfl rfl ?_ | refine x_skipv rfl rfl (by rfl) rfl ?_ | refine x_qg rfl rfl rfl (by exact ql) rfl ?_); (first | refine x_nskip rfl rfl rfl rfl ?_ | refine x_nskipv rfl rfl (by rfl) rfl ?_ | refine x_ng rfl rfl rfl (by exact qcU) rfl ?_); (first | refine x_nskip rfl rfl rfl rfl ?_ | refine x_nskipv rfl rfl (by rfl) rfl ?_ | refine x_ng rfl rfl rfl (by first | exact dleqt | exact dleqf) rfl ?_); refine xn rfl (by first | exact qpt | exact qpf) ?_; refine xn rfl qm ?_; (first | refine x_skip rfl rfl rfl rfl ?_ | refine x_skipv rfl rfl (by rfl) rfl ?_ | refine x_qg rfl rfl rfl (by exact qlb (hl := by rfl)) rfl ?_); (first | refine x_nskip rfl rfl rfl rfl ?_ | refine x_nskipv rfl rfl (by rfl) rfl ?_ | refine x_ng rfl rfl rfl (by exact qm) rfl ?_); (first | refine x_eskip (List.Sublist.refl _) rfl rfl rfl rfl ?_ | refine x_eskipv (List.Sublist.refl _) rfl rfl (by rfl) rfl ?_ | (refine x_eg rfl rfl rfl ?_; refine ecp rfl rfl (fun w hC hm hL => by exact place_c (hdOf (Fs i)) hse w) ?_; intro m' hm'; refine xk ?_)); (first | refine x_nskip rfl rfl rfl rfl ?_ | refine x_nskipv rfl rfl (by rfl) rfl ?_ | refine x_ng rfl rfl rfl (by first | exact deqlt | exact deqlf) rfl ?_); refine xn rfl (by first | exact qpt | exact qpf) ?_; refine xn rfl qm ?_; (first | refine x_nskip rfl rfl rfl rfl ?_ | refine x_nskipv rfl rfl (by rfl) rfl ?_ | refine x_ng rfl rfl rfl (by exact qf) rfl ?_); (first | refine x_skip rfl rfl rfl rfl ?_ | refine x_skipv rfl rfl (by rfl) rfl ?_ | refine x_qg rfl rfl rfl (by exact ql) rfl ?_); (first | refine x_nskip rfl rfl rfl rfl ?_ | refine x_nskipv rfl rfl (by rfl) rfl ?_ | refine x_ng rfl rfl rfl (by exact qm) rfl ?_); (first | refine x_nskip rfl rfl rfl rfl ?_ | refine x_nskipv rfl rfl (by rfl) rfl ?_ | refine x_ng rfl rfl rfl (by exact qn) rfl ?_); (first | refine x_nskip rfl rfl rfl rfl ?_ | refine x_nskipv rfl rfl (by rfl) rfl ?_ | refine x_ng rfl rfl rfl (by exact qf) rfl ?_); (first | refine x_nskip rfl rfl rfl rfl ?_ | refine x_nskipv rfl rfl (by rfl) rfl ?_ | refine x_ng rfl rfl rfl (by exact qf) rfl ?_); (first | refine x_skip rfl rfl rfl rfl ?_ | refine x_skipv rfl rfl (by rfl) rfl ?_ | refine x_qg rfl rfl rfl (by exact ql) rfl ?_); (first | refine x_nskip rfl rfl rfl rfl ?_ | refine x_nskipv rfl rfl (by rfl) rfl ?_ | refine x_ng rfl rfl rfl (by first | exact dgeqt | exact dgeqf) rfl ?_); refine xn rfl (by first | exact qpt | exact qpf) ?_; refine x_nil ?_) | (refine c_region (id := 9) ?_; refine sq qm ?_; refine sq (by exact qlb (hl := by rfl)) ?_; refine sq qn ?_; refine sq qf ?_; refine se ?_; refine e_store_row (vs := (headE (hdOf (Fs i))).toArray) rfl rfl (by rfl) (by rfl) (by rw [lg_set]; (repeat (first | exact Pl.here | apply Pl.there))) (by show 3 + 18 ≤ 23; omega) (.inl (by simp)) ?_; refine l_nil ?_) | (refine c_region (id := 10) ?_; refine sq qadd64 ?_; refine sq qm ?_; refine l_nil ?_) | refine n_then ?_ | refine c_block ?_ | refine c_skip ?_ | refine n_block ?_ | refine c_exit ?_ | refine n_then_exit ?_ | refine n_block_eq ?_ | refine n_block_ne rfl ?_ | refine c_ret ?_ | refine n_then_ret ?_ | refine n_block_ret ?_ | refine c_cond_t rfl ?_ | refine c_cond_f rfl ?_ | refine r_succ ?_ )
            refine c_round ⟨i + 1, m'⟩ ⟨by dsimp only; omega, by dsimp only; omega⟩ (by dsimp only; omega) ⟨rfl, rfl, rfl, trivial⟩ (by rfl) (by dsimp only; rw [e9]; exact (by (repeat (first | exact List.nil_sublist _ | exact List.Sublist.slnil | apply List.Sublist.cons_cons | exact List.Sublist.refl _ | apply List.Sublist.cons))))
          · have e9 := stI_n (room := room) (Fs := Fs) (i := i) (fun h => hg h.2.2.2)
            repeat (first | refine c_seq ?_ | (refine c_region (id := 2) ?_; refine sq (by first | exact dlsst | exact dlssf) ?_; refine l_nil ?_) | (refine c_region (id := 3) ?_; refine sq qm ?_; refine sq qa ?_; refine l_nil ?_) | (refine x_region (id := 4) none [(0, .n), (1, .n), (2, .n), (3, .q), (4, .n), (5, .n), (6, .n), (7, .q), (8, .n), (9, .n), (10, .e), (11, .n), (12, .n), (13, .n), (14, .n), (15, .n)] _ mixed (by kernel_rfl) (List.Sublist.refl _) ?_; refine xn rfl qm ?_; refine xn rfl qn ?_; refine xn rfl qf ?_; refine xq rfl ql ?_; refine xn rfl qm ?_; refine xn rfl qn ?_; refine xn rfl qf ?_; refine xq rfl ql ?_; refine xn rfl qm ?_; refine xn rfl (by exact Qt.cast (v' := .int .i64 ((fr + i : Nat) : Int)) (congrArg (Value.int .i64) (by omega)) (q_add64 rfl rfl ⟨by omega, by omega⟩ rfl)) ?_; refine x_e rfl ?_; refine ecl rfl rfl (fun w hC hm hL => by exact rd_ok gd gw gm D (fr + i) (Fs i) hFi hgo hn6 w (hL.sub (by (repeat (first | exact List.nil_sublist _ | exact List.Sublist.slnil | apply List.Sublist.cons_cons | exact List.Sublist.refl _ | apply List.Sublist.cons))))) ?_; intro z4 m4 hz4 hn4 hm4; obtain ⟨b4, cap4⟩ := z4; obtain ⟨hz4a, hz4b, g4, hz4c⟩ := hz4; dsimp only at hz4a hz4b hz4c; subst hz4c; dsimp only; refine xk ?_; refine xn rfl qm ?_; refine xn rfl qe ?_; refine xn rfl qe ?_; refine xn rfl qa ?_; refine xn rfl qa ?_; refine x_nil ?_) | (refine c_region (id := 5) ?_; refine sq qm ?_; refine sq (by first | exact dneqt | exact dneqf) ?_; refine l_nil ?_) | (refine c_region (id := 7) ?_; refine sq qm ?_; refine se ?_; refine ecp rfl rfl (fun w hC hm hL => by exact headOf_y (Fs i) (hRB i hi2) hS g4 0 cap4 (by omega) w (hL.old_sl (k := 64) (o := 0) (by (repeat (first | exact List.Mem.head _ | apply List.Mem.tail))) (sec_old (Fs i)))) ?_; intro m' hm'; refine sq qm ?_; refine sq qe ?_; refine sq qe ?_; refine se ?_; refine ea ?_; refine se ?_; refine esa ?_ (hk := by rfl) (ho := by rfl) (hoff := by rfl); refine sq qa ?_; refine l_nil ?_) | (refine x_region (id := 8) none [(0, .n), (1, .n), (2, .n), (3, .q), (4, .n), (5, .n), (6, .n), (7, .q), (8, .n), (9, .n), (10, .n), (11, .n), (12, .q), (14, .n), (13, .e), (15, .n), (16, .n), (17, .n), (18, .n), (19, .q), (20, .n), (21, .n), (22, .n), (23, .n), (24, .q), (25, .n), (26, .n)] _ mixed (by kernel_rfl) (List.Sublist.refl _) ?_; refine xn rfl qm ?_; refine xn rfl qm ?_; (first | refine x_nskip rfl rfl rfl rfl ?_ | refine x_nskipv rfl rfl (by rfl) rfl ?_ | refine x_ng rfl rfl rfl (by exact qf) rfl ?_); (first | refine x_skip rfl rfl rfl rfl ?_ | refine x_skipv rfl rfl (by rfl) rfl ?_ | refine x_qg rfl rfl rfl (by exact ql) rfl ?_); (first | refine x_nskip rfl rfl rfl rfl ?_ | refine x_nskipv rfl rfl (by rfl) rfl ?_ | refine x_ng rfl rfl rfl (by exact qm) rfl ?_); (first | refine x_nskip rfl rfl rfl rfl ?_ | refine x_nskipv rfl rfl (by rfl) rfl ?_ | refine x_ng rfl rfl rfl (by exact qn) rfl ?_); (first | refine x_nskip rfl rfl rfl rfl ?_ | refine x_nskipv rfl rfl (by rfl) rfl ?_ | refine x_ng rfl rfl rfl (by exact qf) rfl ?_); (first | refine x_skip rfl rfl rfl rfl ?_ | refine x_skipv rfl rfl (by rfl) rfl ?_ | refine x_qg rfl rfl rfl (by exact ql) rfl ?_); (first | refine x_nskip rfl rfl rfl rfl ?_ | refine x_nskipv rfl rfl (by rfl) rfl ?_ | refine x_ng rfl rfl rfl (by exact qcU) rfl ?_); (first | refine x_nskip rfl rfl rfl rfl ?_ | refine x_nskipv rfl rfl (by rfl) rfl ?_ | refine x_ng rfl rfl rfl (by first | exact dleqt | exact dleqf) rfl ?_); refine xn rfl (by first | exact qpt | exact qpf) ?_; refine xn rfl qm ?_; (first | refine x_skip rfl rfl rfl rfl ?_ | refine x_skipv rfl rfl (by rfl) rfl ?_ | refine x_qg rfl rfl rfl (by exact qlb (hl := by rfl)) rfl ?_); (first | refine x_nskip rfl rfl rfl rfl ?_ | refine x_nskipv rfl rfl (by rfl) rfl ?_ | refine x_ng rfl rfl rfl (by exact qm) rfl ?_); (first | refine x_eskip (List.Sublist.refl _) rfl rfl rfl rfl ?_ | refine x_eskipv (List.Sublist.refl _) rfl rfl (by rfl) rfl ?_ | (refine x_eg rfl rfl rfl ?_; refine ecp rfl rfl (fun w hC hm hL => by exact place_c (hdOf (Fs i)) hse w) ?_; intro m' hm'; refine xk ?_)); (first | refine x_nskip rfl rfl rfl rfl ?_ | refine x_nskipv rfl rfl (by rfl) rfl ?_ | refine x_ng rfl rfl rfl (by first | exact deqlt | exact deqlf) rfl ?_); refine xn rfl (by first | exact qpt | exact qpf) ?_; refine xn rfl qm ?_; (first | refine x_nskip rfl rfl rfl rfl ?_ | refine x_nskipv rfl rfl (by rfl) rfl ?_ | refine x_ng rfl rfl rfl (by exact qf) rfl ?_); (first | refine x_skip rfl rfl rfl rfl ?_ | refine x_skipv rfl rfl (by rfl) rfl ?_ | refine x_qg rfl rfl rfl (by exact ql) rfl ?_); (first | refine x_nskip rfl rfl rfl rfl ?_ | refine x_nskipv rfl rfl (by rfl) rfl ?_ | refine x_ng rfl rfl rfl (by exact qm) rfl ?_); (first | refine x_nskip rfl rfl rfl rfl ?_ | refine x_nskipv rfl rfl (by rfl) rfl ?_ | refine x_ng rfl rfl rfl (by exact qn) rfl ?_); (first | refine x_nskip rfl rfl rfl rfl ?_ | refine x_nskipv rfl rfl (by rfl) rfl ?_ | refine x_ng rfl rfl rfl (by exact qf) rfl ?_); (first | refine x_nskip rfl rfl rfl rfl ?_ | refine x_nskipv rfl rfl (by rfl) rfl ?_ | refine x_ng rfl rfl rfl (by exact qf) rfl ?_); (first | refine x_skip rfl rfl rfl rfl ?_ | refine x_skipv rfl rfl (by rfl) rfl ?_ | refine x_qg rfl rfl rfl (by exact ql) rfl ?_); (first | refine x_nskip rfl rfl rfl rfl ?_ | refine x_nskipv rfl rfl (by rfl) rfl ?_ | refine x_ng rfl rfl rfl (by first | exact dgeqt | exact dgeqf) rfl ?_); refine xn rfl (by first | exact qpt | exact qpf) ?_; refine x_nil ?_) | (refine c_region (id := 10) ?_; refine sq qadd64 ?_; refine sq qm ?_; refine l_nil ?_) | refine n_then ?_ | refine c_block ?_ | refine c_skip ?_ | refine n_block ?_ | refine c_exit ?_ | refine n_then_exit ?_ | refine n_block_eq ?_ | refine n_block_ne rfl ?_ | refine c_ret ?_ | refine n_then_ret ?_ | refine n_block_ret ?_ | refine c_cond_t rfl ?_ | refine c_cond_f rfl ?_ | refine r_succ ?_ )
            refine c_round ⟨i + 1, m'⟩ ⟨by dsimp only; omega, by dsimp only; omega⟩ (by dsimp only; omega) ⟨rfl, rfl, rfl, trivial⟩ (by rfl) (by dsimp only; rw [e9]; exact (by (repeat (first | exact List.nil_sublist _ | exact List.Sublist.slnil | apply List.Sublist.cons_cons | exact List.Sublist.refl _ | apply List.Sublist.cons))))
        · have e9 := stI_n (room := room) (Fs := Fs) (i := i) (fun h => hp h.2.2.1)
          repeat (first | refine c_seq ?_ | (refine c_region (id := 2) ?_; refine sq (by first | exact dlsst | exact dlssf) ?_; refine l_nil ?_) | (refine c_region (id := 3) ?_; refine sq qm ?_; refine sq qa ?_; refine l_nil ?_) | (refine x_region (id := 4) none [(0, .n), (1, .n), (2, .n), (3, .q), (4, .n), (5, .n), (6, .n), (7, .q), (8, .n), (9, .n), (10, .e), (11, .n), (12, .n), (13, .n), (14, .n), (15, .n)] _ mixed (by kernel_rfl) (List.Sublist.refl _) ?_; refine xn rfl qm ?_; refine xn rfl qn ?_; refine xn rfl qf ?_; refine xq rfl ql ?_; refine xn rfl qm ?_; refine xn rfl qn ?_; refine xn rfl qf ?_; refine xq rfl ql ?_; refine xn rfl qm ?_; refine xn rfl (by exact Qt.cast (v' := .int .i64 ((fr + i : Nat) : Int)) (congrArg (Value.int .i64) (by omega)) (q_add64 rfl rfl ⟨by omega, by omega⟩ rfl)) ?_; refine x_e rfl ?_; refine ecl rfl rfl (fun w hC hm hL => by exact rd_ok gd gw gm D (fr + i) (Fs i) hFi hgo hn6 w (hL.sub (by (repeat (first | exact List.nil_sublist _ | exact List.Sublist.slnil | apply List.Sublist.cons_cons | exact List.Sublist.refl _ | apply List.Sublist.cons))))) ?_; intro z4 m4 hz4 hn4 hm4; obtain ⟨b4, cap4⟩ := z4; obtain ⟨hz4a, hz4b, g4, hz4c⟩ := hz4; dsimp only at hz4a hz4b hz4c; subst hz4c; dsimp only; refine xk ?_; refine xn rfl qm ?_; refine xn rfl qe ?_; refine xn rfl qe ?_; refine xn rfl qa ?_; refine xn rfl qa ?_; refine x_nil ?_) | (refine c_region (id := 5) ?_; refine sq qm ?_; refine sq (by first | exact dneqt | exact dneqf) ?_; refine l_nil ?_) | (refine c_region (id := 7) ?_; refine sq qm ?_; refine se ?_; refine ecp rfl rfl (fun w hC hm hL => by exact headOf_y (Fs i) (hRB i hi2) hS g4 0 cap4 (by omega) w (hL.old_sl (k := 64) (o := 0) (by (repeat (first | exact List.Mem.head _ | apply List.Mem.tail))) (sec_old (Fs i)))) ?_; intro m' hm'; refine sq qm ?_; refine sq qe ?_; refine sq qe ?_; refine se ?_; refine ea ?_; refine se ?_; refine esa ?_ (hk := by rfl) (ho := by rfl) (hoff := by rfl); refine sq qa ?_; refine l_nil ?_) | (refine x_region (id := 8) none [(0, .n), (1, .n), (2, .n), (3, .q), (4, .n), (5, .n), (6, .n), (7, .q), (8, .n), (9, .n), (10, .n), (11, .n), (12, .q), (14, .n), (13, .e), (15, .n), (16, .n), (17, .n), (18, .n), (19, .q), (20, .n), (21, .n), (22, .n), (23, .n), (24, .q), (25, .n), (26, .n)] _ mixed (by kernel_rfl) (List.Sublist.refl _) ?_; refine xn rfl qm ?_; refine xn rfl qm ?_; (first | refine x_nskip rfl rfl rfl rfl ?_ | refine x_nskipv rfl rfl (by rfl) rfl ?_ | refine x_ng rfl rfl rfl (by exact qf) rfl ?_); (first | refine x_skip rfl rfl rfl rfl ?_ | refine x_skipv rfl rfl (by rfl) rfl ?_ | refine x_qg rfl rfl rfl (by exact ql) rfl ?_); (first | refine x_nskip rfl rfl rfl rfl ?_ | refine x_nskipv rfl rfl (by rfl) rfl ?_ | refine x_ng rfl rfl rfl (by exact qm) rfl ?_); (first | refine x_nskip rfl rfl rfl rfl ?_ | refine x_nskipv rfl rfl (by rfl) rfl ?_ | refine x_ng rfl rfl rfl (by exact qn) rfl ?_); (first | refine x_nskip rfl rfl rfl rfl ?_ | refine x_nskipv rfl rfl (by rfl) rfl ?_ | refine x_ng rfl rfl rfl (by exact qf) rfl ?_); (first | refine x_skip rfl rfl rfl rfl ?_ | refine x_skipv rfl rfl (by rfl) rfl ?_ | refine x_qg rfl rfl rfl (by exact ql) rfl ?_); (first | refine x_nskip rfl rfl rfl rfl ?_ | refine x_nskipv rfl rfl (by rfl) rfl ?_ | refine x_ng rfl rfl rfl (by exact qcU) rfl ?_); (first | refine x_nskip rfl rfl rfl rfl ?_ | refine x_nskipv rfl rfl (by rfl) rfl ?_ | refine x_ng rfl rfl rfl (by first | exact dleqt | exact dleqf) rfl ?_); refine xn rfl (by first | exact qpt | exact qpf) ?_; refine xn rfl qm ?_; (first | refine x_skip rfl rfl rfl rfl ?_ | refine x_skipv rfl rfl (by rfl) rfl ?_ | refine x_qg rfl rfl rfl (by exact qlb (hl := by rfl)) rfl ?_); (first | refine x_nskip rfl rfl rfl rfl ?_ | refine x_nskipv rfl rfl (by rfl) rfl ?_ | refine x_ng rfl rfl rfl (by exact qm) rfl ?_); (first | refine x_eskip (List.Sublist.refl _) rfl rfl rfl rfl ?_ | refine x_eskipv (List.Sublist.refl _) rfl rfl (by rfl) rfl ?_ | (refine x_eg rfl rfl rfl ?_; refine ecp rfl rfl (fun w hC hm hL => by exact place_c (hdOf (Fs i)) hse w) ?_; intro m' hm'; refine xk ?_)); (first | refine x_nskip rfl rfl rfl rfl ?_ | refine x_nskipv rfl rfl (by rfl) rfl ?_ | refine x_ng rfl rfl rfl (by first | exact deqlt | exact deqlf) rfl ?_); refine xn rfl (by first | exact qpt | exact qpf) ?_; refine xn rfl qm ?_; (first | refine x_nskip rfl rfl rfl rfl ?_ | refine x_nskipv rfl rfl (by rfl) rfl ?_ | refine x_ng rfl rfl rfl (by exact qf) rfl ?_); (first | refine x_skip rfl rfl rfl rfl ?_ | refine x_skipv rfl rfl (by rfl) rfl ?_ | refine x_qg rfl rfl rfl (by exact ql) rfl ?_); (first | refine x_nskip rfl rfl rfl rfl ?_ | refine x_nskipv rfl rfl (by rfl) rfl ?_ | refine x_ng rfl rfl rfl (by exact qm) rfl ?_); (first | refine x_nskip rfl rfl rfl rfl ?_ | refine x_nskipv rfl rfl (by rfl) rfl ?_ | refine x_ng rfl rfl rfl (by exact qn) rfl ?_); (first | refine x_nskip rfl rfl rfl rfl ?_ | refine x_nskipv rfl rfl (by rfl) rfl ?_ | refine x_ng rfl rfl rfl (by exact qf) rfl ?_); (first | refine x_nskip rfl rfl rfl rfl ?_ | refine x_nskipv rfl rfl (by rfl) rfl ?_ | refine x_ng rfl rfl rfl (by exact qf) rfl ?_); (first | refine x_skip rfl rfl rfl rfl ?_ | refine x_skipv rfl rfl (by rfl) rfl ?_ | refine x_qg rfl rfl rfl (by exact ql) rfl ?_); (first | refine x_nskip rfl rfl rfl rfl ?_ | refine x_nskipv rfl rfl (by rfl) rfl ?_ | refine x_ng rfl rfl rfl (by first | exact dgeqt | exact dgeqf) rfl ?_); refine xn rfl (by first | exact qpt | exact qpf) ?_; refine x_nil ?_) | (refine c_region (id := 10) ?_; refine sq qadd64 ?_; refine sq qm ?_; refine l_nil ?_) | refine n_then ?_ | refine c_block ?_ | refine c_skip ?_ | refine n_block ?_ | refine c_exit ?_ | refine n_then_exit ?_ | refine n_block_eq ?_ | refine n_block_ne rfl ?_ | refine c_ret ?_ | refine n_then_ret ?_ | refine n_block_ret ?_ | refine c_cond_t rfl ?_ | refine c_cond_f rfl ?_ | refine r_succ ?_ )
          refine c_round ⟨i + 1, m'⟩ ⟨by dsimp only; omega, by dsimp only; omega⟩ (by dsimp only; omega) ⟨rfl, rfl, rfl, trivial⟩ (by rfl) (by dsimp only; rw [e9]; exact (by (repeat (first | exact List.nil_sublist _ | exact List.Sublist.slnil | apply List.Sublist.cons_cons | exact List.Sublist.refl _ | apply List.Sublist.cons))))
      · have e9 := stI_n (room := room) (Fs := Fs) (i := i) (fun h => hc h.2.1)
        repeat (first | refine c_seq ?_ | (refine c_region (id := 2) ?_; refine sq (by first | exact dlsst | exact dlssf) ?_; refine l_nil ?_) | (refine c_region (id := 3) ?_; refine sq qm ?_; refine sq qa ?_; refine l_nil ?_) | (refine x_region (id := 4) none [(0, .n), (1, .n), (2, .n), (3, .q), (4, .n), (5, .n), (6, .n), (7, .q), (8, .n), (9, .n), (10, .e), (11, .n), (12, .n), (13, .n), (14, .n), (15, .n)] _ mixed (by kernel_rfl) (List.Sublist.refl _) ?_; refine xn rfl qm ?_; refine xn rfl qn ?_; refine xn rfl qf ?_; refine xq rfl ql ?_; refine xn rfl qm ?_; refine xn rfl qn ?_; refine xn rfl qf ?_; refine xq rfl ql ?_; refine xn rfl qm ?_; refine xn rfl (by exact Qt.cast (v' := .int .i64 ((fr + i : Nat) : Int)) (congrArg (Value.int .i64) (by omega)) (q_add64 rfl rfl ⟨by omega, by omega⟩ rfl)) ?_; refine x_e rfl ?_; refine ecl rfl rfl (fun w hC hm hL => by exact rd_ok gd gw gm D (fr + i) (Fs i) hFi hgo hn6 w (hL.sub (by (repeat (first | exact List.nil_sublist _ | exact List.Sublist.slnil | apply List.Sublist.cons_cons | exact List.Sublist.refl _ | apply List.Sublist.cons))))) ?_; intro z4 m4 hz4 hn4 hm4; obtain ⟨b4, cap4⟩ := z4; obtain ⟨hz4a, hz4b, g4, hz4c⟩ := hz4; dsimp only at hz4a hz4b hz4c; subst hz4c; dsimp only; refine xk ?_; refine xn rfl qm ?_; refine xn rfl qe ?_; refine xn rfl qe ?_; refine xn rfl qa ?_; refine xn rfl qa ?_; refine x_nil ?_) | (refine c_region (id := 5) ?_; refine sq qm ?_; refine sq (by first | exact dneqt | exact dneqf) ?_; refine l_nil ?_) | (refine c_region (id := 7) ?_; refine sq qm ?_; refine se ?_; refine ecp rfl rfl (fun w hC hm hL => by exact headOf_y (Fs i) (hRB i hi2) hS g4 0 cap4 (by omega) w (hL.old_sl (k := 64) (o := 0) (by (repeat (first | exact List.Mem.head _ | apply List.Mem.tail))) (sec_old (Fs i)))) ?_; intro m' hm'; refine sq qm ?_; refine sq qe ?_; refine sq qe ?_; refine se ?_; refine ea ?_; refine se ?_; refine esa ?_ (hk := by rfl) (ho := by rfl) (hoff := by rfl); refine sq qa ?_; refine l_nil ?_) | (refine x_region (id := 8) none [(0, .n), (1, .n), (2, .n), (3, .q), (4, .n), (5, .n), (6, .n), (7, .q), (8, .n), (9, .n), (10, .n), (11, .n), (12, .q), (14, .n), (13, .e), (15, .n), (16, .n), (17, .n), (18, .n), (19, .q), (20, .n), (21, .n), (22, .n), (23, .n), (24, .q), (25, .n), (26, .n)] _ mixed (by kernel_rfl) (List.Sublist.refl _) ?_; refine xn rfl qm ?_; refine xn rfl qm ?_; (first | refine x_nskip rfl rfl rfl rfl ?_ | refine x_nskipv rfl rfl (by rfl) rfl ?_ | refine x_ng rfl rfl rfl (by exact qf) rfl ?_); (first | refine x_skip rfl rfl rfl rfl ?_ | refine x_skipv rfl rfl (by rfl) rfl ?_ | refine x_qg rfl rfl rfl (by exact ql) rfl ?_); (first | refine x_nskip rfl rfl rfl rfl ?_ | refine x_nskipv rfl rfl (by rfl) rfl ?_ | refine x_ng rfl rfl rfl (by exact qm) rfl ?_); (first | refine x_nskip rfl rfl rfl rfl ?_ | refine x_nskipv rfl rfl (by rfl) rfl ?_ | refine x_ng rfl rfl rfl (by exact qn) rfl ?_); (first | refine x_nskip rfl rfl rfl rfl ?_ | refine x_nskipv rfl rfl (by rfl) rfl ?_ | refine x_ng rfl rfl rfl (by exact qf) rfl ?_); (first | refine x_skip rfl rfl rfl rfl ?_ | refine x_skipv rfl rfl (by rfl) rfl ?_ | refine x_qg rfl rfl rfl (by exact ql) rfl ?_); (first | refine x_nskip rfl rfl rfl rfl ?_ | refine x_nskipv rfl rfl (by rfl) rfl ?_ | refine x_ng rfl rfl rfl (by exact qcU) rfl ?_); (first | refine x_nskip rfl rfl rfl rfl ?_ | refine x_nskipv rfl rfl (by rfl) rfl ?_ | refine x_ng rfl rfl rfl (by first | exact dleqt | exact dleqf) rfl ?_); refine xn rfl (by first | exact qpt | exact qpf) ?_; refine xn rfl qm ?_; (first | refine x_skip rfl rfl rfl rfl ?_ | refine x_skipv rfl rfl (by rfl) rfl ?_ | refine x_qg rfl rfl rfl (by exact qlb (hl := by rfl)) rfl ?_); (first | refine x_nskip rfl rfl rfl rfl ?_ | refine x_nskipv rfl rfl (by rfl) rfl ?_ | refine x_ng rfl rfl rfl (by exact qm) rfl ?_); (first | refine x_eskip (List.Sublist.refl _) rfl rfl rfl rfl ?_ | refine x_eskipv (List.Sublist.refl _) rfl rfl (by rfl) rfl ?_ | (refine x_eg rfl rfl rfl ?_; refine ecp rfl rfl (fun w hC hm hL => by exact place_c (hdOf (Fs i)) hse w) ?_; intro m' hm'; refine xk ?_)); (first | refine x_nskip rfl rfl rfl rfl ?_ | refine x_nskipv rfl rfl (by rfl) rfl ?_ | refine x_ng rfl rfl rfl (by first | exact deqlt | exact deqlf) rfl ?_); refine xn rfl (by first | exact qpt | exact qpf) ?_; refine xn rfl qm ?_; (first | refine x_nskip rfl rfl rfl rfl ?_ | refine x_nskipv rfl rfl (by rfl) rfl ?_ | refine x_ng rfl rfl rfl (by exact qf) rfl ?_); (first | refine x_skip rfl rfl rfl rfl ?_ | refine x_skipv rfl rfl (by rfl) rfl ?_ | refine x_qg rfl rfl rfl (by exact ql) rfl ?_); (first | refine x_nskip rfl rfl rfl rfl ?_ | refine x_nskipv rfl rfl (by rfl) rfl ?_ | refine x_ng rfl rfl rfl (by exact qm) rfl ?_); (first | refine x_nskip rfl rfl rfl rfl ?_ | refine x_nskipv rfl rfl (by rfl) rfl ?_ | refine x_ng rfl rfl rfl (by exact qn) rfl ?_); (first | refine x_nskip rfl rfl rfl rfl ?_ | refine x_nskipv rfl rfl (by rfl) rfl ?_ | refine x_ng rfl rfl rfl (by exact qf) rfl ?_); (first | refine x_nskip rfl rfl rfl rfl ?_ | refine x_nskipv rfl rfl (by rfl) rfl ?_ | refine x_ng rfl rfl rfl (by exact qf) rfl ?_); (first | refine x_skip rfl rfl rfl rfl ?_ | refine x_skipv rfl rfl (by rfl) rfl ?_ | refine x_qg rfl rfl rfl (by exact ql) rfl ?_); (first | refine x_nskip rfl rfl rfl rfl ?_ | refine x_nskipv rfl rfl (by rfl) rfl ?_ | refine x_ng rfl rfl rfl (by first | exact dgeqt | exact dgeqf) rfl ?_); refine xn rfl (by first | exact qpt | exact qpf) ?_; refine x_nil ?_) | (refine c_region (id := 10) ?_; refine sq qadd64 ?_; refine sq qm ?_; refine l_nil ?_) | refine n_then ?_ | refine c_block ?_ | refine c_skip ?_ | refine n_block ?_ | refine c_exit ?_ | refine n_then_exit ?_ | refine n_block_eq ?_ | refine n_block_ne rfl ?_ | refine c_ret ?_ | refine n_then_ret ?_ | refine n_block_ret ?_ | refine c_cond_t rfl ?_ | refine c_cond_f rfl ?_ | refine r_succ ?_ )
        refine c_round ⟨i + 1, m' + 1⟩ ⟨by dsimp only; omega, by dsimp only; omega⟩ (by dsimp only; omega) ⟨rfl, rfl, rfl, trivial⟩ (by rfl) (by dsimp only; rw [e9]; exact (by (repeat (first | exact List.nil_sublist _ | exact List.Sublist.slnil | apply List.Sublist.cons_cons | exact List.Sublist.refl _ | apply List.Sublist.cons))))
    · have e9 := stI_n (room := room) (Fs := Fs) (i := i) (fun h => hS h.1)
      repeat (first | refine c_seq ?_ | (refine c_region (id := 2) ?_; refine sq (by first | exact dlsst | exact dlssf) ?_; refine l_nil ?_) | (refine c_region (id := 3) ?_; refine sq qm ?_; refine sq qa ?_; refine l_nil ?_) | (refine x_region (id := 4) none [(0, .n), (1, .n), (2, .n), (3, .q), (4, .n), (5, .n), (6, .n), (7, .q), (8, .n), (9, .n), (10, .e), (11, .n), (12, .n), (13, .n), (14, .n), (15, .n)] _ mixed (by kernel_rfl) (List.Sublist.refl _) ?_; refine xn rfl qm ?_; refine xn rfl qn ?_; refine xn rfl qf ?_; refine xq rfl ql ?_; refine xn rfl qm ?_; refine xn rfl qn ?_; refine xn rfl qf ?_; refine xq rfl ql ?_; refine xn rfl qm ?_; refine xn rfl (by exact Qt.cast (v' := .int .i64 ((fr + i : Nat) : Int)) (congrArg (Value.int .i64) (by omega)) (q_add64 rfl rfl ⟨by omega, by omega⟩ rfl)) ?_; refine x_e rfl ?_; refine ecl rfl rfl (fun w hC hm hL => by exact rd_ok gd gw gm D (fr + i) (Fs i) hFi hgo hn6 w (hL.sub (by (repeat (first | exact List.nil_sublist _ | exact List.Sublist.slnil | apply List.Sublist.cons_cons | exact List.Sublist.refl _ | apply List.Sublist.cons))))) ?_; intro z4 m4 hz4 hn4 hm4; obtain ⟨b4, cap4⟩ := z4; obtain ⟨hz4a, hz4b, g4, hz4c⟩ := hz4; dsimp only at hz4a hz4b hz4c; subst hz4c; dsimp only; refine xk ?_; refine xn rfl qm ?_; refine xn rfl qe ?_; refine xn rfl qe ?_; refine xn rfl qa ?_; refine xn rfl qa ?_; refine x_nil ?_) | (refine c_region (id := 5) ?_; refine sq qm ?_; refine sq (by first | exact dneqt | exact dneqf) ?_; refine l_nil ?_) | (refine c_region (id := 7) ?_; refine sq qm ?_; refine se ?_; refine ecp rfl rfl (fun w hC hm hL => by exact headOf_n (Fs i) (hRB i hi2) hS g4 0 cap4 (by omega) w (hL.old_sl (k := 64) (o := 0) (by (repeat (first | exact List.Mem.head _ | apply List.Mem.tail))) (sec_old (Fs i)))) ?_; intro m' hm'; refine sq qm ?_; refine sq qe ?_; refine sq qe ?_; refine se ?_; refine ea ?_; refine se ?_; refine esa ?_ (hk := by rfl) (ho := by rfl) (hoff := by rfl); refine sq qa ?_; refine l_nil ?_) | (refine x_region (id := 8) none [(0, .n), (1, .n), (2, .n), (3, .q), (4, .n), (5, .n), (6, .n), (7, .q), (8, .n), (9, .n), (10, .n), (11, .n), (12, .q), (14, .n), (13, .e), (15, .n), (16, .n), (17, .n), (18, .n), (19, .q), (20, .n), (21, .n), (22, .n), (23, .n), (24, .q), (25, .n), (26, .n)] _ mixed (by kernel_rfl) (List.Sublist.refl _) ?_; refine xn rfl qm ?_; refine xn rfl qm ?_; (first | refine x_nskip rfl rfl rfl rfl ?_ | refine x_nskipv rfl rfl (by rfl) rfl ?_ | refine x_ng rfl rfl rfl (by exact qf) rfl ?_); (first | refine x_skip rfl rfl rfl rfl ?_ | refine x_skipv rfl rfl (by rfl) rfl ?_ | refine x_qg rfl rfl rfl (by exact ql) rfl ?_); (first | refine x_nskip rfl rfl rfl rfl ?_ | refine x_nskipv rfl rfl (by rfl) rfl ?_ | refine x_ng rfl rfl rfl (by exact qm) rfl ?_); (first | refine x_nskip rfl rfl rfl rfl ?_ | refine x_nskipv rfl rfl (by rfl) rfl ?_ | refine x_ng rfl rfl rfl (by exact qn) rfl ?_); (first | refine x_nskip rfl rfl rfl rfl ?_ | refine x_nskipv rfl rfl (by rfl) rfl ?_ | refine x_ng rfl rfl rfl (by exact qf) rfl ?_); (first | refine x_skip rfl rfl rfl rfl ?_ | refine x_skipv rfl rfl (by rfl) rfl ?_ | refine x_qg rfl rfl rfl (by exact ql) rfl ?_); (first | refine x_nskip rfl rfl rfl rfl ?_ | refine x_nskipv rfl rfl (by rfl) rfl ?_ | refine x_ng rfl rfl rfl (by exact qcU) rfl ?_); (first | refine x_nskip rfl rfl rfl rfl ?_ | refine x_nskipv rfl rfl (by rfl) rfl ?_ | refine x_ng rfl rfl rfl (by first | exact dleqt | exact dleqf) rfl ?_); refine xn rfl (by first | exact qpt | exact qpf) ?_; refine xn rfl qm ?_; (first | refine x_skip rfl rfl rfl rfl ?_ | refine x_skipv rfl rfl (by rfl) rfl ?_ | refine x_qg rfl rfl rfl (by exact qlb (hl := by rfl)) rfl ?_); (first | refine x_nskip rfl rfl rfl rfl ?_ | refine x_nskipv rfl rfl (by rfl) rfl ?_ | refine x_ng rfl rfl rfl (by exact qm) rfl ?_); (first | refine x_eskip (List.Sublist.refl _) rfl rfl rfl rfl ?_ | refine x_eskipv (List.Sublist.refl _) rfl rfl (by rfl) rfl ?_ | (refine x_eg rfl rfl rfl ?_; refine ecp rfl rfl (fun w hC hm hL => by exact place_c (hdOf (Fs i)) hse w) ?_; intro m' hm'; refine xk ?_)); (first | refine x_nskip rfl rfl rfl rfl ?_ | refine x_nskipv rfl rfl (by rfl) rfl ?_ | refine x_ng rfl rfl rfl (by first | exact deqlt | exact deqlf) rfl ?_); refine xn rfl (by first | exact qpt | exact qpf) ?_; refine xn rfl qm ?_; (first | refine x_nskip rfl rfl rfl rfl ?_ | refine x_nskipv rfl rfl (by rfl) rfl ?_ | refine x_ng rfl rfl rfl (by exact qf) rfl ?_); (first | refine x_skip rfl rfl rfl rfl ?_ | refine x_skipv rfl rfl (by rfl) rfl ?_ | refine x_qg rfl rfl rfl (by exact ql) rfl ?_); (first | refine x_nskip rfl rfl rfl rfl ?_ | refine x_nskipv rfl rfl (by rfl) rfl ?_ | refine x_ng rfl rfl rfl (by exact qm) rfl ?_); (first | refine x_nskip rfl rfl rfl rfl ?_ | refine x_nskipv rfl rfl (by rfl) rfl ?_ | refine x_ng rfl rfl rfl (by exact qn) rfl ?_); (first | refine x_nskip rfl rfl rfl rfl ?_ | refine x_nskipv rfl rfl (by rfl) rfl ?_ | refine x_ng rfl rfl rfl (by exact qf) rfl ?_); (first | refine x_nskip rfl rfl rfl rfl ?_ | refine x_nskipv rfl rfl (by rfl) rfl ?_ | refine x_ng rfl rfl rfl (by exact qf) rfl ?_); (first | refine x_skip rfl rfl rfl rfl ?_ | refine x_skipv rfl rfl (by rfl) rfl ?_ | refine x_qg rfl rfl rfl (by exact ql) rfl ?_); (first | refine x_nskip rfl rfl rfl rfl ?_ | refine x_nskipv rfl rfl (by rfl) rfl ?_ | refine x_ng rfl rfl rfl (by first | exact dgeqt | exact dgeqf) rfl ?_); refine xn rfl (by first | exact qpt | exact qpf) ?_; refine x_nil ?_) | (refine c_region (id := 10) ?_; refine sq qadd64 ?_; refine sq qm ?_; refine l_nil ?_) | refine n_then ?_ | refine c_block ?_ | refine c_skip ?_ | refine n_block ?_ | refine c_exit ?_ | refine n_then_exit ?_ | refine n_block_eq ?_ | refine n_block_ne rfl ?_ | refine c_ret ?_ | refine n_then_ret ?_ | refine n_block_ret ?_ | refine c_cond_t rfl ?_ | refine c_cond_f rfl ?_ | refine r_succ ?_ )
      refine c_round ⟨i + 1, m' + 1⟩ ⟨by dsimp only; omega, by dsimp only; omega⟩ (by dsimp only; omega) ⟨rfl, rfl, rfl, trivial⟩ (by rfl) (by dsimp only; rw [e9]; exact (by (repeat (first | exact List.nil_sublist _ | exact List.Sublist.slnil | apply List.Sublist.cons_cons | exact List.Sublist.refl _ | apply List.Sublist.cons))))
  · obtain rfl : i = 2 := by omega
    repeat (first | refine c_seq ?_ | (refine c_region (id := 2) ?_; refine sq (by first | exact dlsst | exact dlssf) ?_; refine l_nil ?_) | (refine c_region (id := 11) ?_; refine sq qa ?_; refine l_nil ?_) | refine n_then ?_ | refine c_block ?_ | refine c_skip ?_ | refine n_block ?_ | refine c_exit ?_ | refine n_then_exit ?_ | refine n_block_eq ?_ | refine n_block_ne rfl ?_ | refine c_ret ?_ | refine n_then_ret ?_ | refine n_block_ret ?_ | refine c_cond_t rfl ?_ | refine c_cond_f rfl ?_ | refine r_succ ?_ )
    (first | apply r_ret () | apply r_end ()); exact rfl; exact rfl; exact (.tmp rfl .nil); exact rfl; exact (by exact (by (repeat (first | exact List.nil_sublist _ | exact List.Sublist.slnil | apply List.Sublist.cons_cons | exact List.Sublist.refl _ | apply List.Sublist.cons)))); exact (by intro g hg; simp [feet, Chunk.foot] at hg; exact .inl (by simp [hg])); exact trivial
def rmL (Fs : Nat → Nat → Int) (n : Nat) : List Int := (List.range n).map fun p => Fs (2 + p / 64) (p % 64)
theorem rmL_len (Fs : Nat → Nat → Int) (n : Nat) : (rmL Fs n).length = n := by simp [rmL]
theorem rm_succ (Fs : Nat → Nat → Int) (i : Nat) : rmL Fs (64 * i) ++ secL (Fs (2 + i)) 64 = rmL Fs (64 * i + 64) := by
  unfold rmL secL
  rw [List.range_add, List.map_append, List.map_map]
  congr 1
  apply List.map_congr_left
  intro j hj
  have hj := List.mem_range.1 hj
  show Fs (2 + i) j = Fs (2 + (64 * i + j) / 64) ((64 * i + j) % 64)
  rw [show (64 * i + j) / 64 = i by omega, show (64 * i + j) % 64 = j by omega]
theorem rm_take (Fs : Nat → Nat → Int) (n c : Nat) (h : c ≤ n) : (rmL Fs n).take c = rmL Fs c := by
  unfold rmL
  rw [← List.map_take, List.take_range, Nat.min_eq_left h]
theorem sl0 {X : List Nat} {k : Nat} {b : Option Addr} {cap len : Nat} (h : OS X k b cap len) : (if cap = (0 : Int).toNat then b else b.map (·.add ((0 : Int).toNat * 1))) = b := by
  rcases h.ob with ⟨rfl, _⟩ | ⟨g, rfl⟩
  · simp
  · split
    · rfl
    · simp [Addr.add_mid]
set_option maxRecDepth 100000 in
set_option maxHeartbeats 4000000 in
theorem bytesR_c (gl gd gw gm fr room : Nat) (h : Hd) (ov : Bool) (Fs : Nat → Nat → Int) (c : Nat) (hc : h.cnt = c) (hfr : fr ≤ 16384) (hcr : c ≤ room) (hroom : room ≤ 2000000) (D : Dk) (hgo : D.gone = false) (hn6 : D.secs.length ≤ 16384) (hF : ∀ i, 64 * i < c → D.secs[fr + (2 + i)]? = some (Fs (2 + i))) (w : World) (hL0 : Has (LgB gl gd fr room h (.slice none 0 0) ov :: DskL gd gw gm D) w) :
    CA Tryd.prog 34 [.pointer (some ⟨gl, 0, none⟩)] w (Ret (fun _ : Option Addr × Nat => .int .i64 0) [gl] (fun z => [.sl z.1 z.2 5 1 ((rmL Fs (c)).map (Value.int .u8)), LgB gl gd fr room h (.slice z.1 (c) z.2) ov]) (fun z => c ≤ z.2 ∧ z.2 ≤ 9223372036854775807 ∧ ((z.1 = none ∧ c = 0) ∨ ∃ g, z.1 = some ⟨g, 0, none⟩)) w) := by
  refine enter (L := (LgB gl gd fr room h (.slice none 0 0) ov :: DskL gd gw gm D)) (X := [gl]) Tryd.func34 rfl Tryd.ntmps34 rfl rfl hL0 ?_
  repeat (first | refine c_seq ?_ | (refine c_region (id := 0) ?_; refine sq qa ?_; refine l_nil ?_) | (refine c_region (id := 1) ?_; refine sq qm ?_; refine sq qn ?_; refine sq qf ?_; refine sq qf ?_; refine sq ql ?_; refine sq (by exact Qt.cast (v' := .int .i64 ((c : Nat) : Int)) (congrArg (Value.int .i64) (by omega)) (qci (h0 := by omega) (h1 := by omega))) ?_; refine sq qa ?_; refine l_nil ?_) | (refine c_region (id := 2) ?_; refine sq qa ?_; refine l_nil ?_) | refine n_then ?_ | refine c_block ?_ | refine c_skip ?_ | refine n_block ?_ | refine c_exit ?_ | refine n_then_exit ?_ | refine n_block_eq ?_ | refine n_block_ne rfl ?_ | refine c_ret ?_ | refine n_then_ret ?_ | refine n_block_ret ?_ | refine c_cond_t rfl ?_ | refine c_cond_f rfl ?_ | refine r_succ ?_ )
  refine add_nil 5 1 ?_
  refine c_loop (γ := Nat × Option Addr × Nat × Nat) (fun z => [(4, .int .i64 z.1), (3, .int .i64 c), (0, .pointer (some ⟨gl, 0, none⟩)), (2, .int .i64 0)]) (fun z => z.2.2.2) (fun z => .sl z.2.1 z.2.2.1 5 1 ((rmL Fs (64 * z.1)).map (Value.int .u8)) :: LgB gl gd fr room h (.slice z.2.1 (64 * z.1) z.2.2.1) ov :: DskL gd gw gm D) (fun z => 64 * z.1 < c + 64 ∧ OS [gl] w.heap.size z.2.1 z.2.2.1 (64 * z.1) ∧ w.heap.size ≤ z.2.2.2) (fun z => c + 64 - 64 * z.1) ⟨0, none, 0, w.heap.size⟩ ⟨by simp, OS.nil _ _, Nat.le_refl _⟩ ⟨rfl, rfl, rfl, rfl, trivial⟩ rfl (List.Sublist.refl _) ?_
  rintro ⟨i, b, cap, mm⟩ ⟨hi, ho, hmm⟩
  dsimp only at hi ho hmm ⊢
  by_cases h8 : 64 * i < c
  · have hFi := hF i h8
    repeat (first | refine c_seq ?_ | (refine c_region (id := 3) ?_; refine sq qm ?_; refine sq qn ?_; refine sq qf ?_; refine sq ql ?_; refine sq qls ?_; refine sq qm ?_; refine sq (by first | exact dlsst | exact dlssf) ?_; refine l_nil ?_) | (refine c_region (id := 4) ?_; refine sq qm ?_; refine sq qadd64 ?_; refine sq qa ?_; refine l_nil ?_) | (refine x_region (id := 5) none [(0, .n), (1, .n), (2, .n), (3, .q), (4, .n), (5, .n), (6, .n), (7, .q), (8, .n), (9, .n), (10, .n), (11, .e), (12, .n), (13, .n), (14, .n), (15, .n), (16, .n)] _ mixed (by kernel_rfl) (List.Sublist.refl _) ?_; refine xn rfl qm ?_; refine xn rfl qn ?_; refine xn rfl qf ?_; refine xq rfl ql ?_; refine xn rfl qm ?_; refine xn rfl qn ?_; refine xn rfl qf ?_; refine xq rfl ql ?_; refine xn rfl qadd64 ?_; refine xn rfl qm ?_; refine xn rfl (by exact Qt.cast (v' := .int .i64 ((fr + (2 + i) : Nat) : Int)) (congrArg (Value.int .i64) (by omega)) (q_add64 rfl rfl ⟨by omega, by omega⟩ rfl)) ?_; refine x_e rfl ?_; refine ecl rfl rfl (fun w hC hm hL => by exact rd_ok gd gw gm D (fr + (2 + i)) (Fs (2 + i)) hFi hgo hn6 w (hL.sub (by (repeat (first | exact List.nil_sublist _ | exact List.Sublist.slnil | apply List.Sublist.cons_cons | exact List.Sublist.refl _ | apply List.Sublist.cons))))) ?_; intro z4 m4 hz4 hn4 hm4; obtain ⟨b4, cap4⟩ := z4; obtain ⟨hz4a, hz4b, g4, hz4c⟩ := hz4; dsimp only at hz4a hz4b hz4c; subst hz4c; dsimp only; refine xk ?_; refine xn rfl qm ?_; refine xn rfl qe ?_; refine xn rfl qe ?_; refine xn rfl qa ?_; refine xn rfl qa ?_; refine x_nil ?_) | (refine c_region (id := 6) ?_; refine sq qm ?_; refine sq (by first | exact dneqt | exact dneqf) ?_; refine l_nil ?_) | (refine c_region (id := 8) ?_; refine sq qm ?_; refine sq qm ?_; refine sq qn ?_; refine sq qf ?_; refine sq ql ?_; refine sq qm ?_; refine se ?_; refine e_appE (Value.int .u8) (rmL Fs (64 * i)) (secL (Fs (2 + i)) 64) rfl rfl rfl (by (repeat (first | exact Rm.here | apply Rm.there))) (.inr ⟨_, rfl, RdN.sl (by (repeat (first | exact List.Mem.head _ | apply List.Mem.tail))) (by rw [List.drop_zero]; exact List.take_length)⟩) (rmL_len _ _) (secL_len _ _) ho (allOne_u8L _) (by omega) (by omega) ?_; intro b2 cap2 m2 ho2 hm2; refine sq qn ?_; refine sq qf ?_; refine se ?_; refine es1 ?_ (hg := .inl (by simp)); refine l_nil ?_) | refine n_then ?_ | refine c_block ?_ | refine c_skip ?_ | refine n_block ?_ | refine c_exit ?_ | refine n_then_exit ?_ | refine n_block_eq ?_ | refine n_block_ne rfl ?_ | refine c_ret ?_ | refine n_then_ret ?_ | refine n_block_ret ?_ | refine c_cond_t rfl ?_ | refine c_cond_f rfl ?_ | refine r_succ ?_ )
    refine c_round ⟨i + 1, b2, cap2, m2⟩ ⟨by dsimp only; omega, ho2, by dsimp only; omega⟩ (by dsimp only; omega) ⟨rfl, rfl, rfl, rfl, trivial⟩ (by rfl) (by dsimp only; rw [rm_succ]; exact (by (repeat (first | exact List.nil_sublist _ | exact List.Sublist.slnil | apply List.Sublist.cons_cons | exact List.Sublist.refl _ | apply List.Sublist.cons))))
  · have hlc := ho.le
    have e9 : ((rmL Fs (64 * i)).map (Value.int .u8)).take c = (rmL Fs c).map (Value.int .u8) := by rw [← List.map_take, rm_take _ _ _ (by omega)]
    refine wk_sl c (by (repeat (first | exact Pl.here | apply Pl.there))) ?_
    rw [e9]
    repeat (first | refine c_seq ?_ | (refine c_region (id := 3) ?_; refine sq qm ?_; refine sq qn ?_; refine sq qf ?_; refine sq ql ?_; refine sq qls ?_; refine sq qm ?_; refine sq (by first | exact dlsst | exact dlssf) ?_; refine l_nil ?_) | (refine c_region (id := 9) ?_; refine sq qm ?_; refine sq qm ?_; refine sq qn ?_; refine sq qf ?_; refine sq ql ?_; refine sq qm ?_; refine sq (by exact qs (b' := b) (hb' := sl0 ho) (h2 := by have := ho.le; omega) (hlc := ho.le)) ?_; refine sq qn ?_; refine sq qf ?_; refine se ?_; refine es1 ?_ (hg := .inl (by simp)); refine l_nil ?_) | (refine c_region (id := 10) ?_; refine sq qa ?_; refine l_nil ?_) | refine n_then ?_ | refine c_block ?_ | refine c_skip ?_ | refine n_block ?_ | refine c_exit ?_ | refine n_then_exit ?_ | refine n_block_eq ?_ | refine n_block_ne rfl ?_ | refine c_ret ?_ | refine n_then_ret ?_ | refine n_block_ret ?_ | refine c_cond_t rfl ?_ | refine c_cond_f rfl ?_ | refine r_succ ?_ )
    (first | apply r_ret (b, cap) | apply r_end (b, cap)); exact rfl; exact rfl; exact (.tmp rfl .nil); exact rfl; exact (by exact (by (repeat (first | exact List.nil_sublist _ | exact List.Sublist.slnil | apply List.Sublist.cons_cons | exact List.Sublist.refl _ | apply List.Sublist.cons)))); exact (new_sl ho.newc (new_blk (.inl (by simp)) new_nil)); exact ⟨by dsimp only; omega, ho.max, ho.ob.imp (fun h => ⟨h.1, by omega⟩) id⟩
end Go.Proofs.YtgmghkakiocmjaaDoor
namespace Go.Proofs.YtgmghkakiocmjaaDoor
open Go Go.RowKit
set_option linter.unusedVariables false
set_option linter.unusedSimpArgs false
theorem stI_K {room : Nat} {Fs : Nat → Nat → Int} (hRB : ∀ i, i < 2 → RB (Fs i)) : ∀ i, i ≤ 2 → HdK (stI room Fs i) ∧ (stI room Fs i).cnt ≤ room
  | 0, _ => ⟨hdZ_K, by show (0 : Int) ≤ room; omega⟩
  | i + 1, hi => by
    have h1 := stI_K (room := room) hRB i (by omega)
    by_cases h : hdU room i (stI room Fs i) (Fs i)
    · rw [stI_y h]
      exact ⟨hdOf_K (hRB i (by omega)), h.2.1⟩
    · rw [stI_n h]; exact h1
set_option maxRecDepth 100000 in
set_option maxHeartbeats 4000000 in
theorem open_c (gd gw gm fr kn : Nat) (hk : 3 ≤ kn ∧ kn ≤ 16384) (Fs : Nat → Nat → Int) (D : Dk) (hgo : D.gone = false) (hn6 : D.secs.length ≤ 16384) (hfk : fr + kn ≤ D.secs.length) (hF : ∀ i, i < kn → D.secs[fr + i]? = some (Fs i)) (hRB : ∀ i, i < 2 → RB (Fs i)) (c : Nat) (hc : (stI ((kn - 2) * 64) Fs 2).cnt = c) (w : World) (hD : Has (DskL gd gw gm D) w) :
    CA Tryd.prog 13 [.pointer (some ⟨gd, 0, none⟩), .int .i64 (fr : Int), .int .i64 (kn : Int)] w (Ret (fun z : Nat × Option Addr × Nat => .tuple #[.pointer (some ⟨z.1, 0, none⟩), .int .i64 0]) [] (fun z => [.sl z.2.1 z.2.2 5 1 ((rmL Fs c).map (Value.int .u8)), LgB z.1 gd fr ((kn - 2) * 64) (stI ((kn - 2) * 64) Fs 2) (.slice z.2.1 c z.2.2) false]) (fun z => c ≤ z.2.2 ∧ z.2.2 ≤ 9223372036854775807 ∧ ((z.2.1 = none ∧ c = 0) ∨ ∃ g, z.2.1 = some ⟨g, 0, none⟩)) w) := by
  have hcr : c ≤ ((kn - 2) * 64) := by
    have h9 := (stI_K (room := ((kn - 2) * 64)) hRB 2 (Nat.le_refl _)).2
    omega
  refine enter (L := DskL gd gw gm D) (X := []) Tryd.func13 rfl Tryd.ntmps13 rfl rfl hD ?_
  repeat (first | refine c_seq ?_ | (refine c_region (id := 0) ?_; refine sq qa ?_; refine sq qa ?_; refine l_nil ?_) | (refine c_region (id := 1) ?_; refine sq qm ?_; refine sq (by first | exact dlsst | exact dlssf) ?_; refine sq qm ?_; (first | refine sk ?_ | refine skv ?_ | (refine st_want rfl rfl ?_; refine sq qm ?_)); (first | refine sk ?_ | refine skv ?_ | (refine st_want rfl rfl ?_; refine sq (by first | exact dlsst | exact dlssf) ?_)); refine sq (by first | exact qpt | exact qpf) ?_; refine sq qm ?_; (first | refine sk ?_ | refine skv ?_ | (refine st_want rfl rfl ?_; refine sq qm ?_)); (first | refine sk ?_ | refine skv ?_ | (refine st_want rfl rfl ?_; refine sq qm ?_)); (first | refine sk ?_ | refine skv ?_ | (refine st_want rfl rfl ?_; refine se ?_; refine ecp rfl rfl (fun w hC hm hL => by exact sect_c gd gw gm D w (hL.sub (by (repeat (first | exact List.nil_sublist _ | exact List.Sublist.slnil | apply List.Sublist.cons_cons | exact List.Sublist.refl _ | apply List.Sublist.cons))))) ?_; intro m' hm')); (first | refine sk ?_ | refine skv ?_ | (refine st_want rfl rfl ?_; refine sq (by first | exact dgtrt | exact dgtrf) ?_)); refine sq (by first | exact qpt | exact qpf) ?_; refine sq qm ?_; (first | refine sk ?_ | refine skv ?_ | (refine st_want rfl rfl ?_; refine sq qm ?_)); (first | refine sk ?_ | refine skv ?_ | (refine st_want rfl rfl ?_; refine sq qm ?_)); (first | refine sk ?_ | refine skv ?_ | (refine st_want rfl rfl ?_; refine se ?_; refine ecp rfl rfl (fun w hC hm hL => by exact sect_c gd gw gm D w (hL.sub (by (repeat (first | exact List.nil_sublist _ | exact List.Sublist.slnil | apply List.Sublist.cons_cons | exact List.Sublist.refl _ | apply List.Sublist.cons))))) ?_; intro m' hm')); (first | refine sk ?_ | refine skv ?_ | (refine st_want rfl rfl ?_; refine sq qm ?_)); (first | refine sk ?_ | refine skv ?_ | (refine st_want rfl rfl ?_; refine sq qsub64 ?_)); (first | refine sk ?_ | refine skv ?_ | (refine st_want rfl rfl ?_; refine sq (by first | exact dgtrt | exact dgtrf) ?_)); refine sq (by first | exact qpt | exact qpf) ?_; refine l_nil ?_) | (refine c_region (id := 3) ?_; refine sq qm ?_; refine sq qm ?_; refine sq qm ?_; refine sq (by exact Qt.cast (v' := .int .i64 (((kn - 2) : Nat) : Int)) (congrArg (Value.int .i64) (by omega)) (q_sub64 rfl rfl ⟨by omega, by omega⟩ rfl)) ?_; refine sq (by exact Qt.cast (v' := .int .i64 ((((kn - 2) * 64) : Nat) : Int)) (congrArg (Value.int .i64) (by omega)) (q_mul64 rfl rfl ⟨by omega, by omega⟩ rfl)) ?_; refine sq qbs ?_; refine se ?_; refine eb ?_; refine sq qa ?_; refine l_nil ?_) | refine n_then ?_ | refine c_block ?_ | refine c_skip ?_ | refine n_block ?_ | refine c_exit ?_ | refine n_then_exit ?_ | refine n_block_eq ?_ | refine n_block_ne rfl ?_ | refine c_ret ?_ | refine n_then_ret ?_ | refine n_block_ret ?_ | refine c_cond_t rfl ?_ | refine c_cond_f rfl ?_ | refine r_succ ?_ )
  obtain ⟨mb, hmb⟩ : ∃ mb, mb = m' := ⟨_, rfl⟩
  rw [← hmb]
  refine chg (L' := LgB mb gd fr ((kn - 2) * 64) hdZ (.slice none 0 0) false :: DskL gd gw gm D) (by rfl) ?_
  repeat (first | refine c_seq ?_ | (refine c_region (id := 4) ?_; refine sq qm ?_; refine se ?_; refine e_call_upd rfl rfl (by kernel_rfl) rfl (fun w hC hm hL => by exact heads_c mb gd gw gm fr ((kn - 2) * 64) (.slice none 0 0) false Fs (by omega) (by omega) D hgo hn6 (fun i hi => hF i (by omega)) (fun i hi => hRB i (by omega)) w (hL.sub (by (repeat (first | exact List.nil_sublist _ | exact List.Sublist.slnil | apply List.Sublist.cons_cons | exact List.Sublist.refl _ | apply List.Sublist.cons))))) (by (repeat (first | exact Pl.here | apply Pl.there))) (by first | (left; simp; done) | (right; omega)) ?_; intro m' hm'; refine sq qa ?_; refine l_nil ?_) | (refine c_region (id := 5) ?_; refine sq qm ?_; refine sq (by first | exact dneqt | exact dneqf) ?_; refine l_nil ?_) | (refine c_region (id := 7) ?_; refine sq qm ?_; refine se ?_; refine e_call (Y := [mb]) (L' := DskL gd gw gm D) rfl rfl (by kernel_rfl) rfl (fun w1 hC hm hL => by exact bytesR_c mb gd gw gm fr ((kn - 2) * 64) (stI ((kn - 2) * 64) Fs 2) false Fs c hc (by omega) (by omega) (by omega) D hgo hn6 (fun i hi => hF (2 + i) (by omega)) w1 (hL.sub (by (repeat (first | exact List.nil_sublist _ | exact List.Sublist.slnil | apply List.Sublist.cons_cons | exact List.Sublist.refl _ | apply List.Sublist.cons))))) (by simp; omega) (by exact (by (repeat (first | exact List.nil_sublist _ | exact List.Sublist.slnil | apply List.Sublist.cons_cons | exact List.Sublist.refl _ | apply List.Sublist.cons)))) (by intro g hg hm; rw [feetD] at hm; have h7 := hD.lt g (by rw [feetD]; exact hm); simp at hg; omega) ?_; intro z m4 hz hn4 hm4; obtain ⟨b4, cap4⟩ := z; dsimp only at hz hn4 ⊢; refine sq qa ?_; refine l_nil ?_) | (refine c_region (id := 8) ?_; refine sq qm ?_; refine sq (by first | exact dneqt | exact dneqf) ?_; refine l_nil ?_) | (refine c_region (id := 10) ?_; refine sq qm ?_; refine sq qa ?_; refine sq qa ?_; refine l_nil ?_) | refine n_then ?_ | refine c_block ?_ | refine c_skip ?_ | refine n_block ?_ | refine c_exit ?_ | refine n_then_exit ?_ | refine n_block_eq ?_ | refine n_block_ne rfl ?_ | refine c_ret ?_ | refine n_then_ret ?_ | refine n_block_ret ?_ | refine c_cond_t rfl ?_ | refine c_cond_f rfl ?_ | refine r_succ ?_ )
  (first | apply r_ret (mb, b4, cap4) | apply r_end (mb, b4, cap4)); exact rfl; exact rfl; exact (.tmp rfl (.tmp rfl .nil)); exact rfl; exact (by exact (by (repeat (first | exact List.nil_sublist _ | exact List.Sublist.slnil | apply List.Sublist.cons_cons | exact List.Sublist.refl _ | apply List.Sublist.cons)))); exact (by intro g hg; have h8 := hn4 g hg; simp at h8; exact .inr (by omega)); exact hz
end Go.Proofs.YtgmghkakiocmjaaDoor
