/- SealSeals: what it needs, part 2. -/
import Derived.Test.YteopejjlhmghbaaSSealSealsA
namespace Go.Proofs.Yteopejjlhmghbaa
open Go
instance : UT Try.prog 0 (TypeDesc.tuple #[]) := ⟨Try.underlying0⟩
instance : SzT Try.prog 0 1 := ⟨by kernel_rfl⟩
instance : ByT Try.prog 0 0 := ⟨by kernel_rfl⟩
instance : FlT Try.prog 0 := ⟨by kernel_rfl⟩
instance : UT Try.prog 1 (TypeDesc.func #[] #[] false) := ⟨Try.underlying1⟩
instance : SzT Try.prog 1 1 := ⟨by kernel_rfl⟩
instance : ByT Try.prog 1 8 := ⟨by kernel_rfl⟩
instance : ZrT Try.prog 1 (#[Value.nilFunc]) := ⟨by kernel_rfl⟩
instance : FlT Try.prog 1 := ⟨by kernel_rfl⟩
instance : UT Try.prog 2 (TypeDesc.int IntKind.i64) := ⟨Try.underlying2⟩
instance : SzT Try.prog 2 1 := ⟨by kernel_rfl⟩
instance : ByT Try.prog 2 8 := ⟨by kernel_rfl⟩
instance : ZrT Try.prog 2 (#[Value.int .i64 0]) := ⟨by kernel_rfl⟩
instance : FlT Try.prog 2 := ⟨by kernel_rfl⟩
instance : UT Try.prog 3 (TypeDesc.int IntKind.i64) := ⟨Try.underlying3⟩
instance : SzT Try.prog 3 1 := ⟨by kernel_rfl⟩
instance : ByT Try.prog 3 8 := ⟨by kernel_rfl⟩
instance : ZrT Try.prog 3 (#[Value.int .i64 0]) := ⟨by kernel_rfl⟩
instance : FlT Try.prog 3 := ⟨by kernel_rfl⟩
instance : UT Try.prog 4 TypeDesc.bool := ⟨Try.underlying4⟩
instance : SzT Try.prog 4 1 := ⟨by kernel_rfl⟩
instance : ByT Try.prog 4 1 := ⟨by kernel_rfl⟩
instance : ZrT Try.prog 4 (#[Value.bool false]) := ⟨by kernel_rfl⟩
instance : FlT Try.prog 4 := ⟨by kernel_rfl⟩
instance : UT Try.prog 5 (TypeDesc.int IntKind.u8) := ⟨Try.underlying5⟩
instance : SzT Try.prog 5 1 := ⟨by kernel_rfl⟩
instance : ByT Try.prog 5 1 := ⟨by kernel_rfl⟩
instance : ZrT Try.prog 5 (#[Value.int .u8 0]) := ⟨by kernel_rfl⟩
instance : FlT Try.prog 5 := ⟨by kernel_rfl⟩
instance : UT Try.prog 6 (TypeDesc.int IntKind.u8) := ⟨Try.underlying6⟩
instance : SzT Try.prog 6 1 := ⟨by kernel_rfl⟩
instance : ByT Try.prog 6 1 := ⟨by kernel_rfl⟩
instance : ZrT Try.prog 6 (#[Value.int .u8 0]) := ⟨by kernel_rfl⟩
instance : FlT Try.prog 6 := ⟨by kernel_rfl⟩
instance : UT Try.prog 7 (TypeDesc.struct #[{ name := "x", type := 2, offset := 0, embedded := false, tag := "", pkgPath := "runtime", byteOffset := 0 }, { name := "y", type := 3, offset := 1, embedded := false, tag := "", pkgPath := "runtime", byteOffset := 8 }, { name := "signed", type := 4, offset := 2, embedded := false, tag := "", pkgPath := "runtime", byteOffset := 16 }, { name := "code", type := 6, offset := 3, embedded := false, tag := "", pkgPath := "runtime", byteOffset := 17 }]) := ⟨Try.underlying7⟩
instance : SzT Try.prog 7 4 := ⟨by kernel_rfl⟩
instance : ByT Try.prog 7 24 := ⟨by kernel_rfl⟩
instance : ZrT Try.prog 7 (#[Value.int .i64 0, Value.int .i64 0, Value.bool false, Value.int .u8 0]) := ⟨by kernel_rfl⟩
instance : RwT Try.prog 7 4 := ⟨by kernel_rfl⟩
instance : PlT Try.prog 7 [(0, 1), (1, 1), (2, 1), (3, 1)] := ⟨by kernel_rfl⟩
instance : UT Try.prog 8 (TypeDesc.struct #[{ name := "x", type := 2, offset := 0, embedded := false, tag := "", pkgPath := "runtime", byteOffset := 0 }, { name := "y", type := 3, offset := 1, embedded := false, tag := "", pkgPath := "runtime", byteOffset := 8 }, { name := "signed", type := 4, offset := 2, embedded := false, tag := "", pkgPath := "runtime", byteOffset := 16 }, { name := "code", type := 6, offset := 3, embedded := false, tag := "", pkgPath := "runtime", byteOffset := 17 }]) := ⟨Try.underlying8⟩
instance : SzT Try.prog 8 4 := ⟨by kernel_rfl⟩
instance : ByT Try.prog 8 24 := ⟨by kernel_rfl⟩
instance : ZrT Try.prog 8 (#[Value.int .i64 0, Value.int .i64 0, Value.bool false, Value.int .u8 0]) := ⟨by kernel_rfl⟩
instance : RwT Try.prog 8 4 := ⟨by kernel_rfl⟩
instance : PlT Try.prog 8 [(0, 1), (1, 1), (2, 1), (3, 1)] := ⟨by kernel_rfl⟩
instance : UT Try.prog 9 TypeDesc.string := ⟨Try.underlying9⟩
instance : SzT Try.prog 9 1 := ⟨by kernel_rfl⟩
instance : ByT Try.prog 9 16 := ⟨by kernel_rfl⟩
instance : ZrT Try.prog 9 (#[Value.string ByteArray.empty]) := ⟨by kernel_rfl⟩
instance : FlT Try.prog 9 := ⟨by kernel_rfl⟩
instance : UT Try.prog 10 TypeDesc.string := ⟨Try.underlying10⟩
instance : SzT Try.prog 10 1 := ⟨by kernel_rfl⟩
instance : ByT Try.prog 10 16 := ⟨by kernel_rfl⟩
instance : ZrT Try.prog 10 (#[Value.string ByteArray.empty]) := ⟨by kernel_rfl⟩
instance : FlT Try.prog 10 := ⟨by kernel_rfl⟩
instance : UT Try.prog 11 TypeDesc.string := ⟨Try.underlying11⟩
instance : SzT Try.prog 11 1 := ⟨by kernel_rfl⟩
instance : ByT Try.prog 11 16 := ⟨by kernel_rfl⟩
instance : ZrT Try.prog 11 (#[Value.string ByteArray.empty]) := ⟨by kernel_rfl⟩
instance : FlT Try.prog 11 := ⟨by kernel_rfl⟩
instance : UT Try.prog 12 (TypeDesc.int IntKind.u64) := ⟨Try.underlying12⟩
instance : SzT Try.prog 12 1 := ⟨by kernel_rfl⟩
instance : ByT Try.prog 12 8 := ⟨by kernel_rfl⟩
instance : ZrT Try.prog 12 (#[Value.int .u64 0]) := ⟨by kernel_rfl⟩
instance : FlT Try.prog 12 := ⟨by kernel_rfl⟩
instance : UT Try.prog 13 (TypeDesc.struct #[{ name := "msg", type := 9, offset := 0, embedded := false, tag := "", pkgPath := "runtime", byteOffset := 0 }, { name := "addr", type := 12, offset := 1, embedded := false, tag := "", pkgPath := "runtime", byteOffset := 16 }]) := ⟨Try.underlying13⟩
instance : SzT Try.prog 13 2 := ⟨by kernel_rfl⟩
instance : ByT Try.prog 13 24 := ⟨by kernel_rfl⟩
instance : ZrT Try.prog 13 (#[Value.string ByteArray.empty, Value.int .u64 0]) := ⟨by kernel_rfl⟩
instance : RwT Try.prog 13 2 := ⟨by kernel_rfl⟩
instance : PlT Try.prog 13 [(0, 1), (1, 1)] := ⟨by kernel_rfl⟩
instance : UT Try.prog 14 (TypeDesc.struct #[{ name := "msg", type := 9, offset := 0, embedded := false, tag := "", pkgPath := "runtime", byteOffset := 0 }, { name := "addr", type := 12, offset := 1, embedded := false, tag := "", pkgPath := "runtime", byteOffset := 16 }]) := ⟨Try.underlying14⟩
instance : SzT Try.prog 14 2 := ⟨by kernel_rfl⟩
instance : ByT Try.prog 14 24 := ⟨by kernel_rfl⟩
instance : ZrT Try.prog 14 (#[Value.string ByteArray.empty, Value.int .u64 0]) := ⟨by kernel_rfl⟩
instance : RwT Try.prog 14 2 := ⟨by kernel_rfl⟩
instance : PlT Try.prog 14 [(0, 1), (1, 1)] := ⟨by kernel_rfl⟩
instance : UT Try.prog 15 (TypeDesc.pointer 145) := ⟨Try.underlying15⟩
instance : SzT Try.prog 15 1 := ⟨by kernel_rfl⟩
instance : ByT Try.prog 15 8 := ⟨by kernel_rfl⟩
instance : ZrT Try.prog 15 (#[Value.pointer none]) := ⟨by kernel_rfl⟩
instance : FlT Try.prog 15 := ⟨by kernel_rfl⟩
instance : UT Try.prog 16 (TypeDesc.pointer 148) := ⟨Try.underlying16⟩
instance : SzT Try.prog 16 1 := ⟨by kernel_rfl⟩
instance : ByT Try.prog 16 8 := ⟨by kernel_rfl⟩
instance : ZrT Try.prog 16 (#[Value.pointer none]) := ⟨by kernel_rfl⟩
instance : FlT Try.prog 16 := ⟨by kernel_rfl⟩
instance : UT Try.prog 17 (TypeDesc.pointer 156) := ⟨Try.underlying17⟩
instance : SzT Try.prog 17 1 := ⟨by kernel_rfl⟩
instance : ByT Try.prog 17 8 := ⟨by kernel_rfl⟩
instance : ZrT Try.prog 17 (#[Value.pointer none]) := ⟨by kernel_rfl⟩
instance : FlT Try.prog 17 := ⟨by kernel_rfl⟩
instance : UT Try.prog 18 (TypeDesc.struct #[{ name := "typ", type := 17, offset := 0, embedded := false, tag := "", pkgPath := "internal/runtime/maps", byteOffset := 0 }]) := ⟨Try.underlying18⟩
instance : SzT Try.prog 18 1 := ⟨by kernel_rfl⟩
instance : ByT Try.prog 18 8 := ⟨by kernel_rfl⟩
instance : ZrT Try.prog 18 (#[Value.pointer none]) := ⟨by kernel_rfl⟩
instance : RwT Try.prog 18 1 := ⟨by kernel_rfl⟩
instance : PlT Try.prog 18 [(0, 1)] := ⟨by kernel_rfl⟩
instance : UT Try.prog 19 (TypeDesc.struct #[{ name := "typ", type := 17, offset := 0, embedded := false, tag := "", pkgPath := "internal/runtime/maps", byteOffset := 0 }]) := ⟨Try.underlying19⟩
instance : SzT Try.prog 19 1 := ⟨by kernel_rfl⟩
instance : ByT Try.prog 19 8 := ⟨by kernel_rfl⟩
instance : ZrT Try.prog 19 (#[Value.pointer none]) := ⟨by kernel_rfl⟩
instance : RwT Try.prog 19 1 := ⟨by kernel_rfl⟩
instance : PlT Try.prog 19 [(0, 1)] := ⟨by kernel_rfl⟩
instance : UT Try.prog 20 (TypeDesc.interface #[]) := ⟨Try.underlying20⟩
instance : SzT Try.prog 20 1 := ⟨by kernel_rfl⟩
instance : ByT Try.prog 20 16 := ⟨by kernel_rfl⟩
instance : ZrT Try.prog 20 (#[Value.nilIface]) := ⟨by kernel_rfl⟩
instance : FlT Try.prog 20 := ⟨by kernel_rfl⟩
instance : UT Try.prog 21 (TypeDesc.int IntKind.i32) := ⟨Try.underlying21⟩
instance : SzT Try.prog 21 1 := ⟨by kernel_rfl⟩
instance : ByT Try.prog 21 4 := ⟨by kernel_rfl⟩
instance : ZrT Try.prog 21 (#[Value.int .i32 0]) := ⟨by kernel_rfl⟩
instance : FlT Try.prog 21 := ⟨by kernel_rfl⟩
instance : UT Try.prog 22 (TypeDesc.int IntKind.u32) := ⟨Try.underlying22⟩
instance : SzT Try.prog 22 1 := ⟨by kernel_rfl⟩
instance : ByT Try.prog 22 4 := ⟨by kernel_rfl⟩
instance : ZrT Try.prog 22 (#[Value.int .u32 0]) := ⟨by kernel_rfl⟩
instance : FlT Try.prog 22 := ⟨by kernel_rfl⟩
instance : UT Try.prog 23 (TypeDesc.array 2 22) := ⟨Try.underlying23⟩
instance : SzT Try.prog 23 2 := ⟨by kernel_rfl⟩
instance : ByT Try.prog 23 8 := ⟨by kernel_rfl⟩
instance : ZrT Try.prog 23 (#[Value.int .u32 0, Value.int .u32 0]) := ⟨by kernel_rfl⟩
instance : RwT Try.prog 23 2 := ⟨by kernel_rfl⟩
instance : UT Try.prog 24 (TypeDesc.int IntKind.u64) := ⟨Try.underlying24⟩
instance : SzT Try.prog 24 1 := ⟨by kernel_rfl⟩
instance : ByT Try.prog 24 8 := ⟨by kernel_rfl⟩
instance : ZrT Try.prog 24 (#[Value.int .u64 0]) := ⟨by kernel_rfl⟩
instance : FlT Try.prog 24 := ⟨by kernel_rfl⟩
instance : UT Try.prog 25 (TypeDesc.array 2 24) := ⟨Try.underlying25⟩
instance : SzT Try.prog 25 2 := ⟨by kernel_rfl⟩
instance : ByT Try.prog 25 16 := ⟨by kernel_rfl⟩
instance : ZrT Try.prog 25 (#[Value.int .u64 0, Value.int .u64 0]) := ⟨by kernel_rfl⟩
instance : RwT Try.prog 25 2 := ⟨by kernel_rfl⟩
instance : UT Try.prog 26 (TypeDesc.array 12 5) := ⟨Try.underlying26⟩
instance : SzT Try.prog 26 12 := ⟨by kernel_rfl⟩
instance : ByT Try.prog 26 12 := ⟨by kernel_rfl⟩
instance : ZrT Try.prog 26 (#[Value.int .u8 0, Value.int .u8 0, Value.int .u8 0, Value.int .u8 0, Value.int .u8 0, Value.int .u8 0, Value.int .u8 0, Value.int .u8 0, Value.int .u8 0, Value.int .u8 0, Value.int .u8 0, Value.int .u8 0]) := ⟨by kernel_rfl⟩
instance : RwT Try.prog 26 12 := ⟨by kernel_rfl⟩
instance : UT Try.prog 27 (TypeDesc.func #[3, 24] #[26] false) := ⟨Try.underlying27⟩
instance : SzT Try.prog 27 1 := ⟨by kernel_rfl⟩
instance : ByT Try.prog 27 8 := ⟨by kernel_rfl⟩
instance : ZrT Try.prog 27 (#[Value.nilFunc]) := ⟨by kernel_rfl⟩
instance : FlT Try.prog 27 := ⟨by kernel_rfl⟩
instance : UT Try.prog 28 (TypeDesc.func #[] #[4] false) := ⟨Try.underlying28⟩
instance : SzT Try.prog 28 1 := ⟨by kernel_rfl⟩
instance : ByT Try.prog 28 8 := ⟨by kernel_rfl⟩
instance : ZrT Try.prog 28 (#[Value.nilFunc]) := ⟨by kernel_rfl⟩
instance : FlT Try.prog 28 := ⟨by kernel_rfl⟩
instance : UT Try.prog 29 (TypeDesc.func #[22, 24] #[26] false) := ⟨Try.underlying29⟩
instance : SzT Try.prog 29 1 := ⟨by kernel_rfl⟩
instance : ByT Try.prog 29 8 := ⟨by kernel_rfl⟩
instance : ZrT Try.prog 29 (#[Value.nilFunc]) := ⟨by kernel_rfl⟩
instance : FlT Try.prog 29 := ⟨by kernel_rfl⟩
instance : UT Try.prog 30 (TypeDesc.func #[23, 25] #[4] false) := ⟨Try.underlying30⟩
instance : SzT Try.prog 30 1 := ⟨by kernel_rfl⟩
instance : ByT Try.prog 30 8 := ⟨by kernel_rfl⟩
instance : ZrT Try.prog 30 (#[Value.nilFunc]) := ⟨by kernel_rfl⟩
instance : FlT Try.prog 30 := ⟨by kernel_rfl⟩
instance : UT Try.prog 31 (TypeDesc.array 32 5) := ⟨Try.underlying31⟩
instance : SzT Try.prog 31 32 := ⟨by kernel_rfl⟩
instance : ByT Try.prog 31 32 := ⟨by kernel_rfl⟩
instance : ZrT Try.prog 31 ((List.replicate 32 (Value.int .u8 0)).toArray) := ⟨by kernel_rfl⟩
instance : RwT Try.prog 31 32 := ⟨by kernel_rfl⟩
instance : UT Try.prog 32 (TypeDesc.array 32 5) := ⟨Try.underlying32⟩
instance : SzT Try.prog 32 32 := ⟨by kernel_rfl⟩
instance : ByT Try.prog 32 32 := ⟨by kernel_rfl⟩
instance : ZrT Try.prog 32 ((List.replicate 32 (Value.int .u8 0)).toArray) := ⟨by kernel_rfl⟩
instance : RwT Try.prog 32 32 := ⟨by kernel_rfl⟩
instance : UT Try.prog 33 (TypeDesc.slice 5) := ⟨Try.underlying33⟩
instance : SzT Try.prog 33 1 := ⟨by kernel_rfl⟩
instance : ByT Try.prog 33 24 := ⟨by kernel_rfl⟩
instance : ZrT Try.prog 33 (#[Value.slice none 0 0]) := ⟨by kernel_rfl⟩
instance : FlT Try.prog 33 := ⟨by kernel_rfl⟩
instance : UT Try.prog 34 (TypeDesc.array 2 33) := ⟨Try.underlying34⟩
instance : SzT Try.prog 34 2 := ⟨by kernel_rfl⟩
instance : ByT Try.prog 34 48 := ⟨by kernel_rfl⟩
instance : ZrT Try.prog 34 (#[Value.slice none 0 0, Value.slice none 0 0]) := ⟨by kernel_rfl⟩
instance : RwT Try.prog 34 2 := ⟨by kernel_rfl⟩
instance : UT Try.prog 35 (TypeDesc.func #[32, 26, 33, 33] #[33] false) := ⟨Try.underlying35⟩
instance : SzT Try.prog 35 1 := ⟨by kernel_rfl⟩
instance : ByT Try.prog 35 8 := ⟨by kernel_rfl⟩
instance : ZrT Try.prog 35 (#[Value.nilFunc]) := ⟨by kernel_rfl⟩
instance : FlT Try.prog 35 := ⟨by kernel_rfl⟩
instance : UT Try.prog 36 (TypeDesc.func #[31, 26, 33, 33] #[33] false) := ⟨Try.underlying36⟩
instance : SzT Try.prog 36 1 := ⟨by kernel_rfl⟩
instance : ByT Try.prog 36 8 := ⟨by kernel_rfl⟩
instance : ZrT Try.prog 36 (#[Value.nilFunc]) := ⟨by kernel_rfl⟩
instance : FlT Try.prog 36 := ⟨by kernel_rfl⟩
instance : UT Try.prog 37 (TypeDesc.func #[32, 25, 34] #[4] false) := ⟨Try.underlying37⟩
instance : SzT Try.prog 37 1 := ⟨by kernel_rfl⟩
instance : ByT Try.prog 37 8 := ⟨by kernel_rfl⟩
instance : ZrT Try.prog 37 (#[Value.nilFunc]) := ⟨by kernel_rfl⟩
instance : FlT Try.prog 37 := ⟨by kernel_rfl⟩
instance : UT Try.prog 38 (TypeDesc.pointer 74) := ⟨Try.underlying38⟩
instance : SzT Try.prog 38 1 := ⟨by kernel_rfl⟩
instance : ByT Try.prog 38 8 := ⟨by kernel_rfl⟩
instance : ZrT Try.prog 38 (#[Value.pointer none]) := ⟨by kernel_rfl⟩
instance : FlT Try.prog 38 := ⟨by kernel_rfl⟩
instance : UT Try.prog 39 (TypeDesc.func #[3] #[38] false) := ⟨Try.underlying39⟩
instance : SzT Try.prog 39 1 := ⟨by kernel_rfl⟩
instance : ByT Try.prog 39 8 := ⟨by kernel_rfl⟩
instance : ZrT Try.prog 39 (#[Value.nilFunc]) := ⟨by kernel_rfl⟩
instance : FlT Try.prog 39 := ⟨by kernel_rfl⟩
instance : UT Try.prog 40 (TypeDesc.func #[5, 33] #[33] false) := ⟨Try.underlying40⟩
instance : SzT Try.prog 40 1 := ⟨by kernel_rfl⟩
instance : ByT Try.prog 40 8 := ⟨by kernel_rfl⟩
instance : ZrT Try.prog 40 (#[Value.nilFunc]) := ⟨by kernel_rfl⟩
instance : FlT Try.prog 40 := ⟨by kernel_rfl⟩
instance : UT Try.prog 41 (TypeDesc.int IntKind.i64) := ⟨Try.underlying41⟩
instance : SzT Try.prog 41 1 := ⟨by kernel_rfl⟩
instance : ByT Try.prog 41 8 := ⟨by kernel_rfl⟩
instance : ZrT Try.prog 41 (#[Value.int .i64 0]) := ⟨by kernel_rfl⟩
instance : FlT Try.prog 41 := ⟨by kernel_rfl⟩
instance : UT Try.prog 42 (TypeDesc.func #[3, 33] #[41] false) := ⟨Try.underlying42⟩
instance : SzT Try.prog 42 1 := ⟨by kernel_rfl⟩
instance : ByT Try.prog 42 8 := ⟨by kernel_rfl⟩
instance : ZrT Try.prog 42 (#[Value.nilFunc]) := ⟨by kernel_rfl⟩
instance : FlT Try.prog 42 := ⟨by kernel_rfl⟩
instance : UT Try.prog 43 (TypeDesc.tuple #[33, 41]) := ⟨Try.underlying43⟩
instance : SzT Try.prog 43 1 := ⟨by kernel_rfl⟩
instance : ByT Try.prog 43 0 := ⟨by kernel_rfl⟩
instance : FlT Try.prog 43 := ⟨by kernel_rfl⟩
instance : UT Try.prog 44 (TypeDesc.func #[3] #[33, 41] false) := ⟨Try.underlying44⟩
instance : SzT Try.prog 44 1 := ⟨by kernel_rfl⟩
instance : ByT Try.prog 44 8 := ⟨by kernel_rfl⟩
instance : ZrT Try.prog 44 (#[Value.nilFunc]) := ⟨by kernel_rfl⟩
instance : FlT Try.prog 44 := ⟨by kernel_rfl⟩
instance : UT Try.prog 45 (TypeDesc.func #[33] #[4] false) := ⟨Try.underlying45⟩
instance : SzT Try.prog 45 1 := ⟨by kernel_rfl⟩
instance : ByT Try.prog 45 8 := ⟨by kernel_rfl⟩
instance : ZrT Try.prog 45 (#[Value.nilFunc]) := ⟨by kernel_rfl⟩
instance : FlT Try.prog 45 := ⟨by kernel_rfl⟩
instance : UT Try.prog 46 (TypeDesc.slice 52) := ⟨Try.underlying46⟩
instance : SzT Try.prog 46 1 := ⟨by kernel_rfl⟩
instance : ByT Try.prog 46 24 := ⟨by kernel_rfl⟩
instance : ZrT Try.prog 46 (#[Value.slice none 0 0]) := ⟨by kernel_rfl⟩
instance : FlT Try.prog 46 := ⟨by kernel_rfl⟩
instance : UT Try.prog 47 (TypeDesc.func #[46] #[4] false) := ⟨Try.underlying47⟩
instance : SzT Try.prog 47 1 := ⟨by kernel_rfl⟩
instance : ByT Try.prog 47 8 := ⟨by kernel_rfl⟩
instance : ZrT Try.prog 47 (#[Value.nilFunc]) := ⟨by kernel_rfl⟩
instance : FlT Try.prog 47 := ⟨by kernel_rfl⟩
instance : UT Try.prog 48 (TypeDesc.pointer 81) := ⟨Try.underlying48⟩
instance : SzT Try.prog 48 1 := ⟨by kernel_rfl⟩
instance : ByT Try.prog 48 8 := ⟨by kernel_rfl⟩
instance : ZrT Try.prog 48 (#[Value.pointer none]) := ⟨by kernel_rfl⟩
instance : FlT Try.prog 48 := ⟨by kernel_rfl⟩
instance : UT Try.prog 49 (TypeDesc.func #[3] #[48] false) := ⟨Try.underlying49⟩
instance : SzT Try.prog 49 1 := ⟨by kernel_rfl⟩
instance : ByT Try.prog 49 8 := ⟨by kernel_rfl⟩
instance : ZrT Try.prog 49 (#[Value.nilFunc]) := ⟨by kernel_rfl⟩
instance : FlT Try.prog 49 := ⟨by kernel_rfl⟩
instance : UT Try.prog 50 (TypeDesc.func #[38, 48, 52] #[4] false) := ⟨Try.underlying50⟩
instance : SzT Try.prog 50 1 := ⟨by kernel_rfl⟩
instance : ByT Try.prog 50 8 := ⟨by kernel_rfl⟩
instance : ZrT Try.prog 50 (#[Value.nilFunc]) := ⟨by kernel_rfl⟩
instance : FlT Try.prog 50 := ⟨by kernel_rfl⟩
instance : UT Try.prog 51 (TypeDesc.struct #[{ name := "Kind", type := 5, offset := 0, embedded := false, tag := "", pkgPath := "", byteOffset := 0 }, { name := "I", type := 3, offset := 1, embedded := false, tag := "", pkgPath := "", byteOffset := 8 }, { name := "X", type := 5, offset := 2, embedded := false, tag := "", pkgPath := "", byteOffset := 16 }, { name := "B", type := 33, offset := 3, embedded := false, tag := "", pkgPath := "", byteOffset := 24 }]) := ⟨Try.underlying51⟩
instance : SzT Try.prog 51 4 := ⟨by kernel_rfl⟩
instance : ByT Try.prog 51 48 := ⟨by kernel_rfl⟩
instance : ZrT Try.prog 51 (#[Value.int .u8 0, Value.int .i64 0, Value.int .u8 0, Value.slice none 0 0]) := ⟨by kernel_rfl⟩
instance : RwT Try.prog 51 4 := ⟨by kernel_rfl⟩
instance : PlT Try.prog 51 [(0, 1), (1, 1), (2, 1), (3, 1)] := ⟨by kernel_rfl⟩
instance : UT Try.prog 52 (TypeDesc.struct #[{ name := "Kind", type := 5, offset := 0, embedded := false, tag := "", pkgPath := "", byteOffset := 0 }, { name := "I", type := 3, offset := 1, embedded := false, tag := "", pkgPath := "", byteOffset := 8 }, { name := "X", type := 5, offset := 2, embedded := false, tag := "", pkgPath := "", byteOffset := 16 }, { name := "B", type := 33, offset := 3, embedded := false, tag := "", pkgPath := "", byteOffset := 24 }]) := ⟨Try.underlying52⟩
instance : SzT Try.prog 52 4 := ⟨by kernel_rfl⟩
instance : ByT Try.prog 52 48 := ⟨by kernel_rfl⟩
instance : ZrT Try.prog 52 (#[Value.int .u8 0, Value.int .i64 0, Value.int .u8 0, Value.slice none 0 0]) := ⟨by kernel_rfl⟩
instance : RwT Try.prog 52 4 := ⟨by kernel_rfl⟩
instance : PlT Try.prog 52 [(0, 1), (1, 1), (2, 1), (3, 1)] := ⟨by kernel_rfl⟩
instance : UT Try.prog 53 (TypeDesc.func #[38, 48] #[4] false) := ⟨Try.underlying53⟩
instance : SzT Try.prog 53 1 := ⟨by kernel_rfl⟩
instance : ByT Try.prog 53 8 := ⟨by kernel_rfl⟩
instance : ZrT Try.prog 53 (#[Value.nilFunc]) := ⟨by kernel_rfl⟩
instance : FlT Try.prog 53 := ⟨by kernel_rfl⟩
instance : UT Try.prog 54 (TypeDesc.func #[5, 46] #[4] false) := ⟨Try.underlying54⟩
instance : SzT Try.prog 54 1 := ⟨by kernel_rfl⟩
instance : ByT Try.prog 54 8 := ⟨by kernel_rfl⟩
instance : ZrT Try.prog 54 (#[Value.nilFunc]) := ⟨by kernel_rfl⟩
instance : FlT Try.prog 54 := ⟨by kernel_rfl⟩
instance : UT Try.prog 55 (TypeDesc.func #[] #[41] false) := ⟨Try.underlying55⟩
instance : SzT Try.prog 55 1 := ⟨by kernel_rfl⟩
instance : ByT Try.prog 55 8 := ⟨by kernel_rfl⟩
instance : ZrT Try.prog 55 (#[Value.nilFunc]) := ⟨by kernel_rfl⟩
instance : FlT Try.prog 55 := ⟨by kernel_rfl⟩
instance : UT Try.prog 56 (TypeDesc.func #[33] #[] false) := ⟨Try.underlying56⟩
instance : SzT Try.prog 56 1 := ⟨by kernel_rfl⟩
instance : ByT Try.prog 56 8 := ⟨by kernel_rfl⟩
instance : ZrT Try.prog 56 (#[Value.nilFunc]) := ⟨by kernel_rfl⟩
instance : FlT Try.prog 56 := ⟨by kernel_rfl⟩
instance : UT Try.prog 57 (TypeDesc.func #[33, 33, 33] #[4] false) := ⟨Try.underlying57⟩
instance : SzT Try.prog 57 1 := ⟨by kernel_rfl⟩
instance : ByT Try.prog 57 8 := ⟨by kernel_rfl⟩
instance : ZrT Try.prog 57 (#[Value.nilFunc]) := ⟨by kernel_rfl⟩
instance : FlT Try.prog 57 := ⟨by kernel_rfl⟩
instance : UT Try.prog 58 (TypeDesc.func #[] #[3] false) := ⟨Try.underlying58⟩
instance : SzT Try.prog 58 1 := ⟨by kernel_rfl⟩
instance : ByT Try.prog 58 8 := ⟨by kernel_rfl⟩
instance : ZrT Try.prog 58 (#[Value.nilFunc]) := ⟨by kernel_rfl⟩
instance : FlT Try.prog 58 := ⟨by kernel_rfl⟩
instance : UT Try.prog 59 (TypeDesc.func #[33, 5, 33] #[4] false) := ⟨Try.underlying59⟩
instance : SzT Try.prog 59 1 := ⟨by kernel_rfl⟩
instance : ByT Try.prog 59 8 := ⟨by kernel_rfl⟩
instance : ZrT Try.prog 59 (#[Value.nilFunc]) := ⟨by kernel_rfl⟩
instance : FlT Try.prog 59 := ⟨by kernel_rfl⟩
instance : UT Try.prog 60 (TypeDesc.func #[3] #[] false) := ⟨Try.underlying60⟩
instance : SzT Try.prog 60 1 := ⟨by kernel_rfl⟩
instance : ByT Try.prog 60 8 := ⟨by kernel_rfl⟩
instance : ZrT Try.prog 60 (#[Value.nilFunc]) := ⟨by kernel_rfl⟩
instance : FlT Try.prog 60 := ⟨by kernel_rfl⟩
instance : UT Try.prog 61 (TypeDesc.func #[5, 5] #[4] false) := ⟨Try.underlying61⟩
instance : SzT Try.prog 61 1 := ⟨by kernel_rfl⟩
instance : ByT Try.prog 61 8 := ⟨by kernel_rfl⟩
instance : ZrT Try.prog 61 (#[Value.nilFunc]) := ⟨by kernel_rfl⟩
instance : FlT Try.prog 61 := ⟨by kernel_rfl⟩
instance : UT Try.prog 62 (TypeDesc.func #[32, 26, 22, 33] #[33] false) := ⟨Try.underlying62⟩
instance : SzT Try.prog 62 1 := ⟨by kernel_rfl⟩
instance : ByT Try.prog 62 8 := ⟨by kernel_rfl⟩
instance : ZrT Try.prog 62 (#[Value.nilFunc]) := ⟨by kernel_rfl⟩
instance : FlT Try.prog 62 := ⟨by kernel_rfl⟩
instance : UT Try.prog 63 (TypeDesc.array 16 5) := ⟨Try.underlying63⟩
instance : SzT Try.prog 63 16 := ⟨by kernel_rfl⟩
instance : ByT Try.prog 63 16 := ⟨by kernel_rfl⟩
instance : ZrT Try.prog 63 (#[Value.int .u8 0, Value.int .u8 0, Value.int .u8 0, Value.int .u8 0, Value.int .u8 0, Value.int .u8 0, Value.int .u8 0, Value.int .u8 0, Value.int .u8 0, Value.int .u8 0, Value.int .u8 0, Value.int .u8 0, Value.int .u8 0, Value.int .u8 0, Value.int .u8 0, Value.int .u8 0]) := ⟨by kernel_rfl⟩
instance : RwT Try.prog 63 16 := ⟨by kernel_rfl⟩
instance : UT Try.prog 64 (TypeDesc.func #[32, 26, 33, 33] #[63] false) := ⟨Try.underlying64⟩
instance : SzT Try.prog 64 1 := ⟨by kernel_rfl⟩
instance : ByT Try.prog 64 8 := ⟨by kernel_rfl⟩
instance : ZrT Try.prog 64 (#[Value.nilFunc]) := ⟨by kernel_rfl⟩
instance : FlT Try.prog 64 := ⟨by kernel_rfl⟩
instance : UT Try.prog 65 (TypeDesc.func #[31, 26, 22, 33] #[33] false) := ⟨Try.underlying65⟩
instance : SzT Try.prog 65 1 := ⟨by kernel_rfl⟩
instance : ByT Try.prog 65 8 := ⟨by kernel_rfl⟩
instance : ZrT Try.prog 65 (#[Value.nilFunc]) := ⟨by kernel_rfl⟩
instance : FlT Try.prog 65 := ⟨by kernel_rfl⟩
instance : UT Try.prog 66 (TypeDesc.array 64 5) := ⟨Try.underlying66⟩
instance : SzT Try.prog 66 64 := ⟨by kernel_rfl⟩
instance : ByT Try.prog 66 64 := ⟨by kernel_rfl⟩
instance : ZrT Try.prog 66 ((List.replicate 64 (Value.int .u8 0)).toArray) := ⟨by kernel_rfl⟩
instance : RwT Try.prog 66 64 := ⟨by kernel_rfl⟩
instance : UT Try.prog 67 (TypeDesc.func #[31, 26, 22] #[66] false) := ⟨Try.underlying67⟩
instance : SzT Try.prog 67 1 := ⟨by kernel_rfl⟩
instance : ByT Try.prog 67 8 := ⟨by kernel_rfl⟩
instance : ZrT Try.prog 67 (#[Value.nilFunc]) := ⟨by kernel_rfl⟩
instance : FlT Try.prog 67 := ⟨by kernel_rfl⟩
instance : UT Try.prog 68 (TypeDesc.func #[33] #[33] false) := ⟨Try.underlying68⟩
instance : SzT Try.prog 68 1 := ⟨by kernel_rfl⟩
instance : ByT Try.prog 68 8 := ⟨by kernel_rfl⟩
instance : ZrT Try.prog 68 (#[Value.nilFunc]) := ⟨by kernel_rfl⟩
instance : FlT Try.prog 68 := ⟨by kernel_rfl⟩
instance : UT Try.prog 69 (TypeDesc.func #[3] #[33] false) := ⟨Try.underlying69⟩
instance : SzT Try.prog 69 1 := ⟨by kernel_rfl⟩
instance : ByT Try.prog 69 8 := ⟨by kernel_rfl⟩
instance : ZrT Try.prog 69 (#[Value.nilFunc]) := ⟨by kernel_rfl⟩
instance : FlT Try.prog 69 := ⟨by kernel_rfl⟩
instance : UT Try.prog 70 (TypeDesc.func #[31, 33] #[63] false) := ⟨Try.underlying70⟩
instance : SzT Try.prog 70 1 := ⟨by kernel_rfl⟩
instance : ByT Try.prog 70 8 := ⟨by kernel_rfl⟩
instance : ZrT Try.prog 70 (#[Value.nilFunc]) := ⟨by kernel_rfl⟩
instance : FlT Try.prog 70 := ⟨by kernel_rfl⟩
instance : UT Try.prog 71 (TypeDesc.slice 76) := ⟨Try.underlying71⟩
instance : SzT Try.prog 71 1 := ⟨by kernel_rfl⟩
instance : ByT Try.prog 71 24 := ⟨by kernel_rfl⟩
instance : ZrT Try.prog 71 (#[Value.slice none 0 0]) := ⟨by kernel_rfl⟩
instance : FlT Try.prog 71 := ⟨by kernel_rfl⟩
instance : UT Try.prog 72 (TypeDesc.map 3 76) := ⟨Try.underlying72⟩
instance : SzT Try.prog 72 1 := ⟨by kernel_rfl⟩
instance : ByT Try.prog 72 8 := ⟨by kernel_rfl⟩
instance : ZrT Try.prog 72 (#[Value.map none]) := ⟨by kernel_rfl⟩
instance : FlT Try.prog 72 := ⟨by kernel_rfl⟩
instance : UT Try.prog 73 (TypeDesc.struct #[{ name := "written", type := 71, offset := 0, embedded := false, tag := "", pkgPath := "jalousie/disk", byteOffset := 0 }, { name := "loose", type := 72, offset := 1, embedded := false, tag := "", pkgPath := "jalousie/disk", byteOffset := 24 }, { name := "fused", type := 4, offset := 2, embedded := false, tag := "", pkgPath := "jalousie/disk", byteOffset := 32 }, { name := "fuse", type := 3, offset := 3, embedded := false, tag := "", pkgPath := "jalousie/disk", byteOffset := 40 }, { name := "gone", type := 4, offset := 4, embedded := false, tag := "", pkgPath := "jalousie/disk", byteOffset := 48 }]) := ⟨Try.underlying73⟩
instance : SzT Try.prog 73 5 := ⟨by kernel_rfl⟩
instance : ByT Try.prog 73 56 := ⟨by kernel_rfl⟩
instance : ZrT Try.prog 73 (#[Value.slice none 0 0, Value.map none, Value.bool false, Value.int .i64 0, Value.bool false]) := ⟨by kernel_rfl⟩
instance : RwT Try.prog 73 5 := ⟨by kernel_rfl⟩
instance : PlT Try.prog 73 [(0, 1), (1, 1), (2, 1), (3, 1), (4, 1)] := ⟨by kernel_rfl⟩
instance : UT Try.prog 74 (TypeDesc.struct #[{ name := "written", type := 71, offset := 0, embedded := false, tag := "", pkgPath := "jalousie/disk", byteOffset := 0 }, { name := "loose", type := 72, offset := 1, embedded := false, tag := "", pkgPath := "jalousie/disk", byteOffset := 24 }, { name := "fused", type := 4, offset := 2, embedded := false, tag := "", pkgPath := "jalousie/disk", byteOffset := 32 }, { name := "fuse", type := 3, offset := 3, embedded := false, tag := "", pkgPath := "jalousie/disk", byteOffset := 40 }, { name := "gone", type := 4, offset := 4, embedded := false, tag := "", pkgPath := "jalousie/disk", byteOffset := 48 }]) := ⟨Try.underlying74⟩
instance : SzT Try.prog 74 5 := ⟨by kernel_rfl⟩
instance : ByT Try.prog 74 56 := ⟨by kernel_rfl⟩
instance : ZrT Try.prog 74 (#[Value.slice none 0 0, Value.map none, Value.bool false, Value.int .i64 0, Value.bool false]) := ⟨by kernel_rfl⟩
instance : RwT Try.prog 74 5 := ⟨by kernel_rfl⟩
instance : PlT Try.prog 74 [(0, 1), (1, 1), (2, 1), (3, 1), (4, 1)] := ⟨by kernel_rfl⟩
instance : UT Try.prog 75 (TypeDesc.func #[3] #[4] false) := ⟨Try.underlying75⟩
instance : SzT Try.prog 75 1 := ⟨by kernel_rfl⟩
instance : ByT Try.prog 75 8 := ⟨by kernel_rfl⟩
instance : ZrT Try.prog 75 (#[Value.nilFunc]) := ⟨by kernel_rfl⟩
instance : FlT Try.prog 75 := ⟨by kernel_rfl⟩
instance : UT Try.prog 76 (TypeDesc.array 64 5) := ⟨Try.underlying76⟩
instance : SzT Try.prog 76 64 := ⟨by kernel_rfl⟩
instance : ByT Try.prog 76 64 := ⟨by kernel_rfl⟩
instance : ZrT Try.prog 76 ((List.replicate 64 (Value.int .u8 0)).toArray) := ⟨by kernel_rfl⟩
instance : RwT Try.prog 76 64 := ⟨by kernel_rfl⟩
instance : UT Try.prog 77 (TypeDesc.tuple #[76, 4]) := ⟨Try.underlying77⟩
instance : SzT Try.prog 77 1 := ⟨by kernel_rfl⟩
instance : ByT Try.prog 77 0 := ⟨by kernel_rfl⟩
instance : FlT Try.prog 77 := ⟨by kernel_rfl⟩
instance : UT Try.prog 78 (TypeDesc.slice 33) := ⟨Try.underlying78⟩
instance : SzT Try.prog 78 1 := ⟨by kernel_rfl⟩
instance : ByT Try.prog 78 24 := ⟨by kernel_rfl⟩
instance : ZrT Try.prog 78 (#[Value.slice none 0 0]) := ⟨by kernel_rfl⟩
instance : FlT Try.prog 78 := ⟨by kernel_rfl⟩
instance : UT Try.prog 79 (TypeDesc.slice 4) := ⟨Try.underlying79⟩
instance : SzT Try.prog 79 1 := ⟨by kernel_rfl⟩
instance : ByT Try.prog 79 24 := ⟨by kernel_rfl⟩
instance : ZrT Try.prog 79 (#[Value.slice none 0 0]) := ⟨by kernel_rfl⟩
instance : FlT Try.prog 79 := ⟨by kernel_rfl⟩
instance : UT Try.prog 80 (TypeDesc.struct #[{ name := "Now", type := 78, offset := 0, embedded := false, tag := "", pkgPath := "", byteOffset := 0 }, { name := "Was", type := 78, offset := 1, embedded := false, tag := "", pkgPath := "", byteOffset := 24 }, { name := "Is", type := 79, offset := 2, embedded := false, tag := "", pkgPath := "", byteOffset := 48 }, { name := "Fuse", type := 3, offset := 3, embedded := false, tag := "", pkgPath := "", byteOffset := 72 }, { name := "Gone", type := 4, offset := 4, embedded := false, tag := "", pkgPath := "", byteOffset := 80 }]) := ⟨Try.underlying80⟩
instance : SzT Try.prog 80 5 := ⟨by kernel_rfl⟩
instance : ByT Try.prog 80 88 := ⟨by kernel_rfl⟩
instance : ZrT Try.prog 80 (#[Value.slice none 0 0, Value.slice none 0 0, Value.slice none 0 0, Value.int .i64 0, Value.bool false]) := ⟨by kernel_rfl⟩
instance : RwT Try.prog 80 5 := ⟨by kernel_rfl⟩
instance : PlT Try.prog 80 [(0, 1), (1, 1), (2, 1), (3, 1), (4, 1)] := ⟨by kernel_rfl⟩
instance : UT Try.prog 81 (TypeDesc.struct #[{ name := "Now", type := 78, offset := 0, embedded := false, tag := "", pkgPath := "", byteOffset := 0 }, { name := "Was", type := 78, offset := 1, embedded := false, tag := "", pkgPath := "", byteOffset := 24 }, { name := "Is", type := 79, offset := 2, embedded := false, tag := "", pkgPath := "", byteOffset := 48 }, { name := "Fuse", type := 3, offset := 3, embedded := false, tag := "", pkgPath := "", byteOffset := 72 }, { name := "Gone", type := 4, offset := 4, embedded := false, tag := "", pkgPath := "", byteOffset := 80 }]) := ⟨Try.underlying81⟩
instance : SzT Try.prog 81 5 := ⟨by kernel_rfl⟩
instance : ByT Try.prog 81 88 := ⟨by kernel_rfl⟩
instance : ZrT Try.prog 81 (#[Value.slice none 0 0, Value.slice none 0 0, Value.slice none 0 0, Value.int .i64 0, Value.bool false]) := ⟨by kernel_rfl⟩
instance : RwT Try.prog 81 5 := ⟨by kernel_rfl⟩
instance : PlT Try.prog 81 [(0, 1), (1, 1), (2, 1), (3, 1), (4, 1)] := ⟨by kernel_rfl⟩
instance : UT Try.prog 82 (TypeDesc.slice 3) := ⟨Try.underlying82⟩
instance : SzT Try.prog 82 1 := ⟨by kernel_rfl⟩
instance : ByT Try.prog 82 24 := ⟨by kernel_rfl⟩
instance : ZrT Try.prog 82 (#[Value.slice none 0 0]) := ⟨by kernel_rfl⟩
instance : FlT Try.prog 82 := ⟨by kernel_rfl⟩
instance : UT Try.prog 83 (TypeDesc.func #[85] #[82] false) := ⟨Try.underlying83⟩
instance : SzT Try.prog 83 1 := ⟨by kernel_rfl⟩
instance : ByT Try.prog 83 8 := ⟨by kernel_rfl⟩
instance : ZrT Try.prog 83 (#[Value.nilFunc]) := ⟨by kernel_rfl⟩
instance : FlT Try.prog 83 := ⟨by kernel_rfl⟩
instance : UT Try.prog 84 (TypeDesc.func #[75] #[] false) := ⟨Try.underlying84⟩
instance : SzT Try.prog 84 1 := ⟨by kernel_rfl⟩
instance : ByT Try.prog 84 8 := ⟨by kernel_rfl⟩
instance : ZrT Try.prog 84 (#[Value.nilFunc]) := ⟨by kernel_rfl⟩
instance : FlT Try.prog 84 := ⟨by kernel_rfl⟩
instance : UT Try.prog 85 (TypeDesc.func #[75] #[] false) := ⟨Try.underlying85⟩
instance : SzT Try.prog 85 1 := ⟨by kernel_rfl⟩
instance : ByT Try.prog 85 8 := ⟨by kernel_rfl⟩
instance : ZrT Try.prog 85 (#[Value.nilFunc]) := ⟨by kernel_rfl⟩
instance : FlT Try.prog 85 := ⟨by kernel_rfl⟩
instance : UT Try.prog 86 (TypeDesc.func #[72] #[85] false) := ⟨Try.underlying86⟩
instance : SzT Try.prog 86 1 := ⟨by kernel_rfl⟩
instance : ByT Try.prog 86 8 := ⟨by kernel_rfl⟩
instance : ZrT Try.prog 86 (#[Value.nilFunc]) := ⟨by kernel_rfl⟩
instance : FlT Try.prog 86 := ⟨by kernel_rfl⟩
instance : UT Try.prog 87 (TypeDesc.func #[76, 76, 5] #[76] false) := ⟨Try.underlying87⟩
instance : SzT Try.prog 87 1 := ⟨by kernel_rfl⟩
instance : ByT Try.prog 87 8 := ⟨by kernel_rfl⟩
instance : ZrT Try.prog 87 (#[Value.nilFunc]) := ⟨by kernel_rfl⟩
instance : FlT Try.prog 87 := ⟨by kernel_rfl⟩
instance : UT Try.prog 88 (TypeDesc.func #[102] #[] false) := ⟨Try.underlying88⟩
instance : SzT Try.prog 88 1 := ⟨by kernel_rfl⟩
instance : ByT Try.prog 88 8 := ⟨by kernel_rfl⟩
instance : ZrT Try.prog 88 (#[Value.nilFunc]) := ⟨by kernel_rfl⟩
instance : FlT Try.prog 88 := ⟨by kernel_rfl⟩
instance : UT Try.prog 89 (TypeDesc.func #[102] #[] false) := ⟨Try.underlying89⟩
instance : SzT Try.prog 89 1 := ⟨by kernel_rfl⟩
instance : ByT Try.prog 89 8 := ⟨by kernel_rfl⟩
instance : ZrT Try.prog 89 (#[Value.nilFunc]) := ⟨by kernel_rfl⟩
instance : FlT Try.prog 89 := ⟨by kernel_rfl⟩
instance : UT Try.prog 90 (TypeDesc.func #[32, 26, 22] #[89] false) := ⟨Try.underlying90⟩
instance : SzT Try.prog 90 1 := ⟨by kernel_rfl⟩
instance : ByT Try.prog 90 8 := ⟨by kernel_rfl⟩
instance : ZrT Try.prog 90 (#[Value.nilFunc]) := ⟨by kernel_rfl⟩
instance : FlT Try.prog 90 := ⟨by kernel_rfl⟩
instance : UT Try.prog 91 (TypeDesc.func #[32, 26, 22] #[66] false) := ⟨Try.underlying91⟩
instance : SzT Try.prog 91 1 := ⟨by kernel_rfl⟩
instance : ByT Try.prog 91 8 := ⟨by kernel_rfl⟩
instance : ZrT Try.prog 91 (#[Value.nilFunc]) := ⟨by kernel_rfl⟩
instance : FlT Try.prog 91 := ⟨by kernel_rfl⟩
instance : UT Try.prog 92 (TypeDesc.func #[32, 78] #[63] true) := ⟨Try.underlying92⟩
instance : SzT Try.prog 92 1 := ⟨by kernel_rfl⟩
instance : ByT Try.prog 92 8 := ⟨by kernel_rfl⟩
instance : ZrT Try.prog 92 (#[Value.nilFunc]) := ⟨by kernel_rfl⟩
instance : FlT Try.prog 92 := ⟨by kernel_rfl⟩
instance : UT Try.prog 93 (TypeDesc.func #[3, 3] #[33] false) := ⟨Try.underlying93⟩
instance : SzT Try.prog 93 1 := ⟨by kernel_rfl⟩
instance : ByT Try.prog 93 8 := ⟨by kernel_rfl⟩
instance : ZrT Try.prog 93 (#[Value.nilFunc]) := ⟨by kernel_rfl⟩
instance : FlT Try.prog 93 := ⟨by kernel_rfl⟩
instance : UT Try.prog 94 (TypeDesc.func #[31, 26, 22, 3] #[33] false) := ⟨Try.underlying94⟩
instance : SzT Try.prog 94 1 := ⟨by kernel_rfl⟩
instance : ByT Try.prog 94 8 := ⟨by kernel_rfl⟩
instance : ZrT Try.prog 94 (#[Value.nilFunc]) := ⟨by kernel_rfl⟩
instance : FlT Try.prog 94 := ⟨by kernel_rfl⟩
instance : UT Try.prog 95 (TypeDesc.array 16 22) := ⟨Try.underlying95⟩
instance : SzT Try.prog 95 16 := ⟨by kernel_rfl⟩
instance : ByT Try.prog 95 64 := ⟨by kernel_rfl⟩
instance : ZrT Try.prog 95 (#[Value.int .u32 0, Value.int .u32 0, Value.int .u32 0, Value.int .u32 0, Value.int .u32 0, Value.int .u32 0, Value.int .u32 0, Value.int .u32 0, Value.int .u32 0, Value.int .u32 0, Value.int .u32 0, Value.int .u32 0, Value.int .u32 0, Value.int .u32 0, Value.int .u32 0, Value.int .u32 0]) := ⟨by kernel_rfl⟩
instance : RwT Try.prog 95 16 := ⟨by kernel_rfl⟩
instance : UT Try.prog 96 (TypeDesc.func #[33] #[22] false) := ⟨Try.underlying96⟩
instance : SzT Try.prog 96 1 := ⟨by kernel_rfl⟩
instance : ByT Try.prog 96 8 := ⟨by kernel_rfl⟩
instance : ZrT Try.prog 96 (#[Value.nilFunc]) := ⟨by kernel_rfl⟩
instance : FlT Try.prog 96 := ⟨by kernel_rfl⟩
instance : UT Try.prog 97 (TypeDesc.func #[95, 3, 3, 3, 3] #[95] false) := ⟨Try.underlying97⟩
instance : SzT Try.prog 97 1 := ⟨by kernel_rfl⟩
instance : ByT Try.prog 97 8 := ⟨by kernel_rfl⟩
instance : ZrT Try.prog 97 (#[Value.nilFunc]) := ⟨by kernel_rfl⟩
instance : FlT Try.prog 97 := ⟨by kernel_rfl⟩
instance : UT Try.prog 98 (TypeDesc.func #[33] #[82] false) := ⟨Try.underlying98⟩
instance : SzT Try.prog 98 1 := ⟨by kernel_rfl⟩
instance : ByT Try.prog 98 8 := ⟨by kernel_rfl⟩
instance : ZrT Try.prog 98 (#[Value.nilFunc]) := ⟨by kernel_rfl⟩
instance : FlT Try.prog 98 := ⟨by kernel_rfl⟩
instance : UT Try.prog 99 (TypeDesc.func #[82] #[82] false) := ⟨Try.underlying99⟩
instance : SzT Try.prog 99 1 := ⟨by kernel_rfl⟩
instance : ByT Try.prog 99 8 := ⟨by kernel_rfl⟩
instance : ZrT Try.prog 99 (#[Value.nilFunc]) := ⟨by kernel_rfl⟩
instance : FlT Try.prog 99 := ⟨by kernel_rfl⟩
instance : UT Try.prog 100 (TypeDesc.func #[82, 82] #[82] false) := ⟨Try.underlying100⟩
instance : SzT Try.prog 100 1 := ⟨by kernel_rfl⟩
instance : ByT Try.prog 100 8 := ⟨by kernel_rfl⟩
instance : ZrT Try.prog 100 (#[Value.nilFunc]) := ⟨by kernel_rfl⟩
instance : FlT Try.prog 100 := ⟨by kernel_rfl⟩
instance : UT Try.prog 101 (TypeDesc.func #[82] #[] false) := ⟨Try.underlying101⟩
instance : SzT Try.prog 101 1 := ⟨by kernel_rfl⟩
instance : ByT Try.prog 101 8 := ⟨by kernel_rfl⟩
instance : ZrT Try.prog 101 (#[Value.nilFunc]) := ⟨by kernel_rfl⟩
instance : FlT Try.prog 101 := ⟨by kernel_rfl⟩
instance : UT Try.prog 102 (TypeDesc.func #[66] #[4] false) := ⟨Try.underlying102⟩
instance : SzT Try.prog 102 1 := ⟨by kernel_rfl⟩
instance : ByT Try.prog 102 8 := ⟨by kernel_rfl⟩
instance : ZrT Try.prog 102 (#[Value.nilFunc]) := ⟨by kernel_rfl⟩
instance : FlT Try.prog 102 := ⟨by kernel_rfl⟩
instance : UT Try.prog 103 (TypeDesc.func #[32, 26, 22] #[95] false) := ⟨Try.underlying103⟩
instance : SzT Try.prog 103 1 := ⟨by kernel_rfl⟩
instance : ByT Try.prog 103 8 := ⟨by kernel_rfl⟩
instance : ZrT Try.prog 103 (#[Value.nilFunc]) := ⟨by kernel_rfl⟩
instance : FlT Try.prog 103 := ⟨by kernel_rfl⟩
instance : UT Try.prog 104 (TypeDesc.func #[105, 105, 105, 105] #[] false) := ⟨Try.underlying104⟩
instance : SzT Try.prog 104 1 := ⟨by kernel_rfl⟩
instance : ByT Try.prog 104 8 := ⟨by kernel_rfl⟩
instance : ZrT Try.prog 104 (#[Value.nilFunc]) := ⟨by kernel_rfl⟩
instance : FlT Try.prog 104 := ⟨by kernel_rfl⟩
instance : UT Try.prog 105 (TypeDesc.pointer 22) := ⟨Try.underlying105⟩
instance : SzT Try.prog 105 1 := ⟨by kernel_rfl⟩
instance : ByT Try.prog 105 8 := ⟨by kernel_rfl⟩
instance : ZrT Try.prog 105 (#[Value.pointer none]) := ⟨by kernel_rfl⟩
instance : FlT Try.prog 105 := ⟨by kernel_rfl⟩
instance : UT Try.prog 106 (TypeDesc.func #[33, 22] #[] false) := ⟨Try.underlying106⟩
instance : SzT Try.prog 106 1 := ⟨by kernel_rfl⟩
instance : ByT Try.prog 106 8 := ⟨by kernel_rfl⟩
instance : ZrT Try.prog 106 (#[Value.nilFunc]) := ⟨by kernel_rfl⟩
instance : FlT Try.prog 106 := ⟨by kernel_rfl⟩
instance : UT Try.prog 107 (TypeDesc.struct #[{ name := "low", type := 24, offset := 0, embedded := false, tag := "", pkgPath := "jalousie/poly", byteOffset := 0 }, { name := "middle", type := 24, offset := 1, embedded := false, tag := "", pkgPath := "jalousie/poly", byteOffset := 8 }, { name := "high", type := 24, offset := 2, embedded := false, tag := "", pkgPath := "jalousie/poly", byteOffset := 16 }, { name := "rLow", type := 24, offset := 3, embedded := false, tag := "", pkgPath := "jalousie/poly", byteOffset := 24 }, { name := "rHigh", type := 24, offset := 4, embedded := false, tag := "", pkgPath := "jalousie/poly", byteOffset := 32 }]) := ⟨Try.underlying107⟩
instance : SzT Try.prog 107 5 := ⟨by kernel_rfl⟩
instance : ByT Try.prog 107 40 := ⟨by kernel_rfl⟩
instance : ZrT Try.prog 107 (#[Value.int .u64 0, Value.int .u64 0, Value.int .u64 0, Value.int .u64 0, Value.int .u64 0]) := ⟨by kernel_rfl⟩
instance : RwT Try.prog 107 5 := ⟨by kernel_rfl⟩
instance : PlT Try.prog 107 [(0, 1), (1, 1), (2, 1), (3, 1), (4, 1)] := ⟨by kernel_rfl⟩
instance : UT Try.prog 108 (TypeDesc.struct #[{ name := "low", type := 24, offset := 0, embedded := false, tag := "", pkgPath := "jalousie/poly", byteOffset := 0 }, { name := "middle", type := 24, offset := 1, embedded := false, tag := "", pkgPath := "jalousie/poly", byteOffset := 8 }, { name := "high", type := 24, offset := 2, embedded := false, tag := "", pkgPath := "jalousie/poly", byteOffset := 16 }, { name := "rLow", type := 24, offset := 3, embedded := false, tag := "", pkgPath := "jalousie/poly", byteOffset := 24 }, { name := "rHigh", type := 24, offset := 4, embedded := false, tag := "", pkgPath := "jalousie/poly", byteOffset := 32 }]) := ⟨Try.underlying108⟩
instance : SzT Try.prog 108 5 := ⟨by kernel_rfl⟩
instance : ByT Try.prog 108 40 := ⟨by kernel_rfl⟩
instance : ZrT Try.prog 108 (#[Value.int .u64 0, Value.int .u64 0, Value.int .u64 0, Value.int .u64 0, Value.int .u64 0]) := ⟨by kernel_rfl⟩
instance : RwT Try.prog 108 5 := ⟨by kernel_rfl⟩
instance : PlT Try.prog 108 [(0, 1), (1, 1), (2, 1), (3, 1), (4, 1)] := ⟨by kernel_rfl⟩
instance : UT Try.prog 109 (TypeDesc.func #[32] #[108] false) := ⟨Try.underlying109⟩
instance : SzT Try.prog 109 1 := ⟨by kernel_rfl⟩
instance : ByT Try.prog 109 8 := ⟨by kernel_rfl⟩
instance : ZrT Try.prog 109 (#[Value.nilFunc]) := ⟨by kernel_rfl⟩
instance : FlT Try.prog 109 := ⟨by kernel_rfl⟩
instance : UT Try.prog 110 (TypeDesc.func #[32] #[63] false) := ⟨Try.underlying110⟩
instance : SzT Try.prog 110 1 := ⟨by kernel_rfl⟩
instance : ByT Try.prog 110 8 := ⟨by kernel_rfl⟩
instance : ZrT Try.prog 110 (#[Value.nilFunc]) := ⟨by kernel_rfl⟩
instance : FlT Try.prog 110 := ⟨by kernel_rfl⟩
instance : UT Try.prog 111 (TypeDesc.func #[22, 3] #[22] false) := ⟨Try.underlying111⟩
instance : SzT Try.prog 111 1 := ⟨by kernel_rfl⟩
instance : ByT Try.prog 111 8 := ⟨by kernel_rfl⟩
instance : ZrT Try.prog 111 (#[Value.nilFunc]) := ⟨by kernel_rfl⟩
instance : FlT Try.prog 111 := ⟨by kernel_rfl⟩
instance : UT Try.prog 112 (TypeDesc.func #[82] #[4] false) := ⟨Try.underlying112⟩
instance : SzT Try.prog 112 1 := ⟨by kernel_rfl⟩
instance : ByT Try.prog 112 8 := ⟨by kernel_rfl⟩
instance : ZrT Try.prog 112 (#[Value.nilFunc]) := ⟨by kernel_rfl⟩
instance : FlT Try.prog 112 := ⟨by kernel_rfl⟩
instance : UT Try.prog 113 (TypeDesc.func #[82, 85] #[82] false) := ⟨Try.underlying113⟩
instance : SzT Try.prog 113 1 := ⟨by kernel_rfl⟩
instance : ByT Try.prog 113 8 := ⟨by kernel_rfl⟩
instance : ZrT Try.prog 113 (#[Value.nilFunc]) := ⟨by kernel_rfl⟩
instance : FlT Try.prog 113 := ⟨by kernel_rfl⟩
instance : UT Try.prog 114 (TypeDesc.func #[82, 3, 3, 3] #[] false) := ⟨Try.underlying114⟩
instance : SzT Try.prog 114 1 := ⟨by kernel_rfl⟩
instance : ByT Try.prog 114 8 := ⟨by kernel_rfl⟩
instance : ZrT Try.prog 114 (#[Value.nilFunc]) := ⟨by kernel_rfl⟩
instance : FlT Try.prog 114 := ⟨by kernel_rfl⟩
instance : UT Try.prog 115 (TypeDesc.func #[116] #[3] false) := ⟨Try.underlying115⟩
instance : SzT Try.prog 115 1 := ⟨by kernel_rfl⟩
instance : ByT Try.prog 115 8 := ⟨by kernel_rfl⟩
instance : ZrT Try.prog 115 (#[Value.nilFunc]) := ⟨by kernel_rfl⟩
instance : FlT Try.prog 115 := ⟨by kernel_rfl⟩
instance : UT Try.prog 116 (TypeDesc.int IntKind.u64) := ⟨Try.underlying116⟩
instance : SzT Try.prog 116 1 := ⟨by kernel_rfl⟩
instance : ByT Try.prog 116 8 := ⟨by kernel_rfl⟩
instance : ZrT Try.prog 116 (#[Value.int .u64 0]) := ⟨by kernel_rfl⟩
instance : FlT Try.prog 116 := ⟨by kernel_rfl⟩
instance : UT Try.prog 117 (TypeDesc.func #[33] #[24] false) := ⟨Try.underlying117⟩
instance : SzT Try.prog 117 1 := ⟨by kernel_rfl⟩
instance : ByT Try.prog 117 8 := ⟨by kernel_rfl⟩
instance : ZrT Try.prog 117 (#[Value.nilFunc]) := ⟨by kernel_rfl⟩
instance : FlT Try.prog 117 := ⟨by kernel_rfl⟩
instance : UT Try.prog 118 (TypeDesc.pointer 108) := ⟨Try.underlying118⟩
instance : SzT Try.prog 118 1 := ⟨by kernel_rfl⟩
instance : ByT Try.prog 118 8 := ⟨by kernel_rfl⟩
instance : ZrT Try.prog 118 (#[Value.pointer none]) := ⟨by kernel_rfl⟩
instance : FlT Try.prog 118 := ⟨by kernel_rfl⟩
instance : UT Try.prog 119 (TypeDesc.tuple #[24, 24]) := ⟨Try.underlying119⟩
instance : SzT Try.prog 119 1 := ⟨by kernel_rfl⟩
instance : ByT Try.prog 119 0 := ⟨by kernel_rfl⟩
instance : FlT Try.prog 119 := ⟨by kernel_rfl⟩
instance : UT Try.prog 120 (TypeDesc.func #[24, 24, 24] #[24, 24] false) := ⟨Try.underlying120⟩
instance : SzT Try.prog 120 1 := ⟨by kernel_rfl⟩
instance : ByT Try.prog 120 8 := ⟨by kernel_rfl⟩
instance : ZrT Try.prog 120 (#[Value.nilFunc]) := ⟨by kernel_rfl⟩
instance : FlT Try.prog 120 := ⟨by kernel_rfl⟩
instance : UT Try.prog 121 (TypeDesc.func #[82, 3, 3] #[] false) := ⟨Try.underlying121⟩
instance : SzT Try.prog 121 1 := ⟨by kernel_rfl⟩
instance : ByT Try.prog 121 8 := ⟨by kernel_rfl⟩
instance : ZrT Try.prog 121 (#[Value.nilFunc]) := ⟨by kernel_rfl⟩
instance : FlT Try.prog 121 := ⟨by kernel_rfl⟩
instance : UT Try.prog 122 (TypeDesc.int IntKind.i64) := ⟨Try.underlying122⟩
instance : SzT Try.prog 122 1 := ⟨by kernel_rfl⟩
instance : ByT Try.prog 122 8 := ⟨by kernel_rfl⟩
instance : ZrT Try.prog 122 (#[Value.int .i64 0]) := ⟨by kernel_rfl⟩
instance : FlT Try.prog 122 := ⟨by kernel_rfl⟩
instance : UT Try.prog 123 (TypeDesc.tuple #[3, 122]) := ⟨Try.underlying123⟩
instance : SzT Try.prog 123 1 := ⟨by kernel_rfl⟩
instance : ByT Try.prog 123 0 := ⟨by kernel_rfl⟩
instance : FlT Try.prog 123 := ⟨by kernel_rfl⟩
instance : UT Try.prog 124 (TypeDesc.func #[82, 3, 3] #[3, 122] false) := ⟨Try.underlying124⟩
instance : SzT Try.prog 124 1 := ⟨by kernel_rfl⟩
instance : ByT Try.prog 124 8 := ⟨by kernel_rfl⟩
instance : ZrT Try.prog 124 (#[Value.nilFunc]) := ⟨by kernel_rfl⟩
instance : FlT Try.prog 124 := ⟨by kernel_rfl⟩
instance : UT Try.prog 125 (TypeDesc.func #[82, 3, 3] #[4] false) := ⟨Try.underlying125⟩
instance : SzT Try.prog 125 1 := ⟨by kernel_rfl⟩
instance : ByT Try.prog 125 8 := ⟨by kernel_rfl⟩
instance : ZrT Try.prog 125 (#[Value.nilFunc]) := ⟨by kernel_rfl⟩
instance : FlT Try.prog 125 := ⟨by kernel_rfl⟩
instance : UT Try.prog 126 (TypeDesc.func #[3, 3] #[4] false) := ⟨Try.underlying126⟩
instance : SzT Try.prog 126 1 := ⟨by kernel_rfl⟩
instance : ByT Try.prog 126 8 := ⟨by kernel_rfl⟩
instance : ZrT Try.prog 126 (#[Value.nilFunc]) := ⟨by kernel_rfl⟩
instance : FlT Try.prog 126 := ⟨by kernel_rfl⟩
instance : UT Try.prog 127 (TypeDesc.func #[82, 3, 3, 3] #[3] false) := ⟨Try.underlying127⟩
instance : SzT Try.prog 127 1 := ⟨by kernel_rfl⟩
instance : ByT Try.prog 127 8 := ⟨by kernel_rfl⟩
instance : ZrT Try.prog 127 (#[Value.nilFunc]) := ⟨by kernel_rfl⟩
instance : FlT Try.prog 127 := ⟨by kernel_rfl⟩
instance : UT Try.prog 128 (TypeDesc.tuple #[3, 4]) := ⟨Try.underlying128⟩
instance : SzT Try.prog 128 1 := ⟨by kernel_rfl⟩
instance : ByT Try.prog 128 0 := ⟨by kernel_rfl⟩
instance : FlT Try.prog 128 := ⟨by kernel_rfl⟩
instance : UT Try.prog 129 (TypeDesc.func #[82, 3, 3, 3] #[3, 4] false) := ⟨Try.underlying129⟩
instance : SzT Try.prog 129 1 := ⟨by kernel_rfl⟩
instance : ByT Try.prog 129 8 := ⟨by kernel_rfl⟩
instance : ZrT Try.prog 129 (#[Value.nilFunc]) := ⟨by kernel_rfl⟩
instance : FlT Try.prog 129 := ⟨by kernel_rfl⟩
instance : UT Try.prog 130 (TypeDesc.func #[22] #[3] false) := ⟨Try.underlying130⟩
instance : SzT Try.prog 130 1 := ⟨by kernel_rfl⟩
instance : ByT Try.prog 130 8 := ⟨by kernel_rfl⟩
instance : ZrT Try.prog 130 (#[Value.nilFunc]) := ⟨by kernel_rfl⟩
instance : FlT Try.prog 130 := ⟨by kernel_rfl⟩
instance : UT Try.prog 131 (TypeDesc.func #[24] #[3] false) := ⟨Try.underlying131⟩
instance : SzT Try.prog 131 1 := ⟨by kernel_rfl⟩
instance : ByT Try.prog 131 8 := ⟨by kernel_rfl⟩
instance : ZrT Try.prog 131 (#[Value.nilFunc]) := ⟨by kernel_rfl⟩
instance : FlT Try.prog 131 := ⟨by kernel_rfl⟩
instance : UT Try.prog 132 (TypeDesc.func #[24, 24] #[24, 24] false) := ⟨Try.underlying132⟩
instance : SzT Try.prog 132 1 := ⟨by kernel_rfl⟩
instance : ByT Try.prog 132 8 := ⟨by kernel_rfl⟩
instance : ZrT Try.prog 132 (#[Value.nilFunc]) := ⟨by kernel_rfl⟩
instance : FlT Try.prog 132 := ⟨by kernel_rfl⟩
instance : UT Try.prog 133 (TypeDesc.func #[24, 24] #[] false) := ⟨Try.underlying133⟩
instance : SzT Try.prog 133 1 := ⟨by kernel_rfl⟩
instance : ByT Try.prog 133 8 := ⟨by kernel_rfl⟩
instance : ZrT Try.prog 133 (#[Value.nilFunc]) := ⟨by kernel_rfl⟩
instance : FlT Try.prog 133 := ⟨by kernel_rfl⟩
instance : UT Try.prog 134 (TypeDesc.int IntKind.u64) := ⟨Try.underlying134⟩
instance : SzT Try.prog 134 1 := ⟨by kernel_rfl⟩
instance : ByT Try.prog 134 8 := ⟨by kernel_rfl⟩
instance : ZrT Try.prog 134 (#[Value.int .u64 0]) := ⟨by kernel_rfl⟩
instance : FlT Try.prog 134 := ⟨by kernel_rfl⟩
instance : UT Try.prog 135 (TypeDesc.func #[3] #[116] false) := ⟨Try.underlying135⟩
instance : SzT Try.prog 135 1 := ⟨by kernel_rfl⟩
instance : ByT Try.prog 135 8 := ⟨by kernel_rfl⟩
instance : ZrT Try.prog 135 (#[Value.nilFunc]) := ⟨by kernel_rfl⟩
instance : FlT Try.prog 135 := ⟨by kernel_rfl⟩
instance : UT Try.prog 136 (TypeDesc.func #[] #[24] false) := ⟨Try.underlying136⟩
instance : SzT Try.prog 136 1 := ⟨by kernel_rfl⟩
instance : ByT Try.prog 136 8 := ⟨by kernel_rfl⟩
instance : ZrT Try.prog 136 (#[Value.nilFunc]) := ⟨by kernel_rfl⟩
instance : FlT Try.prog 136 := ⟨by kernel_rfl⟩
instance : UT Try.prog 137 (TypeDesc.func #[82, 3, 138] #[3] false) := ⟨Try.underlying137⟩
instance : SzT Try.prog 137 1 := ⟨by kernel_rfl⟩
instance : ByT Try.prog 137 8 := ⟨by kernel_rfl⟩
instance : ZrT Try.prog 137 (#[Value.nilFunc]) := ⟨by kernel_rfl⟩
instance : FlT Try.prog 137 := ⟨by kernel_rfl⟩
instance : UT Try.prog 138 (TypeDesc.pointer 3) := ⟨Try.underlying138⟩
instance : SzT Try.prog 138 1 := ⟨by kernel_rfl⟩
instance : ByT Try.prog 138 8 := ⟨by kernel_rfl⟩
instance : ZrT Try.prog 138 (#[Value.pointer none]) := ⟨by kernel_rfl⟩
instance : FlT Try.prog 138 := ⟨by kernel_rfl⟩
instance : UT Try.prog 139 (TypeDesc.func #[82, 3, 3, 3, 138] #[3] false) := ⟨Try.underlying139⟩
instance : SzT Try.prog 139 1 := ⟨by kernel_rfl⟩
instance : ByT Try.prog 139 8 := ⟨by kernel_rfl⟩
instance : ZrT Try.prog 139 (#[Value.nilFunc]) := ⟨by kernel_rfl⟩
instance : FlT Try.prog 139 := ⟨by kernel_rfl⟩
instance : UT Try.prog 140 (TypeDesc.pointer 134) := ⟨Try.underlying140⟩
instance : SzT Try.prog 140 1 := ⟨by kernel_rfl⟩
instance : ByT Try.prog 140 8 := ⟨by kernel_rfl⟩
instance : ZrT Try.prog 140 (#[Value.pointer none]) := ⟨by kernel_rfl⟩
instance : FlT Try.prog 140 := ⟨by kernel_rfl⟩
instance : UT Try.prog 141 (TypeDesc.tuple #[3, 3]) := ⟨Try.underlying141⟩
instance : SzT Try.prog 141 1 := ⟨by kernel_rfl⟩
instance : ByT Try.prog 141 0 := ⟨by kernel_rfl⟩
instance : FlT Try.prog 141 := ⟨by kernel_rfl⟩
instance : UT Try.prog 142 (TypeDesc.func #[82, 3, 3, 138] #[3, 3] false) := ⟨Try.underlying142⟩
instance : SzT Try.prog 142 1 := ⟨by kernel_rfl⟩
instance : ByT Try.prog 142 8 := ⟨by kernel_rfl⟩
instance : ZrT Try.prog 142 (#[Value.nilFunc]) := ⟨by kernel_rfl⟩
instance : FlT Try.prog 142 := ⟨by kernel_rfl⟩
instance : UT Try.prog 143 (TypeDesc.func #[] #[9] false) := ⟨Try.underlying143⟩
instance : SzT Try.prog 143 1 := ⟨by kernel_rfl⟩
instance : ByT Try.prog 143 8 := ⟨by kernel_rfl⟩
instance : ZrT Try.prog 143 (#[Value.nilFunc]) := ⟨by kernel_rfl⟩
instance : FlT Try.prog 143 := ⟨by kernel_rfl⟩
instance : UT Try.prog 144 (TypeDesc.struct #[{ name := "_interface", type := 17, offset := 0, embedded := false, tag := "", pkgPath := "runtime", byteOffset := 0 }, { name := "concrete", type := 17, offset := 1, embedded := false, tag := "", pkgPath := "runtime", byteOffset := 8 }, { name := "asserted", type := 17, offset := 2, embedded := false, tag := "", pkgPath := "runtime", byteOffset := 16 }, { name := "missingMethod", type := 9, offset := 3, embedded := false, tag := "", pkgPath := "runtime", byteOffset := 24 }]) := ⟨Try.underlying144⟩
instance : SzT Try.prog 144 4 := ⟨by kernel_rfl⟩
instance : ByT Try.prog 144 40 := ⟨by kernel_rfl⟩
instance : ZrT Try.prog 144 (#[Value.pointer none, Value.pointer none, Value.pointer none, Value.string ByteArray.empty]) := ⟨by kernel_rfl⟩
instance : RwT Try.prog 144 4 := ⟨by kernel_rfl⟩
instance : PlT Try.prog 144 [(0, 1), (1, 1), (2, 1), (3, 1)] := ⟨by kernel_rfl⟩
instance : UT Try.prog 145 (TypeDesc.struct #[{ name := "_interface", type := 17, offset := 0, embedded := false, tag := "", pkgPath := "runtime", byteOffset := 0 }, { name := "concrete", type := 17, offset := 1, embedded := false, tag := "", pkgPath := "runtime", byteOffset := 8 }, { name := "asserted", type := 17, offset := 2, embedded := false, tag := "", pkgPath := "runtime", byteOffset := 16 }, { name := "missingMethod", type := 9, offset := 3, embedded := false, tag := "", pkgPath := "runtime", byteOffset := 24 }]) := ⟨Try.underlying145⟩
instance : SzT Try.prog 145 4 := ⟨by kernel_rfl⟩
instance : ByT Try.prog 145 40 := ⟨by kernel_rfl⟩
instance : ZrT Try.prog 145 (#[Value.pointer none, Value.pointer none, Value.pointer none, Value.string ByteArray.empty]) := ⟨by kernel_rfl⟩
instance : RwT Try.prog 145 4 := ⟨by kernel_rfl⟩
instance : PlT Try.prog 145 [(0, 1), (1, 1), (2, 1), (3, 1)] := ⟨by kernel_rfl⟩
instance : UT Try.prog 146 (TypeDesc.array 0 16) := ⟨Try.underlying146⟩
instance : SzT Try.prog 146 0 := ⟨by kernel_rfl⟩
instance : ByT Try.prog 146 0 := ⟨by kernel_rfl⟩
instance : ZrT Try.prog 146 (#[]) := ⟨by kernel_rfl⟩
instance : RwT Try.prog 146 0 := ⟨by kernel_rfl⟩
instance : UT Try.prog 147 (TypeDesc.struct #[{ name := "_", type := 146, offset := 0, embedded := false, tag := "", pkgPath := "runtime", byteOffset := 0 }]) := ⟨Try.underlying147⟩
instance : SzT Try.prog 147 0 := ⟨by kernel_rfl⟩
instance : ByT Try.prog 147 0 := ⟨by kernel_rfl⟩
instance : ZrT Try.prog 147 (#[]) := ⟨by kernel_rfl⟩
instance : RwT Try.prog 147 0 := ⟨by kernel_rfl⟩
instance : PlT Try.prog 147 [(0, 0)] := ⟨by kernel_rfl⟩
instance : UT Try.prog 148 (TypeDesc.struct #[{ name := "_", type := 146, offset := 0, embedded := false, tag := "", pkgPath := "runtime", byteOffset := 0 }]) := ⟨Try.underlying148⟩
instance : SzT Try.prog 148 0 := ⟨by kernel_rfl⟩
instance : ByT Try.prog 148 0 := ⟨by kernel_rfl⟩
instance : ZrT Try.prog 148 (#[]) := ⟨by kernel_rfl⟩
instance : RwT Try.prog 148 0 := ⟨by kernel_rfl⟩
instance : PlT Try.prog 148 [(0, 0)] := ⟨by kernel_rfl⟩
instance : UT Try.prog 149 (TypeDesc.int IntKind.u8) := ⟨Try.underlying149⟩
instance : SzT Try.prog 149 1 := ⟨by kernel_rfl⟩
instance : ByT Try.prog 149 1 := ⟨by kernel_rfl⟩
instance : ZrT Try.prog 149 (#[Value.int .u8 0]) := ⟨by kernel_rfl⟩
instance : FlT Try.prog 149 := ⟨by kernel_rfl⟩
instance : UT Try.prog 150 (TypeDesc.int IntKind.u8) := ⟨Try.underlying150⟩
instance : SzT Try.prog 150 1 := ⟨by kernel_rfl⟩
instance : ByT Try.prog 150 1 := ⟨by kernel_rfl⟩
instance : ZrT Try.prog 150 (#[Value.int .u8 0]) := ⟨by kernel_rfl⟩
instance : FlT Try.prog 150 := ⟨by kernel_rfl⟩
instance : UT Try.prog 151 (TypeDesc.func #[157, 157] #[4] false) := ⟨Try.underlying151⟩
instance : SzT Try.prog 151 1 := ⟨by kernel_rfl⟩
instance : ByT Try.prog 151 8 := ⟨by kernel_rfl⟩
instance : ZrT Try.prog 151 (#[Value.nilFunc]) := ⟨by kernel_rfl⟩
instance : FlT Try.prog 151 := ⟨by kernel_rfl⟩
instance : UT Try.prog 152 (TypeDesc.pointer 5) := ⟨Try.underlying152⟩
instance : SzT Try.prog 152 1 := ⟨by kernel_rfl⟩
instance : ByT Try.prog 152 8 := ⟨by kernel_rfl⟩
instance : ZrT Try.prog 152 (#[Value.pointer none]) := ⟨by kernel_rfl⟩
instance : FlT Try.prog 152 := ⟨by kernel_rfl⟩
instance : UT Try.prog 153 (TypeDesc.int IntKind.i32) := ⟨Try.underlying153⟩
instance : SzT Try.prog 153 1 := ⟨by kernel_rfl⟩
instance : ByT Try.prog 153 4 := ⟨by kernel_rfl⟩
instance : ZrT Try.prog 153 (#[Value.int .i32 0]) := ⟨by kernel_rfl⟩
instance : FlT Try.prog 153 := ⟨by kernel_rfl⟩
instance : UT Try.prog 154 (TypeDesc.int IntKind.i32) := ⟨Try.underlying154⟩
instance : SzT Try.prog 154 1 := ⟨by kernel_rfl⟩
instance : ByT Try.prog 154 4 := ⟨by kernel_rfl⟩
instance : ZrT Try.prog 154 (#[Value.int .i32 0]) := ⟨by kernel_rfl⟩
instance : FlT Try.prog 154 := ⟨by kernel_rfl⟩
instance : UT Try.prog 155 (TypeDesc.struct #[{ name := "Size_", type := 12, offset := 0, embedded := false, tag := "", pkgPath := "", byteOffset := 0 }, { name := "PtrBytes", type := 12, offset := 1, embedded := false, tag := "", pkgPath := "", byteOffset := 8 }, { name := "Hash", type := 22, offset := 2, embedded := false, tag := "", pkgPath := "", byteOffset := 16 }, { name := "TFlag", type := 149, offset := 3, embedded := false, tag := "", pkgPath := "", byteOffset := 20 }, { name := "Align_", type := 5, offset := 4, embedded := false, tag := "", pkgPath := "", byteOffset := 21 }, { name := "FieldAlign_", type := 5, offset := 5, embedded := false, tag := "", pkgPath := "", byteOffset := 22 }, { name := "Kind_", type := 150, offset := 6, embedded := false, tag := "", pkgPath := "", byteOffset := 23 }, { name := "Equal", type := 151, offset := 7, embedded := false, tag := "", pkgPath := "", byteOffset := 24 }, { name := "GCData", type := 152, offset := 8, embedded := false, tag := "", pkgPath := "", byteOffset := 32 }, { name := "Str", type := 153, offset := 9, embedded := false, tag := "", pkgPath := "", byteOffset := 40 }, { name := "PtrToThis", type := 154, offset := 10, embedded := false, tag := "", pkgPath := "", byteOffset := 44 }]) := ⟨Try.underlying155⟩
instance : SzT Try.prog 155 11 := ⟨by kernel_rfl⟩
instance : ByT Try.prog 155 48 := ⟨by kernel_rfl⟩
instance : ZrT Try.prog 155 (#[Value.int .u64 0, Value.int .u64 0, Value.int .u32 0, Value.int .u8 0, Value.int .u8 0, Value.int .u8 0, Value.int .u8 0, Value.nilFunc, Value.pointer none, Value.int .i32 0, Value.int .i32 0]) := ⟨by kernel_rfl⟩
instance : RwT Try.prog 155 11 := ⟨by kernel_rfl⟩
instance : PlT Try.prog 155 [(0, 1), (1, 1), (2, 1), (3, 1), (4, 1), (5, 1), (6, 1), (7, 1), (8, 1), (9, 1), (10, 1)] := ⟨by kernel_rfl⟩
instance : UT Try.prog 156 (TypeDesc.struct #[{ name := "Size_", type := 12, offset := 0, embedded := false, tag := "", pkgPath := "", byteOffset := 0 }, { name := "PtrBytes", type := 12, offset := 1, embedded := false, tag := "", pkgPath := "", byteOffset := 8 }, { name := "Hash", type := 22, offset := 2, embedded := false, tag := "", pkgPath := "", byteOffset := 16 }, { name := "TFlag", type := 149, offset := 3, embedded := false, tag := "", pkgPath := "", byteOffset := 20 }, { name := "Align_", type := 5, offset := 4, embedded := false, tag := "", pkgPath := "", byteOffset := 21 }, { name := "FieldAlign_", type := 5, offset := 5, embedded := false, tag := "", pkgPath := "", byteOffset := 22 }, { name := "Kind_", type := 150, offset := 6, embedded := false, tag := "", pkgPath := "", byteOffset := 23 }, { name := "Equal", type := 151, offset := 7, embedded := false, tag := "", pkgPath := "", byteOffset := 24 }, { name := "GCData", type := 152, offset := 8, embedded := false, tag := "", pkgPath := "", byteOffset := 32 }, { name := "Str", type := 153, offset := 9, embedded := false, tag := "", pkgPath := "", byteOffset := 40 }, { name := "PtrToThis", type := 154, offset := 10, embedded := false, tag := "", pkgPath := "", byteOffset := 44 }]) := ⟨Try.underlying156⟩
instance : SzT Try.prog 156 11 := ⟨by kernel_rfl⟩
instance : ByT Try.prog 156 48 := ⟨by kernel_rfl⟩
instance : ZrT Try.prog 156 (#[Value.int .u64 0, Value.int .u64 0, Value.int .u32 0, Value.int .u8 0, Value.int .u8 0, Value.int .u8 0, Value.int .u8 0, Value.nilFunc, Value.pointer none, Value.int .i32 0, Value.int .i32 0]) := ⟨by kernel_rfl⟩
instance : RwT Try.prog 156 11 := ⟨by kernel_rfl⟩
instance : PlT Try.prog 156 [(0, 1), (1, 1), (2, 1), (3, 1), (4, 1), (5, 1), (6, 1), (7, 1), (8, 1), (9, 1), (10, 1)] := ⟨by kernel_rfl⟩
instance : UT Try.prog 157 TypeDesc.unsafePointer := ⟨Try.underlying157⟩
instance : SzT Try.prog 157 1 := ⟨by kernel_rfl⟩
instance : ByT Try.prog 157 8 := ⟨by kernel_rfl⟩
instance : ZrT Try.prog 157 (#[Value.pointer none]) := ⟨by kernel_rfl⟩
instance : FlT Try.prog 157 := ⟨by kernel_rfl⟩
theorem mixed : Try.prog.follows .mixedOrders = true := by kernel_rfl
end Go.Proofs.Yteopejjlhmghbaa
namespace Go.Proofs.Yteopejjlhmghbaa
open Go
section
variable {P : Program} {ops : Array Oper} {Q : Exit → Act → World → Prop} {md : Region.Mode} {S : World → Prop}
def Gives (P : Program) (S : World → Prop) (dst : Option Tmp) (v : Value) : Result Next → Prop
  | .ok (.value u) w' => (dst = none ∨ u = v) ∧ S w'
  | .ok .skip w' => (dst = none ∨ undef = v) ∧ S w'
  | .ok (.enter f args) w' => Calls P f args w' fun e w'' => ∃ u, e = .returned u ∧ (dst = none ∨ u = v) ∧ S w''
  | .ok (.row row args) w' => Go.Rows P row args w' fun u w'' => (dst = none ∨ u = v) ∧ S w''
  | _ => False
def YieldsU (P : Program) (ops : Array Oper) (S : World → Prop) (o : Oper) (v : Value) (a : Act) : Prop :=
  (Region.wanted o (yielded ops a.tmps) = true ∧ ∀ w, S w → Gives P S o.dst v ((execOp a.eval o).run P w)) ∨
  (Region.wanted o (yielded ops a.tmps) = false ∧ v = undef)
theorem put_eq {a : Act} {dst : Option Tmp} {u v : Value} (h : dst = none ∨ u = v) : a.put dst u = a.put dst v := by
  rcases h with rfl | rfl <;> rfl
theorem YieldsU.wpOp {i : Nat} {o : Oper} {v : Value} {a : Act} (hi : ops[i]? = some o) (hy : YieldsU P ops S o v a)
    {K : Act → World → Prop} {w : World} (hS : S w) (h : ∀ w', S w' → K (a.put o.dst v) w') : wpOp P ops Q i K a w := by
  unfold Go.wpOp
  simp only [hi]
  rcases hy with ⟨hw, hv⟩ | ⟨hw, rfl⟩
  · rw [if_pos hw]
    refine .inl ?_
    have hg := hv w hS
    unfold Oper.wp
    generalize (execOp a.eval o).run P w = r at *
    cases r with
    | ok n w' =>
      cases n <;> simp only [Gives] at hg <;> simp only [Oper.upon]
      case value u => rw [put_eq hg.1]; exact h _ hg.2
      case skip => rw [put_eq hg.1]; exact h _ hg.2
      case enter f args =>
        refine Calls.mono hg fun e w'' he => ?_
        obtain ⟨u, rfl, h1, h2⟩ := he
        simp only
        rw [put_eq h1]; exact h _ h2
      case row row args => exact Rows.mono hg fun u w'' he => by rw [put_eq he.1]; exact h _ he.2
    | halt x w' => simp only [Gives] at hg
  · rw [if_neg (by simp [hw])]; exact h _ hS
theorem YieldsU.of_same {o : Oper} {v : Value} {a a' : Act} (hy : YieldsU P ops S o v a) (he : execOp a'.eval o = execOp a.eval o)
    (hw : Region.wanted o (yielded ops a'.tmps) = Region.wanted o (yielded ops a.tmps)) : YieldsU P ops S o v a' := by
  unfold YieldsU at *
  rw [he, hw]
  exact hy
def ListU (P : Program) (ops : Array Oper) (S : World → Prop) (Q : Exit → Act → World → Prop) : List Oper → Act → Prop
  | [], a => ∀ w, S w → Q .normal a w
  | o :: rest, a => ∃ a1, (∀ w, S w → ∀ K : Act → World → Prop, (∀ w', S w' → K a1 w') →
      if Region.wanted o (yielded ops a.tmps) then Oper.wp P o a w K (fun _ _ _ => False) else K (a.put o.dst undef) w) ∧ a1.defers = a.defers ∧ ListU P ops S Q rest a1
theorem ListU.cons {o : Oper} {rest : List Oper} {a a1 : Act} (h : ∀ w, S w → ∀ K : Act → World → Prop, (∀ w', S w' → K a1 w') →
      if Region.wanted o (yielded ops a.tmps) then Oper.wp P o a w K (fun _ _ _ => False) else K (a.put o.dst undef) w) (hd : a1.defers = a.defers)
    (hr : ListU P ops S Q rest a1) : ListU P ops S Q (o :: rest) a := ⟨a1, h, hd, hr⟩
end
end Go.Proofs.Yteopejjlhmghbaa
namespace Go.Proofs.Yteopejjlhmghbaa
open Go Go.ChangeShapes Go.WideShapes Go.ChangeAt Go.RowKit
set_option linter.unusedVariables false
def rl (s : Nat) (x : Int) : Int := bits .or .u32 (x * 2 ^ s % 4294967296) (x / 2 ^ (32 - s))
def l1 (x : Int) : Int := x * 2 % 4294967296 + x / 2147483648
def lf : Nat → Int → Int | 0, x => x | n + 1, x => l1 (lf n x)
theorem ret_in {p : IntKind} {a a' : Int} (h : a' = a) : Ending.returned (.int p a) = Ending.returned (.int p a') := by rw [h]
theorem l1_bd {x : Int} (h : 0 ≤ x ∧ x ≤ 4294967295) : 0 ≤ l1 x ∧ l1 x ≤ 4294967295 := by unfold l1; omega
theorem rot16 (x : Int) (h0 : 0 ≤ x) (h1 : x ≤ 4294967295) (w : World) : Calls Try.prog 76 #[.int .u32 x, .int .i64 16] w fun e w' => e = .returned (.int .u32 (rl 16 x)) ∧ w' = w := by
  have hb : bits BinOp.and IntKind.u64 16 31 = 16 := by decide
  go_enter Try.func76, Try.ntmps76
  go_wp2
  go_ret
  exact ⟨ret_in (by simp [rl]), rfl⟩
theorem rot12 (x : Int) (h0 : 0 ≤ x) (h1 : x ≤ 4294967295) (w : World) : Calls Try.prog 76 #[.int .u32 x, .int .i64 12] w fun e w' => e = .returned (.int .u32 (rl 12 x)) ∧ w' = w := by
  have hb : bits BinOp.and IntKind.u64 12 31 = 12 := by decide
  go_enter Try.func76, Try.ntmps76
  go_wp2
  go_ret
  exact ⟨ret_in (by simp [rl]), rfl⟩
theorem rot8 (x : Int) (h0 : 0 ≤ x) (h1 : x ≤ 4294967295) (w : World) : Calls Try.prog 76 #[.int .u32 x, .int .i64 8] w fun e w' => e = .returned (.int .u32 (rl 8 x)) ∧ w' = w := by
  have hb : bits BinOp.and IntKind.u64 8 31 = 8 := by decide
  go_enter Try.func76, Try.ntmps76
  go_wp2
  go_ret
  exact ⟨ret_in (by simp [rl]), rfl⟩
theorem rot7 (x : Int) (h0 : 0 ≤ x) (h1 : x ≤ 4294967295) (w : World) : Calls Try.prog 76 #[.int .u32 x, .int .i64 7] w fun e w' => e = .returned (.int .u32 (rl 7 x)) ∧ w' = w := by
  have hb : bits BinOp.and IntKind.u64 7 31 = 7 := by decide
  go_enter Try.func76, Try.ntmps76
  go_wp2
  go_ret
  exact ⟨ret_in (by simp [rl]), rfl⟩
theorem lf_bd {x : Int} (h0 : 0 ≤ x) (h1 : x ≤ 4294967295) : ∀ k, 0 ≤ lf k x ∧ lf k x ≤ 4294967295
  | 0 => ⟨h0, h1⟩
  | k + 1 => l1_bd (lf_bd h0 h1 k)
theorem left_any (x : Int) (n : Nat) (hn : n ≤ 32) (h0 : 0 ≤ x) (h1 : x ≤ 4294967295) (w : World) : Calls Try.prog 70 #[.int .u32 x, .int .i64 n] w fun e w' => e = .returned (.int .u32 (lf n x)) ∧ w' = w := by
  go_enter Try.func70, Try.ntmps70
  go_wp2
  go_loopw [0, 5] (fun v i wz => ∃ k : Nat, k ≤ n ∧ i = .int .i64 k ∧ v = .int .u32 (lf k x) ∧ wz = w) (fun _ i _ => n - (intOf i).toNat)
  case atStart => exact ⟨0, by omega, rfl, rfl, rfl⟩
  case round =>
    obtain ⟨k, hk, rfl, rfl, rfl⟩ := hrel
    by_cases hlt : k < n
    · have k1 : (k : Int) < (n : Int) := by omega
      have hb := lf_bd h0 h1 k
      have e : (lf k x).tdiv 2147483648 = lf k x / 2147483648 := Int.tdiv_eq_ediv_of_nonneg hb.1
      go_wp2
      refine ⟨⟨k + 1, by omega, by go_num, ?_, trivial⟩, by simp [intOf]; omega⟩
      simp only [lf, l1]
    · go_wp2
      go_ret
      obtain rfl : k = n := by omega
      exact ⟨rfl, rfl⟩
end Go.Proofs.Yteopejjlhmghbaa
namespace Go.Proofs.Yteopejjlhmghbaa
open Go Go.ChangeShapes Go.WideShapes Go.ChangeAt Go.RowKit
set_option linter.unusedVariables false
theorem l1_lo {y : Int} (h : 0 ≤ y ∧ y < 2147483648) : l1 y = 2 * y := by
  have q1 : y / 2147483648 = 0 := by omega
  have q2 : y * 2 % 4294967296 = y * 2 := by omega
  unfold l1
  rw [q1, q2]
  omega
theorem l1_hi {y : Int} (h : 0 ≤ y ∧ y < 2147483648) : l1 (2147483648 + y) = 2 * y + 1 := by
  have q1 : (2147483648 + y) / 2147483648 = 1 := by omega
  have q2 : (2147483648 + y) * 2 % 4294967296 = y * 2 := by omega
  unfold l1
  rw [q1, q2]
  omega
theorem lf_0 (x : Int) : lf 0 x = x := rfl
theorem lf_1 {x : Int} (h : 0 ≤ x ∧ x ≤ 4294967295) : lf 1 x = x * 2 % 4294967296 + x / 2147483648 := by
  show l1 (lf 0 x) = _
  rw [lf_0]
  obtain ⟨a, c, d, hx, hc0, hc1, hd0, hd1⟩ : ∃ a c d : Int, x = (2 * a + c) * 2147483648 + d ∧ 0 ≤ c ∧ c ≤ 1 ∧ 0 ≤ d ∧ d < 2147483648 := ⟨x / 2147483648 / 2, x / 2147483648 % 2, x % 2147483648, by omega, by omega, by omega, by omega, by omega⟩
  have ha : 0 ≤ a ∧ a < 1 := by omega
  have e3 : x * 2 % 4294967296 = d * 2 := by omega
  have e4 : x / 2147483648 = 2 * a + c := by omega
  rw [e3, e4, hx]
  have hy : 0 ≤ d * 1 + a ∧ d * 1 + a < 2147483648 := by omega
  have hc : c = 0 ∨ c = 1 := by omega
  clear hx h e3 e4
  rcases hc with rfl | rfl
  · rw [show ((2 * a + 0) * 2147483648 + d) = d * 1 + a by omega, l1_lo hy]; omega
  · rw [show ((2 * a + 1) * 2147483648 + d) = 2147483648 + (d * 1 + a) by omega, l1_hi hy]; omega
theorem lf_2 {x : Int} (h : 0 ≤ x ∧ x ≤ 4294967295) : lf 2 x = x * 4 % 4294967296 + x / 1073741824 := by
  show l1 (lf 1 x) = _
  rw [lf_1 h]
  obtain ⟨a, c, d, hx, hc0, hc1, hd0, hd1⟩ : ∃ a c d : Int, x = (2 * a + c) * 1073741824 + d ∧ 0 ≤ c ∧ c ≤ 1 ∧ 0 ≤ d ∧ d < 1073741824 := ⟨x / 1073741824 / 2, x / 1073741824 % 2, x % 1073741824, by omega, by omega, by omega, by omega, by omega⟩
  have ha : 0 ≤ a ∧ a < 2 := by omega
  have e3 : x * 4 % 4294967296 = d * 4 := by omega
  have e4 : x / 1073741824 = 2 * a + c := by omega
  have e1 : x * 2 % 4294967296 = c * 2147483648 + d * 2 := by omega
  have e2 : x / 2147483648 = a := by omega
  rw [e1, e2, e3, e4]
  have hy : 0 ≤ d * 2 + a ∧ d * 2 + a < 2147483648 := by omega
  have hc : c = 0 ∨ c = 1 := by omega
  clear hx h e3 e4
  rcases hc with rfl | rfl
  · rw [show (0 * 2147483648 + d * 2 + a) = d * 2 + a by omega, l1_lo hy]; omega
  · rw [show (1 * 2147483648 + d * 2 + a) = 2147483648 + (d * 2 + a) by omega, l1_hi hy]; omega
theorem lf_3 {x : Int} (h : 0 ≤ x ∧ x ≤ 4294967295) : lf 3 x = x * 8 % 4294967296 + x / 536870912 := by
  show l1 (lf 2 x) = _
  rw [lf_2 h]
  obtain ⟨a, c, d, hx, hc0, hc1, hd0, hd1⟩ : ∃ a c d : Int, x = (2 * a + c) * 536870912 + d ∧ 0 ≤ c ∧ c ≤ 1 ∧ 0 ≤ d ∧ d < 536870912 := ⟨x / 536870912 / 2, x / 536870912 % 2, x % 536870912, by omega, by omega, by omega, by omega, by omega⟩
  have ha : 0 ≤ a ∧ a < 4 := by omega
  have e3 : x * 8 % 4294967296 = d * 8 := by omega
  have e4 : x / 536870912 = 2 * a + c := by omega
  have e1 : x * 4 % 4294967296 = c * 2147483648 + d * 4 := by omega
  have e2 : x / 1073741824 = a := by omega
  rw [e1, e2, e3, e4]
  have hy : 0 ≤ d * 4 + a ∧ d * 4 + a < 2147483648 := by omega
  have hc : c = 0 ∨ c = 1 := by omega
  clear hx h e3 e4
  rcases hc with rfl | rfl
  · rw [show (0 * 2147483648 + d * 4 + a) = d * 4 + a by omega, l1_lo hy]; omega
  · rw [show (1 * 2147483648 + d * 4 + a) = 2147483648 + (d * 4 + a) by omega, l1_hi hy]; omega
theorem lf_4 {x : Int} (h : 0 ≤ x ∧ x ≤ 4294967295) : lf 4 x = x * 16 % 4294967296 + x / 268435456 := by
  show l1 (lf 3 x) = _
  rw [lf_3 h]
  obtain ⟨a, c, d, hx, hc0, hc1, hd0, hd1⟩ : ∃ a c d : Int, x = (2 * a + c) * 268435456 + d ∧ 0 ≤ c ∧ c ≤ 1 ∧ 0 ≤ d ∧ d < 268435456 := ⟨x / 268435456 / 2, x / 268435456 % 2, x % 268435456, by omega, by omega, by omega, by omega, by omega⟩
  have ha : 0 ≤ a ∧ a < 8 := by omega
  have e3 : x * 16 % 4294967296 = d * 16 := by omega
  have e4 : x / 268435456 = 2 * a + c := by omega
  have e1 : x * 8 % 4294967296 = c * 2147483648 + d * 8 := by omega
  have e2 : x / 536870912 = a := by omega
  rw [e1, e2, e3, e4]
  have hy : 0 ≤ d * 8 + a ∧ d * 8 + a < 2147483648 := by omega
  have hc : c = 0 ∨ c = 1 := by omega
  clear hx h e3 e4
  rcases hc with rfl | rfl
  · rw [show (0 * 2147483648 + d * 8 + a) = d * 8 + a by omega, l1_lo hy]; omega
  · rw [show (1 * 2147483648 + d * 8 + a) = 2147483648 + (d * 8 + a) by omega, l1_hi hy]; omega
theorem lf_5 {x : Int} (h : 0 ≤ x ∧ x ≤ 4294967295) : lf 5 x = x * 32 % 4294967296 + x / 134217728 := by
  show l1 (lf 4 x) = _
  rw [lf_4 h]
  obtain ⟨a, c, d, hx, hc0, hc1, hd0, hd1⟩ : ∃ a c d : Int, x = (2 * a + c) * 134217728 + d ∧ 0 ≤ c ∧ c ≤ 1 ∧ 0 ≤ d ∧ d < 134217728 := ⟨x / 134217728 / 2, x / 134217728 % 2, x % 134217728, by omega, by omega, by omega, by omega, by omega⟩
  have ha : 0 ≤ a ∧ a < 16 := by omega
  have e3 : x * 32 % 4294967296 = d * 32 := by omega
  have e4 : x / 134217728 = 2 * a + c := by omega
  have e1 : x * 16 % 4294967296 = c * 2147483648 + d * 16 := by omega
  have e2 : x / 268435456 = a := by omega
  rw [e1, e2, e3, e4]
  have hy : 0 ≤ d * 16 + a ∧ d * 16 + a < 2147483648 := by omega
  have hc : c = 0 ∨ c = 1 := by omega
  clear hx h e3 e4
  rcases hc with rfl | rfl
  · rw [show (0 * 2147483648 + d * 16 + a) = d * 16 + a by omega, l1_lo hy]; omega
  · rw [show (1 * 2147483648 + d * 16 + a) = 2147483648 + (d * 16 + a) by omega, l1_hi hy]; omega
theorem lf_6 {x : Int} (h : 0 ≤ x ∧ x ≤ 4294967295) : lf 6 x = x * 64 % 4294967296 + x / 67108864 := by
  show l1 (lf 5 x) = _
  rw [lf_5 h]
  obtain ⟨a, c, d, hx, hc0, hc1, hd0, hd1⟩ : ∃ a c d : Int, x = (2 * a + c) * 67108864 + d ∧ 0 ≤ c ∧ c ≤ 1 ∧ 0 ≤ d ∧ d < 67108864 := ⟨x / 67108864 / 2, x / 67108864 % 2, x % 67108864, by omega, by omega, by omega, by omega, by omega⟩
  have ha : 0 ≤ a ∧ a < 32 := by omega
  have e3 : x * 64 % 4294967296 = d * 64 := by omega
  have e4 : x / 67108864 = 2 * a + c := by omega
  have e1 : x * 32 % 4294967296 = c * 2147483648 + d * 32 := by omega
  have e2 : x / 134217728 = a := by omega
  rw [e1, e2, e3, e4]
  have hy : 0 ≤ d * 32 + a ∧ d * 32 + a < 2147483648 := by omega
  have hc : c = 0 ∨ c = 1 := by omega
  clear hx h e3 e4
  rcases hc with rfl | rfl
  · rw [show (0 * 2147483648 + d * 32 + a) = d * 32 + a by omega, l1_lo hy]; omega
  · rw [show (1 * 2147483648 + d * 32 + a) = 2147483648 + (d * 32 + a) by omega, l1_hi hy]; omega
theorem lf_7 {x : Int} (h : 0 ≤ x ∧ x ≤ 4294967295) : lf 7 x = x * 128 % 4294967296 + x / 33554432 := by
  show l1 (lf 6 x) = _
  rw [lf_6 h]
  obtain ⟨a, c, d, hx, hc0, hc1, hd0, hd1⟩ : ∃ a c d : Int, x = (2 * a + c) * 33554432 + d ∧ 0 ≤ c ∧ c ≤ 1 ∧ 0 ≤ d ∧ d < 33554432 := ⟨x / 33554432 / 2, x / 33554432 % 2, x % 33554432, by omega, by omega, by omega, by omega, by omega⟩
  have ha : 0 ≤ a ∧ a < 64 := by omega
  have e3 : x * 128 % 4294967296 = d * 128 := by omega
  have e4 : x / 33554432 = 2 * a + c := by omega
  have e1 : x * 64 % 4294967296 = c * 2147483648 + d * 64 := by omega
  have e2 : x / 67108864 = a := by omega
  rw [e1, e2, e3, e4]
  have hy : 0 ≤ d * 64 + a ∧ d * 64 + a < 2147483648 := by omega
  have hc : c = 0 ∨ c = 1 := by omega
  clear hx h e3 e4
  rcases hc with rfl | rfl
  · rw [show (0 * 2147483648 + d * 64 + a) = d * 64 + a by omega, l1_lo hy]; omega
  · rw [show (1 * 2147483648 + d * 64 + a) = 2147483648 + (d * 64 + a) by omega, l1_hi hy]; omega
theorem lf_8 {x : Int} (h : 0 ≤ x ∧ x ≤ 4294967295) : lf 8 x = x * 256 % 4294967296 + x / 16777216 := by
  show l1 (lf 7 x) = _
  rw [lf_7 h]
  obtain ⟨a, c, d, hx, hc0, hc1, hd0, hd1⟩ : ∃ a c d : Int, x = (2 * a + c) * 16777216 + d ∧ 0 ≤ c ∧ c ≤ 1 ∧ 0 ≤ d ∧ d < 16777216 := ⟨x / 16777216 / 2, x / 16777216 % 2, x % 16777216, by omega, by omega, by omega, by omega, by omega⟩
  have ha : 0 ≤ a ∧ a < 128 := by omega
  have e3 : x * 256 % 4294967296 = d * 256 := by omega
  have e4 : x / 16777216 = 2 * a + c := by omega
  have e1 : x * 128 % 4294967296 = c * 2147483648 + d * 128 := by omega
  have e2 : x / 33554432 = a := by omega
  rw [e1, e2, e3, e4]
  have hy : 0 ≤ d * 128 + a ∧ d * 128 + a < 2147483648 := by omega
  have hc : c = 0 ∨ c = 1 := by omega
  clear hx h e3 e4
  rcases hc with rfl | rfl
  · rw [show (0 * 2147483648 + d * 128 + a) = d * 128 + a by omega, l1_lo hy]; omega
  · rw [show (1 * 2147483648 + d * 128 + a) = 2147483648 + (d * 128 + a) by omega, l1_hi hy]; omega
theorem lf_9 {x : Int} (h : 0 ≤ x ∧ x ≤ 4294967295) : lf 9 x = x * 512 % 4294967296 + x / 8388608 := by
  show l1 (lf 8 x) = _
  rw [lf_8 h]
  obtain ⟨a, c, d, hx, hc0, hc1, hd0, hd1⟩ : ∃ a c d : Int, x = (2 * a + c) * 8388608 + d ∧ 0 ≤ c ∧ c ≤ 1 ∧ 0 ≤ d ∧ d < 8388608 := ⟨x / 8388608 / 2, x / 8388608 % 2, x % 8388608, by omega, by omega, by omega, by omega, by omega⟩
  have ha : 0 ≤ a ∧ a < 256 := by omega
  have e3 : x * 512 % 4294967296 = d * 512 := by omega
  have e4 : x / 8388608 = 2 * a + c := by omega
  have e1 : x * 256 % 4294967296 = c * 2147483648 + d * 256 := by omega
  have e2 : x / 16777216 = a := by omega
  rw [e1, e2, e3, e4]
  have hy : 0 ≤ d * 256 + a ∧ d * 256 + a < 2147483648 := by omega
  have hc : c = 0 ∨ c = 1 := by omega
  clear hx h e3 e4
  rcases hc with rfl | rfl
  · rw [show (0 * 2147483648 + d * 256 + a) = d * 256 + a by omega, l1_lo hy]; omega
  · rw [show (1 * 2147483648 + d * 256 + a) = 2147483648 + (d * 256 + a) by omega, l1_hi hy]; omega
theorem lf_10 {x : Int} (h : 0 ≤ x ∧ x ≤ 4294967295) : lf 10 x = x * 1024 % 4294967296 + x / 4194304 := by
  show l1 (lf 9 x) = _
  rw [lf_9 h]
  obtain ⟨a, c, d, hx, hc0, hc1, hd0, hd1⟩ : ∃ a c d : Int, x = (2 * a + c) * 4194304 + d ∧ 0 ≤ c ∧ c ≤ 1 ∧ 0 ≤ d ∧ d < 4194304 := ⟨x / 4194304 / 2, x / 4194304 % 2, x % 4194304, by omega, by omega, by omega, by omega, by omega⟩
  have ha : 0 ≤ a ∧ a < 512 := by omega
  have e3 : x * 1024 % 4294967296 = d * 1024 := by omega
  have e4 : x / 4194304 = 2 * a + c := by omega
  have e1 : x * 512 % 4294967296 = c * 2147483648 + d * 512 := by omega
  have e2 : x / 8388608 = a := by omega
  rw [e1, e2, e3, e4]
  have hy : 0 ≤ d * 512 + a ∧ d * 512 + a < 2147483648 := by omega
  have hc : c = 0 ∨ c = 1 := by omega
  clear hx h e3 e4
  rcases hc with rfl | rfl
  · rw [show (0 * 2147483648 + d * 512 + a) = d * 512 + a by omega, l1_lo hy]; omega
  · rw [show (1 * 2147483648 + d * 512 + a) = 2147483648 + (d * 512 + a) by omega, l1_hi hy]; omega
theorem lf_11 {x : Int} (h : 0 ≤ x ∧ x ≤ 4294967295) : lf 11 x = x * 2048 % 4294967296 + x / 2097152 := by
  show l1 (lf 10 x) = _
  rw [lf_10 h]
  obtain ⟨a, c, d, hx, hc0, hc1, hd0, hd1⟩ : ∃ a c d : Int, x = (2 * a + c) * 2097152 + d ∧ 0 ≤ c ∧ c ≤ 1 ∧ 0 ≤ d ∧ d < 2097152 := ⟨x / 2097152 / 2, x / 2097152 % 2, x % 2097152, by omega, by omega, by omega, by omega, by omega⟩
  have ha : 0 ≤ a ∧ a < 1024 := by omega
  have e3 : x * 2048 % 4294967296 = d * 2048 := by omega
  have e4 : x / 2097152 = 2 * a + c := by omega
  have e1 : x * 1024 % 4294967296 = c * 2147483648 + d * 1024 := by omega
  have e2 : x / 4194304 = a := by omega
  rw [e1, e2, e3, e4]
  have hy : 0 ≤ d * 1024 + a ∧ d * 1024 + a < 2147483648 := by omega
  have hc : c = 0 ∨ c = 1 := by omega
  clear hx h e3 e4
  rcases hc with rfl | rfl
  · rw [show (0 * 2147483648 + d * 1024 + a) = d * 1024 + a by omega, l1_lo hy]; omega
  · rw [show (1 * 2147483648 + d * 1024 + a) = 2147483648 + (d * 1024 + a) by omega, l1_hi hy]; omega
theorem lf_12 {x : Int} (h : 0 ≤ x ∧ x ≤ 4294967295) : lf 12 x = x * 4096 % 4294967296 + x / 1048576 := by
  show l1 (lf 11 x) = _
  rw [lf_11 h]
  obtain ⟨a, c, d, hx, hc0, hc1, hd0, hd1⟩ : ∃ a c d : Int, x = (2 * a + c) * 1048576 + d ∧ 0 ≤ c ∧ c ≤ 1 ∧ 0 ≤ d ∧ d < 1048576 := ⟨x / 1048576 / 2, x / 1048576 % 2, x % 1048576, by omega, by omega, by omega, by omega, by omega⟩
  have ha : 0 ≤ a ∧ a < 2048 := by omega
  have e3 : x * 4096 % 4294967296 = d * 4096 := by omega
  have e4 : x / 1048576 = 2 * a + c := by omega
  have e1 : x * 2048 % 4294967296 = c * 2147483648 + d * 2048 := by omega
  have e2 : x / 2097152 = a := by omega
  rw [e1, e2, e3, e4]
  have hy : 0 ≤ d * 2048 + a ∧ d * 2048 + a < 2147483648 := by omega
  have hc : c = 0 ∨ c = 1 := by omega
  clear hx h e3 e4
  rcases hc with rfl | rfl
  · rw [show (0 * 2147483648 + d * 2048 + a) = d * 2048 + a by omega, l1_lo hy]; omega
  · rw [show (1 * 2147483648 + d * 2048 + a) = 2147483648 + (d * 2048 + a) by omega, l1_hi hy]; omega
theorem lf_13 {x : Int} (h : 0 ≤ x ∧ x ≤ 4294967295) : lf 13 x = x * 8192 % 4294967296 + x / 524288 := by
  show l1 (lf 12 x) = _
  rw [lf_12 h]
  obtain ⟨a, c, d, hx, hc0, hc1, hd0, hd1⟩ : ∃ a c d : Int, x = (2 * a + c) * 524288 + d ∧ 0 ≤ c ∧ c ≤ 1 ∧ 0 ≤ d ∧ d < 524288 := ⟨x / 524288 / 2, x / 524288 % 2, x % 524288, by omega, by omega, by omega, by omega, by omega⟩
  have ha : 0 ≤ a ∧ a < 4096 := by omega
  have e3 : x * 8192 % 4294967296 = d * 8192 := by omega
  have e4 : x / 524288 = 2 * a + c := by omega
  have e1 : x * 4096 % 4294967296 = c * 2147483648 + d * 4096 := by omega
  have e2 : x / 1048576 = a := by omega
  rw [e1, e2, e3, e4]
  have hy : 0 ≤ d * 4096 + a ∧ d * 4096 + a < 2147483648 := by omega
  have hc : c = 0 ∨ c = 1 := by omega
  clear hx h e3 e4
  rcases hc with rfl | rfl
  · rw [show (0 * 2147483648 + d * 4096 + a) = d * 4096 + a by omega, l1_lo hy]; omega
  · rw [show (1 * 2147483648 + d * 4096 + a) = 2147483648 + (d * 4096 + a) by omega, l1_hi hy]; omega
theorem lf_14 {x : Int} (h : 0 ≤ x ∧ x ≤ 4294967295) : lf 14 x = x * 16384 % 4294967296 + x / 262144 := by
  show l1 (lf 13 x) = _
  rw [lf_13 h]
  obtain ⟨a, c, d, hx, hc0, hc1, hd0, hd1⟩ : ∃ a c d : Int, x = (2 * a + c) * 262144 + d ∧ 0 ≤ c ∧ c ≤ 1 ∧ 0 ≤ d ∧ d < 262144 := ⟨x / 262144 / 2, x / 262144 % 2, x % 262144, by omega, by omega, by omega, by omega, by omega⟩
  have ha : 0 ≤ a ∧ a < 8192 := by omega
  have e3 : x * 16384 % 4294967296 = d * 16384 := by omega
  have e4 : x / 262144 = 2 * a + c := by omega
  have e1 : x * 8192 % 4294967296 = c * 2147483648 + d * 8192 := by omega
  have e2 : x / 524288 = a := by omega
  rw [e1, e2, e3, e4]
  have hy : 0 ≤ d * 8192 + a ∧ d * 8192 + a < 2147483648 := by omega
  have hc : c = 0 ∨ c = 1 := by omega
  clear hx h e3 e4
  rcases hc with rfl | rfl
  · rw [show (0 * 2147483648 + d * 8192 + a) = d * 8192 + a by omega, l1_lo hy]; omega
  · rw [show (1 * 2147483648 + d * 8192 + a) = 2147483648 + (d * 8192 + a) by omega, l1_hi hy]; omega
theorem lf_15 {x : Int} (h : 0 ≤ x ∧ x ≤ 4294967295) : lf 15 x = x * 32768 % 4294967296 + x / 131072 := by
  show l1 (lf 14 x) = _
  rw [lf_14 h]
  obtain ⟨a, c, d, hx, hc0, hc1, hd0, hd1⟩ : ∃ a c d : Int, x = (2 * a + c) * 131072 + d ∧ 0 ≤ c ∧ c ≤ 1 ∧ 0 ≤ d ∧ d < 131072 := ⟨x / 131072 / 2, x / 131072 % 2, x % 131072, by omega, by omega, by omega, by omega, by omega⟩
  have ha : 0 ≤ a ∧ a < 16384 := by omega
  have e3 : x * 32768 % 4294967296 = d * 32768 := by omega
  have e4 : x / 131072 = 2 * a + c := by omega
  have e1 : x * 16384 % 4294967296 = c * 2147483648 + d * 16384 := by omega
  have e2 : x / 262144 = a := by omega
  rw [e1, e2, e3, e4]
  have hy : 0 ≤ d * 16384 + a ∧ d * 16384 + a < 2147483648 := by omega
  have hc : c = 0 ∨ c = 1 := by omega
  clear hx h e3 e4
  rcases hc with rfl | rfl
  · rw [show (0 * 2147483648 + d * 16384 + a) = d * 16384 + a by omega, l1_lo hy]; omega
  · rw [show (1 * 2147483648 + d * 16384 + a) = 2147483648 + (d * 16384 + a) by omega, l1_hi hy]; omega
theorem lf_16 {x : Int} (h : 0 ≤ x ∧ x ≤ 4294967295) : lf 16 x = x * 65536 % 4294967296 + x / 65536 := by
  show l1 (lf 15 x) = _
  rw [lf_15 h]
  obtain ⟨a, c, d, hx, hc0, hc1, hd0, hd1⟩ : ∃ a c d : Int, x = (2 * a + c) * 65536 + d ∧ 0 ≤ c ∧ c ≤ 1 ∧ 0 ≤ d ∧ d < 65536 := ⟨x / 65536 / 2, x / 65536 % 2, x % 65536, by omega, by omega, by omega, by omega, by omega⟩
  have ha : 0 ≤ a ∧ a < 32768 := by omega
  have e3 : x * 65536 % 4294967296 = d * 65536 := by omega
  have e4 : x / 65536 = 2 * a + c := by omega
  have e1 : x * 32768 % 4294967296 = c * 2147483648 + d * 32768 := by omega
  have e2 : x / 131072 = a := by omega
  rw [e1, e2, e3, e4]
  have hy : 0 ≤ d * 32768 + a ∧ d * 32768 + a < 2147483648 := by omega
  have hc : c = 0 ∨ c = 1 := by omega
  clear hx h e3 e4
  rcases hc with rfl | rfl
  · rw [show (0 * 2147483648 + d * 32768 + a) = d * 32768 + a by omega, l1_lo hy]; omega
  · rw [show (1 * 2147483648 + d * 32768 + a) = 2147483648 + (d * 32768 + a) by omega, l1_hi hy]; omega
theorem or_mul (a b i m : Nat) (hm : m = 2 ^ i) (h : a < m) : a ||| (b * m) = b * m + a := by
  subst hm
  rw [Nat.or_comm, ← Nat.shiftLeft_eq, Nat.shiftLeft_add_eq_or_of_lt h]
theorem rl_16 {x : Int} (h : 0 ≤ x ∧ x ≤ 4294967295) : rl 16 x = lf 16 x := by
  obtain ⟨n, rfl⟩ := Int.eq_ofNat_of_zero_le h.1
  have e1 : ((n : Int) * 2 ^ 16 % 4294967296) = ((n % 65536 * 65536 : Nat) : Int) := by omega
  have e2 : ((n : Int) / 2 ^ (32 - 16)) = ((n / 65536 : Nat) : Int) := by omega
  rw [lf_16 h]
  unfold rl
  rw [e1, e2, u32_or_nat _ _ (by omega) (by omega), Nat.or_comm, or_mul _ _ 16 65536 (by decide) (by omega)]
  omega
theorem rotl16 (x : Int) (h : 0 ≤ x ∧ x ≤ 4294967295) (w : World) : Calls Try.prog 76 #[.int .u32 x, .int .i64 16] w fun e w' => e = .returned (.int .u32 (lf 16 x)) ∧ w' = w := by
  rw [← rl_16 h]
  exact rot16 x h.1 h.2 w
theorem rl_12 {x : Int} (h : 0 ≤ x ∧ x ≤ 4294967295) : rl 12 x = lf 12 x := by
  obtain ⟨n, rfl⟩ := Int.eq_ofNat_of_zero_le h.1
  have e1 : ((n : Int) * 2 ^ 12 % 4294967296) = ((n % 1048576 * 4096 : Nat) : Int) := by omega
  have e2 : ((n : Int) / 2 ^ (32 - 12)) = ((n / 1048576 : Nat) : Int) := by omega
  rw [lf_12 h]
  unfold rl
  rw [e1, e2, u32_or_nat _ _ (by omega) (by omega), Nat.or_comm, or_mul _ _ 12 4096 (by decide) (by omega)]
  omega
theorem rotl12 (x : Int) (h : 0 ≤ x ∧ x ≤ 4294967295) (w : World) : Calls Try.prog 76 #[.int .u32 x, .int .i64 12] w fun e w' => e = .returned (.int .u32 (lf 12 x)) ∧ w' = w := by
  rw [← rl_12 h]
  exact rot12 x h.1 h.2 w
theorem rl_8 {x : Int} (h : 0 ≤ x ∧ x ≤ 4294967295) : rl 8 x = lf 8 x := by
  obtain ⟨n, rfl⟩ := Int.eq_ofNat_of_zero_le h.1
  have e1 : ((n : Int) * 2 ^ 8 % 4294967296) = ((n % 16777216 * 256 : Nat) : Int) := by omega
  have e2 : ((n : Int) / 2 ^ (32 - 8)) = ((n / 16777216 : Nat) : Int) := by omega
  rw [lf_8 h]
  unfold rl
  rw [e1, e2, u32_or_nat _ _ (by omega) (by omega), Nat.or_comm, or_mul _ _ 8 256 (by decide) (by omega)]
  omega
theorem rotl8 (x : Int) (h : 0 ≤ x ∧ x ≤ 4294967295) (w : World) : Calls Try.prog 76 #[.int .u32 x, .int .i64 8] w fun e w' => e = .returned (.int .u32 (lf 8 x)) ∧ w' = w := by
  rw [← rl_8 h]
  exact rot8 x h.1 h.2 w
theorem rl_7 {x : Int} (h : 0 ≤ x ∧ x ≤ 4294967295) : rl 7 x = lf 7 x := by
  obtain ⟨n, rfl⟩ := Int.eq_ofNat_of_zero_le h.1
  have e1 : ((n : Int) * 2 ^ 7 % 4294967296) = ((n % 33554432 * 128 : Nat) : Int) := by omega
  have e2 : ((n : Int) / 2 ^ (32 - 7)) = ((n / 33554432 : Nat) : Int) := by omega
  rw [lf_7 h]
  unfold rl
  rw [e1, e2, u32_or_nat _ _ (by omega) (by omega), Nat.or_comm, or_mul _ _ 7 128 (by decide) (by omega)]
  omega
theorem rotl7 (x : Int) (h : 0 ≤ x ∧ x ≤ 4294967295) (w : World) : Calls Try.prog 76 #[.int .u32 x, .int .i64 7] w fun e w' => e = .returned (.int .u32 (lf 7 x)) ∧ w' = w := by
  rw [← rl_7 h]
  exact rot7 x h.1 h.2 w
end Go.Proofs.Yteopejjlhmghbaa
namespace Go.Proofs.Yteopejjlhmghbaa
open Go Go.RowKit
set_option linter.unusedVariables false
set_option linter.unusedSimpArgs false
theorem xor32_bd (a b : Int) : 0 ≤ bits .xor .u32 a b ∧ bits .xor .u32 a b ≤ 4294967295 := by
  unfold bits
  simp only [IntKind.wrap_u32']
  omega
theorem rot16c (a b : Int) (w : World) : CA Try.prog 76 [.int .u32 (bits .xor .u32 a b), .int .i64 16] w (RV (.int .u32 (lf 16 (bits .xor .u32 a b))) w) := ret_same (rotl16 _ (xor32_bd _ _) w)
theorem left16c (a b : Int) (w : World) : CA Try.prog 70 [.int .u32 (bits .xor .u32 a b), .int .i64 16] w (RV (.int .u32 (lf 16 (bits .xor .u32 a b))) w) := ret_same (left_any _ 16 (by omega) (xor32_bd _ _).1 (xor32_bd _ _).2 w)
theorem rot12c (a b : Int) (w : World) : CA Try.prog 76 [.int .u32 (bits .xor .u32 a b), .int .i64 12] w (RV (.int .u32 (lf 12 (bits .xor .u32 a b))) w) := ret_same (rotl12 _ (xor32_bd _ _) w)
theorem left12c (a b : Int) (w : World) : CA Try.prog 70 [.int .u32 (bits .xor .u32 a b), .int .i64 12] w (RV (.int .u32 (lf 12 (bits .xor .u32 a b))) w) := ret_same (left_any _ 12 (by omega) (xor32_bd _ _).1 (xor32_bd _ _).2 w)
theorem rot8c (a b : Int) (w : World) : CA Try.prog 76 [.int .u32 (bits .xor .u32 a b), .int .i64 8] w (RV (.int .u32 (lf 8 (bits .xor .u32 a b))) w) := ret_same (rotl8 _ (xor32_bd _ _) w)
theorem left8c (a b : Int) (w : World) : CA Try.prog 70 [.int .u32 (bits .xor .u32 a b), .int .i64 8] w (RV (.int .u32 (lf 8 (bits .xor .u32 a b))) w) := ret_same (left_any _ 8 (by omega) (xor32_bd _ _).1 (xor32_bd _ _).2 w)
theorem rot7c (a b : Int) (w : World) : CA Try.prog 76 [.int .u32 (bits .xor .u32 a b), .int .i64 7] w (RV (.int .u32 (lf 7 (bits .xor .u32 a b))) w) := ret_same (rotl7 _ (xor32_bd _ _) w)
theorem left7c (a b : Int) (w : World) : CA Try.prog 70 [.int .u32 (bits .xor .u32 a b), .int .i64 7] w (RV (.int .u32 (lf 7 (bits .xor .u32 a b))) w) := ret_same (left_any _ 7 (by omega) (xor32_bd _ _).1 (xor32_bd _ _).2 w)
def W32 (x : Int) : Prop := 0 ≤ x ∧ x ≤ 4294967295
def q4 (a b c d : Int) : Int × Int × Int × Int :=
  let a1 := (a + b) % 4294967296
  let d1 := lf 16 (bits .xor .u32 d a1)
  let c1 := (c + d1) % 4294967296
  let b1 := lf 12 (bits .xor .u32 b c1)
  let a2 := (a1 + b1) % 4294967296
  let d2 := lf 8 (bits .xor .u32 d1 a2)
  let c2 := (c1 + d2) % 4294967296
  let b2 := lf 7 (bits .xor .u32 b1 c2)
  (a2, b2, c2, d2)
set_option maxRecDepth 100000 in
set_option maxHeartbeats 1000000 in
theorem pq_0_4_8_12 (g : Nat) (x0 x1 x2 x3 x4 x5 x6 x7 x8 x9 x10 x11 x12 x13 x14 x15 A B C D : Int) (h : q4 x0 x4 x8 x12 = (A, B, C, D)) (w : World) (hL : Has [.blk g (.cells #[.int .u32 x0, .int .u32 x1, .int .u32 x2, .int .u32 x3, .int .u32 x4, .int .u32 x5, .int .u32 x6, .int .u32 x7, .int .u32 x8, .int .u32 x9, .int .u32 x10, .int .u32 x11, .int .u32 x12, .int .u32 x13, .int .u32 x14, .int .u32 x15] 95 (0, 0))] w) :
    CA Try.prog 65 [.pointer (some ⟨g, 0, none⟩), .pointer (some ⟨g, 4, none⟩), .pointer (some ⟨g, 8, none⟩), .pointer (some ⟨g, 12, none⟩)] w (Ret (fun (_ : Unit) => .tuple #[]) [g] (fun _ => [.blk g (.cells #[.int .u32 A, .int .u32 x1, .int .u32 x2, .int .u32 x3, .int .u32 B, .int .u32 x5, .int .u32 x6, .int .u32 x7, .int .u32 C, .int .u32 x9, .int .u32 x10, .int .u32 x11, .int .u32 D, .int .u32 x13, .int .u32 x14, .int .u32 x15] 95 (0, 0))]) (fun _ => True) w) := by
  have e1 : (q4 x0 x4 x8 x12).1 = A := by rw [h]
  have e2 : (q4 x0 x4 x8 x12).2.1 = B := by rw [h]
  have e3 : (q4 x0 x4 x8 x12).2.2.1 = C := by rw [h]
  have e4 : (q4 x0 x4 x8 x12).2.2.2 = D := by rw [h]
  rw [← e1, ← e2, ← e3, ← e4]
  clear e1 e2 e3 e4 h
  refine enter (L := _) (X := [g]) Try.func65 rfl Try.ntmps65 rfl rfl hL ?_
  repeat (first | refine c_seq ?_ | (refine x_region (id := 0) (some 8) [(0, .n), (1, .n), (2, .q), (3, .n), (4, .n), (5, .q), (6, .n), (7, .n), (8, .b)] _ mixed (by kernel_rfl) (List.Sublist.refl _) ?_; refine xn rfl qm ?_; refine xn rfl qn ?_; refine xq rfl ql ?_; refine xn rfl qm ?_; refine xn rfl qn ?_; refine xq rfl ql ?_; refine xn rfl qadd32 ?_; refine xn rfl qn ?_; refine x_b rfl ?_; (first | refine es1 ?_ | refine es2 ?_ | refine es3 ?_); refine x_k (List.nil_sublist _) ?_; refine x_nil ?_) | (refine x_region (id := 1) (some 10) [(0, .n), (1, .n), (2, .n), (3, .q), (4, .n), (5, .n), (6, .q), (7, .n), (8, .e), (9, .n), (10, .b)] _ mixed (by kernel_rfl) (List.Sublist.refl _) ?_; refine xn rfl qm ?_; refine xn rfl qm ?_; refine xn rfl qn ?_; refine xq rfl ql ?_; refine xn rfl qm ?_; refine xn rfl qn ?_; refine xq rfl ql ?_; refine xn rfl qxor ?_; refine x_e rfl ?_; refine ecp rfl rfl (fun w hC hm hL => by (first | exact rot16c _ _ w | exact rot12c _ _ w | exact rot8c _ _ w | exact rot7c _ _ w)) ?_; intro m' hm'; refine xk ?_; refine xn rfl qn ?_; refine x_b rfl ?_; (first | refine es1 ?_ | refine es2 ?_ | refine es3 ?_); refine x_k (List.nil_sublist _) ?_; refine x_nil ?_) | (refine x_region (id := 2) (some 8) [(0, .n), (1, .n), (2, .q), (3, .n), (4, .n), (5, .q), (6, .n), (7, .n), (8, .b)] _ mixed (by kernel_rfl) (List.Sublist.refl _) ?_; refine xn rfl qm ?_; refine xn rfl qn ?_; refine xq rfl ql ?_; refine xn rfl qm ?_; refine xn rfl qn ?_; refine xq rfl ql ?_; refine xn rfl qadd32 ?_; refine xn rfl qn ?_; refine x_b rfl ?_; (first | refine es1 ?_ | refine es2 ?_ | refine es3 ?_); refine x_k (List.nil_sublist _) ?_; refine x_nil ?_) | (refine x_region (id := 3) (some 10) [(0, .n), (1, .n), (2, .n), (3, .q), (4, .n), (5, .n), (6, .q), (7, .n), (8, .e), (9, .n), (10, .b)] _ mixed (by kernel_rfl) (List.Sublist.refl _) ?_; refine xn rfl qm ?_; refine xn rfl qm ?_; refine xn rfl qn ?_; refine xq rfl ql ?_; refine xn rfl qm ?_; refine xn rfl qn ?_; refine xq rfl ql ?_; refine xn rfl qxor ?_; refine x_e rfl ?_; refine ecp rfl rfl (fun w hC hm hL => by (first | exact rot16c _ _ w | exact rot12c _ _ w | exact rot8c _ _ w | exact rot7c _ _ w)) ?_; intro m' hm'; refine xk ?_; refine xn rfl qn ?_; refine x_b rfl ?_; (first | refine es1 ?_ | refine es2 ?_ | refine es3 ?_); refine x_k (List.nil_sublist _) ?_; refine x_nil ?_) | (refine x_region (id := 4) (some 8) [(0, .n), (1, .n), (2, .q), (3, .n), (4, .n), (5, .q), (6, .n), (7, .n), (8, .b)] _ mixed (by kernel_rfl) (List.Sublist.refl _) ?_; refine xn rfl qm ?_; refine xn rfl qn ?_; refine xq rfl ql ?_; refine xn rfl qm ?_; refine xn rfl qn ?_; refine xq rfl ql ?_; refine xn rfl qadd32 ?_; refine xn rfl qn ?_; refine x_b rfl ?_; (first | refine es1 ?_ | refine es2 ?_ | refine es3 ?_); refine x_k (List.nil_sublist _) ?_; refine x_nil ?_) | (refine x_region (id := 5) (some 10) [(0, .n), (1, .n), (2, .n), (3, .q), (4, .n), (5, .n), (6, .q), (7, .n), (8, .e), (9, .n), (10, .b)] _ mixed (by kernel_rfl) (List.Sublist.refl _) ?_; refine xn rfl qm ?_; refine xn rfl qm ?_; refine xn rfl qn ?_; refine xq rfl ql ?_; refine xn rfl qm ?_; refine xn rfl qn ?_; refine xq rfl ql ?_; refine xn rfl qxor ?_; refine x_e rfl ?_; refine ecp rfl rfl (fun w hC hm hL => by (first | exact rot16c _ _ w | exact rot12c _ _ w | exact rot8c _ _ w | exact rot7c _ _ w)) ?_; intro m' hm'; refine xk ?_; refine xn rfl qn ?_; refine x_b rfl ?_; (first | refine es1 ?_ | refine es2 ?_ | refine es3 ?_); refine x_k (List.nil_sublist _) ?_; refine x_nil ?_) | (refine x_region (id := 6) (some 8) [(0, .n), (1, .n), (2, .q), (3, .n), (4, .n), (5, .q), (6, .n), (7, .n), (8, .b)] _ mixed (by kernel_rfl) (List.Sublist.refl _) ?_; refine xn rfl qm ?_; refine xn rfl qn ?_; refine xq rfl ql ?_; refine xn rfl qm ?_; refine xn rfl qn ?_; refine xq rfl ql ?_; refine xn rfl qadd32 ?_; refine xn rfl qn ?_; refine x_b rfl ?_; (first | refine es1 ?_ | refine es2 ?_ | refine es3 ?_); refine x_k (List.nil_sublist _) ?_; refine x_nil ?_) | (refine x_region (id := 7) (some 10) [(0, .n), (1, .n), (2, .n), (3, .q), (4, .n), (5, .n), (6, .q), (7, .n), (8, .e), (9, .n), (10, .b)] _ mixed (by kernel_rfl) (List.Sublist.refl _) ?_; refine xn rfl qm ?_; refine xn rfl qm ?_; refine xn rfl qn ?_; refine xq rfl ql ?_; refine xn rfl qm ?_; refine xn rfl qn ?_; refine xq rfl ql ?_; refine xn rfl qxor ?_; refine x_e rfl ?_; refine ecp rfl rfl (fun w hC hm hL => by (first | exact rot16c _ _ w | exact rot12c _ _ w | exact rot8c _ _ w | exact rot7c _ _ w)) ?_; intro m' hm'; refine xk ?_; refine xn rfl qn ?_; refine x_b rfl ?_; (first | refine es1 ?_ | refine es2 ?_ | refine es3 ?_); refine x_k (List.nil_sublist _) ?_; refine x_nil ?_) | refine n_then ?_ | refine c_block ?_ | refine c_skip ?_ | refine n_block ?_ | refine c_exit ?_ | refine n_then_exit ?_ | refine n_block_eq ?_ | refine n_block_ne rfl ?_ | refine c_ret ?_ | refine n_then_ret ?_ | refine n_block_ret ?_ | refine c_cond_t rfl ?_ | refine c_cond_f rfl ?_ | refine r_succ ?_ )
  (first | apply r_ret () | apply r_end ()); exact rfl; exact rfl; exact .nil; exact rfl; exact (List.Sublist.refl _); exact (new_blk (.inl (by simp)) new_nil); exact trivial
set_option maxRecDepth 100000 in
set_option maxHeartbeats 1000000 in
theorem rq_0_4_8_12 (x0 x1 x2 x3 x4 x5 x6 x7 x8 x9 x10 x11 x12 x13 x14 x15 A B C D : Int) (h : q4 x0 x4 x8 x12 = (A, B, C, D)) (w : World) :
    CA Try.prog 54 [.agg #[.int .u32 x0, .int .u32 x1, .int .u32 x2, .int .u32 x3, .int .u32 x4, .int .u32 x5, .int .u32 x6, .int .u32 x7, .int .u32 x8, .int .u32 x9, .int .u32 x10, .int .u32 x11, .int .u32 x12, .int .u32 x13, .int .u32 x14, .int .u32 x15], .int .i64 0, .int .i64 4, .int .i64 8, .int .i64 12] w (RV (.agg #[.int .u32 A, .int .u32 x1, .int .u32 x2, .int .u32 x3, .int .u32 B, .int .u32 x5, .int .u32 x6, .int .u32 x7, .int .u32 C, .int .u32 x9, .int .u32 x10, .int .u32 x11, .int .u32 D, .int .u32 x13, .int .u32 x14, .int .u32 x15]) w) := by
  have e1 : (q4 x0 x4 x8 x12).1 = A := by rw [h]
  have e2 : (q4 x0 x4 x8 x12).2.1 = B := by rw [h]
  have e3 : (q4 x0 x4 x8 x12).2.2.1 = C := by rw [h]
  have e4 : (q4 x0 x4 x8 x12).2.2.2 = D := by rw [h]
  rw [← e1, ← e2, ← e3, ← e4]
  clear e1 e2 e3 e4 h
  refine enter (L := []) (X := []) Try.func54 rfl Try.ntmps54 rfl rfl (Has.nil _) ?_
  repeat (first | refine c_seq ?_ | (refine c_region (id := 0) ?_; refine se ?_; refine eb ?_; refine se ?_; refine ea ?_; refine l_nil ?_) | (refine x_region (id := 1) (some 9) [(0, .n), (1, .n), (2, .n), (3, .q), (4, .n), (5, .n), (6, .q), (7, .n), (8, .n), (9, .b)] _ mixed (by kernel_rfl) (List.Sublist.refl _) ?_; refine xn rfl qm ?_; refine xn rfl qm ?_; refine xn rfl qia ?_; refine xq rfl ql ?_; refine xn rfl qm ?_; refine xn rfl qia ?_; refine xq rfl ql ?_; refine xn rfl qadd32 ?_; refine xn rfl qia ?_; refine x_b rfl ?_; (first | refine es1 ?_ | refine es2 ?_ | refine es3 ?_); refine x_k (List.nil_sublist _) ?_; refine x_nil ?_) | (refine x_region (id := 2) (some 10) [(0, .n), (1, .n), (2, .n), (3, .q), (4, .n), (5, .n), (6, .q), (7, .n), (8, .e), (9, .n), (10, .b)] _ mixed (by kernel_rfl) (List.Sublist.refl _) ?_; refine xn rfl qm ?_; refine xn rfl qm ?_; refine xn rfl qia ?_; refine xq rfl ql ?_; refine xn rfl qm ?_; refine xn rfl qia ?_; refine xq rfl ql ?_; refine xn rfl qxor ?_; refine x_e rfl ?_; refine ecp rfl rfl (fun w hC hm hL => by (first | exact left16c _ _ w | exact left12c _ _ w | exact left8c _ _ w | exact left7c _ _ w)) ?_; intro m' hm'; refine xk ?_; refine xn rfl qia ?_; refine x_b rfl ?_; (first | refine es1 ?_ | refine es2 ?_ | refine es3 ?_); refine x_k (List.nil_sublist _) ?_; refine x_nil ?_) | (refine x_region (id := 3) (some 9) [(0, .n), (1, .n), (2, .n), (3, .q), (4, .n), (5, .n), (6, .q), (7, .n), (8, .n), (9, .b)] _ mixed (by kernel_rfl) (List.Sublist.refl _) ?_; refine xn rfl qm ?_; refine xn rfl qm ?_; refine xn rfl qia ?_; refine xq rfl ql ?_; refine xn rfl qm ?_; refine xn rfl qia ?_; refine xq rfl ql ?_; refine xn rfl qadd32 ?_; refine xn rfl qia ?_; refine x_b rfl ?_; (first | refine es1 ?_ | refine es2 ?_ | refine es3 ?_); refine x_k (List.nil_sublist _) ?_; refine x_nil ?_) | (refine x_region (id := 4) (some 10) [(0, .n), (1, .n), (2, .n), (3, .q), (4, .n), (5, .n), (6, .q), (7, .n), (8, .e), (9, .n), (10, .b)] _ mixed (by kernel_rfl) (List.Sublist.refl _) ?_; refine xn rfl qm ?_; refine xn rfl qm ?_; refine xn rfl qia ?_; refine xq rfl ql ?_; refine xn rfl qm ?_; refine xn rfl qia ?_; refine xq rfl ql ?_; refine xn rfl qxor ?_; refine x_e rfl ?_; refine ecp rfl rfl (fun w hC hm hL => by (first | exact left16c _ _ w | exact left12c _ _ w | exact left8c _ _ w | exact left7c _ _ w)) ?_; intro m' hm'; refine xk ?_; refine xn rfl qia ?_; refine x_b rfl ?_; (first | refine es1 ?_ | refine es2 ?_ | refine es3 ?_); refine x_k (List.nil_sublist _) ?_; refine x_nil ?_) | (refine x_region (id := 5) (some 9) [(0, .n), (1, .n), (2, .n), (3, .q), (4, .n), (5, .n), (6, .q), (7, .n), (8, .n), (9, .b)] _ mixed (by kernel_rfl) (List.Sublist.refl _) ?_; refine xn rfl qm ?_; refine xn rfl qm ?_; refine xn rfl qia ?_; refine xq rfl ql ?_; refine xn rfl qm ?_; refine xn rfl qia ?_; refine xq rfl ql ?_; refine xn rfl qadd32 ?_; refine xn rfl qia ?_; refine x_b rfl ?_; (first | refine es1 ?_ | refine es2 ?_ | refine es3 ?_); refine x_k (List.nil_sublist _) ?_; refine x_nil ?_) | (refine x_region (id := 6) (some 10) [(0, .n), (1, .n), (2, .n), (3, .q), (4, .n), (5, .n), (6, .q), (7, .n), (8, .e), (9, .n), (10, .b)] _ mixed (by kernel_rfl) (List.Sublist.refl _) ?_; refine xn rfl qm ?_; refine xn rfl qm ?_; refine xn rfl qia ?_; refine xq rfl ql ?_; refine xn rfl qm ?_; refine xn rfl qia ?_; refine xq rfl ql ?_; refine xn rfl qxor ?_; refine x_e rfl ?_; refine ecp rfl rfl (fun w hC hm hL => by (first | exact left16c _ _ w | exact left12c _ _ w | exact left8c _ _ w | exact left7c _ _ w)) ?_; intro m' hm'; refine xk ?_; refine xn rfl qia ?_; refine x_b rfl ?_; (first | refine es1 ?_ | refine es2 ?_ | refine es3 ?_); refine x_k (List.nil_sublist _) ?_; refine x_nil ?_) | (refine x_region (id := 7) (some 9) [(0, .n), (1, .n), (2, .n), (3, .q), (4, .n), (5, .n), (6, .q), (7, .n), (8, .n), (9, .b)] _ mixed (by kernel_rfl) (List.Sublist.refl _) ?_; refine xn rfl qm ?_; refine xn rfl qm ?_; refine xn rfl qia ?_; refine xq rfl ql ?_; refine xn rfl qm ?_; refine xn rfl qia ?_; refine xq rfl ql ?_; refine xn rfl qadd32 ?_; refine xn rfl qia ?_; refine x_b rfl ?_; (first | refine es1 ?_ | refine es2 ?_ | refine es3 ?_); refine x_k (List.nil_sublist _) ?_; refine x_nil ?_) | (refine x_region (id := 8) (some 10) [(0, .n), (1, .n), (2, .n), (3, .q), (4, .n), (5, .n), (6, .q), (7, .n), (8, .e), (9, .n), (10, .b)] _ mixed (by kernel_rfl) (List.Sublist.refl _) ?_; refine xn rfl qm ?_; refine xn rfl qm ?_; refine xn rfl qia ?_; refine xq rfl ql ?_; refine xn rfl qm ?_; refine xn rfl qia ?_; refine xq rfl ql ?_; refine xn rfl qxor ?_; refine x_e rfl ?_; refine ecp rfl rfl (fun w hC hm hL => by (first | exact left16c _ _ w | exact left12c _ _ w | exact left8c _ _ w | exact left7c _ _ w)) ?_; intro m' hm'; refine xk ?_; refine xn rfl qia ?_; refine x_b rfl ?_; (first | refine es1 ?_ | refine es2 ?_ | refine es3 ?_); refine x_k (List.nil_sublist _) ?_; refine x_nil ?_) | (refine c_region (id := 9) ?_; refine sq (by first | exact qlb | exact qlr) ?_; refine se ?_; refine esa ?_; refine l_nil ?_) | refine n_then ?_ | refine c_block ?_ | refine c_skip ?_ | refine n_block ?_ | refine c_exit ?_ | refine n_then_exit ?_ | refine n_block_eq ?_ | refine n_block_ne rfl ?_ | refine c_ret ?_ | refine n_then_ret ?_ | refine n_block_ret ?_ | refine c_cond_t rfl ?_ | refine c_cond_f rfl ?_ | refine r_succ ?_ )
  (first | apply r_ret () | apply r_end ()); exact rfl; exact rfl; exact (.row rfl (by (repeat (first | exact List.Mem.head _ | apply List.Mem.tail))) (by rfl) .nil); exact rfl; exact (List.nil_sublist _); exact new_nil; exact trivial
set_option maxRecDepth 100000 in
set_option maxHeartbeats 1000000 in
theorem pq_1_5_9_13 (g : Nat) (x0 x1 x2 x3 x4 x5 x6 x7 x8 x9 x10 x11 x12 x13 x14 x15 A B C D : Int) (h : q4 x1 x5 x9 x13 = (A, B, C, D)) (w : World) (hL : Has [.blk g (.cells #[.int .u32 x0, .int .u32 x1, .int .u32 x2, .int .u32 x3, .int .u32 x4, .int .u32 x5, .int .u32 x6, .int .u32 x7, .int .u32 x8, .int .u32 x9, .int .u32 x10, .int .u32 x11, .int .u32 x12, .int .u32 x13, .int .u32 x14, .int .u32 x15] 95 (0, 0))] w) :
    CA Try.prog 65 [.pointer (some ⟨g, 1, none⟩), .pointer (some ⟨g, 5, none⟩), .pointer (some ⟨g, 9, none⟩), .pointer (some ⟨g, 13, none⟩)] w (Ret (fun (_ : Unit) => .tuple #[]) [g] (fun _ => [.blk g (.cells #[.int .u32 x0, .int .u32 A, .int .u32 x2, .int .u32 x3, .int .u32 x4, .int .u32 B, .int .u32 x6, .int .u32 x7, .int .u32 x8, .int .u32 C, .int .u32 x10, .int .u32 x11, .int .u32 x12, .int .u32 D, .int .u32 x14, .int .u32 x15] 95 (0, 0))]) (fun _ => True) w) := by
  have e1 : (q4 x1 x5 x9 x13).1 = A := by rw [h]
  have e2 : (q4 x1 x5 x9 x13).2.1 = B := by rw [h]
  have e3 : (q4 x1 x5 x9 x13).2.2.1 = C := by rw [h]
  have e4 : (q4 x1 x5 x9 x13).2.2.2 = D := by rw [h]
  rw [← e1, ← e2, ← e3, ← e4]
  clear e1 e2 e3 e4 h
  refine enter (L := _) (X := [g]) Try.func65 rfl Try.ntmps65 rfl rfl hL ?_
  repeat (first | refine c_seq ?_ | (refine x_region (id := 0) (some 8) [(0, .n), (1, .n), (2, .q), (3, .n), (4, .n), (5, .q), (6, .n), (7, .n), (8, .b)] _ mixed (by kernel_rfl) (List.Sublist.refl _) ?_; refine xn rfl qm ?_; refine xn rfl qn ?_; refine xq rfl ql ?_; refine xn rfl qm ?_; refine xn rfl qn ?_; refine xq rfl ql ?_; refine xn rfl qadd32 ?_; refine xn rfl qn ?_; refine x_b rfl ?_; (first | refine es1 ?_ | refine es2 ?_ | refine es3 ?_); refine x_k (List.nil_sublist _) ?_; refine x_nil ?_) | (refine x_region (id := 1) (some 10) [(0, .n), (1, .n), (2, .n), (3, .q), (4, .n), (5, .n), (6, .q), (7, .n), (8, .e), (9, .n), (10, .b)] _ mixed (by kernel_rfl) (List.Sublist.refl _) ?_; refine xn rfl qm ?_; refine xn rfl qm ?_; refine xn rfl qn ?_; refine xq rfl ql ?_; refine xn rfl qm ?_; refine xn rfl qn ?_; refine xq rfl ql ?_; refine xn rfl qxor ?_; refine x_e rfl ?_; refine ecp rfl rfl (fun w hC hm hL => by (first | exact rot16c _ _ w | exact rot12c _ _ w | exact rot8c _ _ w | exact rot7c _ _ w)) ?_; intro m' hm'; refine xk ?_; refine xn rfl qn ?_; refine x_b rfl ?_; (first | refine es1 ?_ | refine es2 ?_ | refine es3 ?_); refine x_k (List.nil_sublist _) ?_; refine x_nil ?_) | (refine x_region (id := 2) (some 8) [(0, .n), (1, .n), (2, .q), (3, .n), (4, .n), (5, .q), (6, .n), (7, .n), (8, .b)] _ mixed (by kernel_rfl) (List.Sublist.refl _) ?_; refine xn rfl qm ?_; refine xn rfl qn ?_; refine xq rfl ql ?_; refine xn rfl qm ?_; refine xn rfl qn ?_; refine xq rfl ql ?_; refine xn rfl qadd32 ?_; refine xn rfl qn ?_; refine x_b rfl ?_; (first | refine es1 ?_ | refine es2 ?_ | refine es3 ?_); refine x_k (List.nil_sublist _) ?_; refine x_nil ?_) | (refine x_region (id := 3) (some 10) [(0, .n), (1, .n), (2, .n), (3, .q), (4, .n), (5, .n), (6, .q), (7, .n), (8, .e), (9, .n), (10, .b)] _ mixed (by kernel_rfl) (List.Sublist.refl _) ?_; refine xn rfl qm ?_; refine xn rfl qm ?_; refine xn rfl qn ?_; refine xq rfl ql ?_; refine xn rfl qm ?_; refine xn rfl qn ?_; refine xq rfl ql ?_; refine xn rfl qxor ?_; refine x_e rfl ?_; refine ecp rfl rfl (fun w hC hm hL => by (first | exact rot16c _ _ w | exact rot12c _ _ w | exact rot8c _ _ w | exact rot7c _ _ w)) ?_; intro m' hm'; refine xk ?_; refine xn rfl qn ?_; refine x_b rfl ?_; (first | refine es1 ?_ | refine es2 ?_ | refine es3 ?_); refine x_k (List.nil_sublist _) ?_; refine x_nil ?_) | (refine x_region (id := 4) (some 8) [(0, .n), (1, .n), (2, .q), (3, .n), (4, .n), (5, .q), (6, .n), (7, .n), (8, .b)] _ mixed (by kernel_rfl) (List.Sublist.refl _) ?_; refine xn rfl qm ?_; refine xn rfl qn ?_; refine xq rfl ql ?_; refine xn rfl qm ?_; refine xn rfl qn ?_; refine xq rfl ql ?_; refine xn rfl qadd32 ?_; refine xn rfl qn ?_; refine x_b rfl ?_; (first | refine es1 ?_ | refine es2 ?_ | refine es3 ?_); refine x_k (List.nil_sublist _) ?_; refine x_nil ?_) | (refine x_region (id := 5) (some 10) [(0, .n), (1, .n), (2, .n), (3, .q), (4, .n), (5, .n), (6, .q), (7, .n), (8, .e), (9, .n), (10, .b)] _ mixed (by kernel_rfl) (List.Sublist.refl _) ?_; refine xn rfl qm ?_; refine xn rfl qm ?_; refine xn rfl qn ?_; refine xq rfl ql ?_; refine xn rfl qm ?_; refine xn rfl qn ?_; refine xq rfl ql ?_; refine xn rfl qxor ?_; refine x_e rfl ?_; refine ecp rfl rfl (fun w hC hm hL => by (first | exact rot16c _ _ w | exact rot12c _ _ w | exact rot8c _ _ w | exact rot7c _ _ w)) ?_; intro m' hm'; refine xk ?_; refine xn rfl qn ?_; refine x_b rfl ?_; (first | refine es1 ?_ | refine es2 ?_ | refine es3 ?_); refine x_k (List.nil_sublist _) ?_; refine x_nil ?_) | (refine x_region (id := 6) (some 8) [(0, .n), (1, .n), (2, .q), (3, .n), (4, .n), (5, .q), (6, .n), (7, .n), (8, .b)] _ mixed (by kernel_rfl) (List.Sublist.refl _) ?_; refine xn rfl qm ?_; refine xn rfl qn ?_; refine xq rfl ql ?_; refine xn rfl qm ?_; refine xn rfl qn ?_; refine xq rfl ql ?_; refine xn rfl qadd32 ?_; refine xn rfl qn ?_; refine x_b rfl ?_; (first | refine es1 ?_ | refine es2 ?_ | refine es3 ?_); refine x_k (List.nil_sublist _) ?_; refine x_nil ?_) | (refine x_region (id := 7) (some 10) [(0, .n), (1, .n), (2, .n), (3, .q), (4, .n), (5, .n), (6, .q), (7, .n), (8, .e), (9, .n), (10, .b)] _ mixed (by kernel_rfl) (List.Sublist.refl _) ?_; refine xn rfl qm ?_; refine xn rfl qm ?_; refine xn rfl qn ?_; refine xq rfl ql ?_; refine xn rfl qm ?_; refine xn rfl qn ?_; refine xq rfl ql ?_; refine xn rfl qxor ?_; refine x_e rfl ?_; refine ecp rfl rfl (fun w hC hm hL => by (first | exact rot16c _ _ w | exact rot12c _ _ w | exact rot8c _ _ w | exact rot7c _ _ w)) ?_; intro m' hm'; refine xk ?_; refine xn rfl qn ?_; refine x_b rfl ?_; (first | refine es1 ?_ | refine es2 ?_ | refine es3 ?_); refine x_k (List.nil_sublist _) ?_; refine x_nil ?_) | refine n_then ?_ | refine c_block ?_ | refine c_skip ?_ | refine n_block ?_ | refine c_exit ?_ | refine n_then_exit ?_ | refine n_block_eq ?_ | refine n_block_ne rfl ?_ | refine c_ret ?_ | refine n_then_ret ?_ | refine n_block_ret ?_ | refine c_cond_t rfl ?_ | refine c_cond_f rfl ?_ | refine r_succ ?_ )
  (first | apply r_ret () | apply r_end ()); exact rfl; exact rfl; exact .nil; exact rfl; exact (List.Sublist.refl _); exact (new_blk (.inl (by simp)) new_nil); exact trivial
set_option maxRecDepth 100000 in
set_option maxHeartbeats 1000000 in
theorem rq_1_5_9_13 (x0 x1 x2 x3 x4 x5 x6 x7 x8 x9 x10 x11 x12 x13 x14 x15 A B C D : Int) (h : q4 x1 x5 x9 x13 = (A, B, C, D)) (w : World) :
    CA Try.prog 54 [.agg #[.int .u32 x0, .int .u32 x1, .int .u32 x2, .int .u32 x3, .int .u32 x4, .int .u32 x5, .int .u32 x6, .int .u32 x7, .int .u32 x8, .int .u32 x9, .int .u32 x10, .int .u32 x11, .int .u32 x12, .int .u32 x13, .int .u32 x14, .int .u32 x15], .int .i64 1, .int .i64 5, .int .i64 9, .int .i64 13] w (RV (.agg #[.int .u32 x0, .int .u32 A, .int .u32 x2, .int .u32 x3, .int .u32 x4, .int .u32 B, .int .u32 x6, .int .u32 x7, .int .u32 x8, .int .u32 C, .int .u32 x10, .int .u32 x11, .int .u32 x12, .int .u32 D, .int .u32 x14, .int .u32 x15]) w) := by
  have e1 : (q4 x1 x5 x9 x13).1 = A := by rw [h]
  have e2 : (q4 x1 x5 x9 x13).2.1 = B := by rw [h]
  have e3 : (q4 x1 x5 x9 x13).2.2.1 = C := by rw [h]
  have e4 : (q4 x1 x5 x9 x13).2.2.2 = D := by rw [h]
  rw [← e1, ← e2, ← e3, ← e4]
  clear e1 e2 e3 e4 h
  refine enter (L := []) (X := []) Try.func54 rfl Try.ntmps54 rfl rfl (Has.nil _) ?_
  repeat (first | refine c_seq ?_ | (refine c_region (id := 0) ?_; refine se ?_; refine eb ?_; refine se ?_; refine ea ?_; refine l_nil ?_) | (refine x_region (id := 1) (some 9) [(0, .n), (1, .n), (2, .n), (3, .q), (4, .n), (5, .n), (6, .q), (7, .n), (8, .n), (9, .b)] _ mixed (by kernel_rfl) (List.Sublist.refl _) ?_; refine xn rfl qm ?_; refine xn rfl qm ?_; refine xn rfl qia ?_; refine xq rfl ql ?_; refine xn rfl qm ?_; refine xn rfl qia ?_; refine xq rfl ql ?_; refine xn rfl qadd32 ?_; refine xn rfl qia ?_; refine x_b rfl ?_; (first | refine es1 ?_ | refine es2 ?_ | refine es3 ?_); refine x_k (List.nil_sublist _) ?_; refine x_nil ?_) | (refine x_region (id := 2) (some 10) [(0, .n), (1, .n), (2, .n), (3, .q), (4, .n), (5, .n), (6, .q), (7, .n), (8, .e), (9, .n), (10, .b)] _ mixed (by kernel_rfl) (List.Sublist.refl _) ?_; refine xn rfl qm ?_; refine xn rfl qm ?_; refine xn rfl qia ?_; refine xq rfl ql ?_; refine xn rfl qm ?_; refine xn rfl qia ?_; refine xq rfl ql ?_; refine xn rfl qxor ?_; refine x_e rfl ?_; refine ecp rfl rfl (fun w hC hm hL => by (first | exact left16c _ _ w | exact left12c _ _ w | exact left8c _ _ w | exact left7c _ _ w)) ?_; intro m' hm'; refine xk ?_; refine xn rfl qia ?_; refine x_b rfl ?_; (first | refine es1 ?_ | refine es2 ?_ | refine es3 ?_); refine x_k (List.nil_sublist _) ?_; refine x_nil ?_) | (refine x_region (id := 3) (some 9) [(0, .n), (1, .n), (2, .n), (3, .q), (4, .n), (5, .n), (6, .q), (7, .n), (8, .n), (9, .b)] _ mixed (by kernel_rfl) (List.Sublist.refl _) ?_; refine xn rfl qm ?_; refine xn rfl qm ?_; refine xn rfl qia ?_; refine xq rfl ql ?_; refine xn rfl qm ?_; refine xn rfl qia ?_; refine xq rfl ql ?_; refine xn rfl qadd32 ?_; refine xn rfl qia ?_; refine x_b rfl ?_; (first | refine es1 ?_ | refine es2 ?_ | refine es3 ?_); refine x_k (List.nil_sublist _) ?_; refine x_nil ?_) | (refine x_region (id := 4) (some 10) [(0, .n), (1, .n), (2, .n), (3, .q), (4, .n), (5, .n), (6, .q), (7, .n), (8, .e), (9, .n), (10, .b)] _ mixed (by kernel_rfl) (List.Sublist.refl _) ?_; refine xn rfl qm ?_; refine xn rfl qm ?_; refine xn rfl qia ?_; refine xq rfl ql ?_; refine xn rfl qm ?_; refine xn rfl qia ?_; refine xq rfl ql ?_; refine xn rfl qxor ?_; refine x_e rfl ?_; refine ecp rfl rfl (fun w hC hm hL => by (first | exact left16c _ _ w | exact left12c _ _ w | exact left8c _ _ w | exact left7c _ _ w)) ?_; intro m' hm'; refine xk ?_; refine xn rfl qia ?_; refine x_b rfl ?_; (first | refine es1 ?_ | refine es2 ?_ | refine es3 ?_); refine x_k (List.nil_sublist _) ?_; refine x_nil ?_) | (refine x_region (id := 5) (some 9) [(0, .n), (1, .n), (2, .n), (3, .q), (4, .n), (5, .n), (6, .q), (7, .n), (8, .n), (9, .b)] _ mixed (by kernel_rfl) (List.Sublist.refl _) ?_; refine xn rfl qm ?_; refine xn rfl qm ?_; refine xn rfl qia ?_; refine xq rfl ql ?_; refine xn rfl qm ?_; refine xn rfl qia ?_; refine xq rfl ql ?_; refine xn rfl qadd32 ?_; refine xn rfl qia ?_; refine x_b rfl ?_; (first | refine es1 ?_ | refine es2 ?_ | refine es3 ?_); refine x_k (List.nil_sublist _) ?_; refine x_nil ?_) | (refine x_region (id := 6) (some 10) [(0, .n), (1, .n), (2, .n), (3, .q), (4, .n), (5, .n), (6, .q), (7, .n), (8, .e), (9, .n), (10, .b)] _ mixed (by kernel_rfl) (List.Sublist.refl _) ?_; refine xn rfl qm ?_; refine xn rfl qm ?_; refine xn rfl qia ?_; refine xq rfl ql ?_; refine xn rfl qm ?_; refine xn rfl qia ?_; refine xq rfl ql ?_; refine xn rfl qxor ?_; refine x_e rfl ?_; refine ecp rfl rfl (fun w hC hm hL => by (first | exact left16c _ _ w | exact left12c _ _ w | exact left8c _ _ w | exact left7c _ _ w)) ?_; intro m' hm'; refine xk ?_; refine xn rfl qia ?_; refine x_b rfl ?_; (first | refine es1 ?_ | refine es2 ?_ | refine es3 ?_); refine x_k (List.nil_sublist _) ?_; refine x_nil ?_) | (refine x_region (id := 7) (some 9) [(0, .n), (1, .n), (2, .n), (3, .q), (4, .n), (5, .n), (6, .q), (7, .n), (8, .n), (9, .b)] _ mixed (by kernel_rfl) (List.Sublist.refl _) ?_; refine xn rfl qm ?_; refine xn rfl qm ?_; refine xn rfl qia ?_; refine xq rfl ql ?_; refine xn rfl qm ?_; refine xn rfl qia ?_; refine xq rfl ql ?_; refine xn rfl qadd32 ?_; refine xn rfl qia ?_; refine x_b rfl ?_; (first | refine es1 ?_ | refine es2 ?_ | refine es3 ?_); refine x_k (List.nil_sublist _) ?_; refine x_nil ?_) | (refine x_region (id := 8) (some 10) [(0, .n), (1, .n), (2, .n), (3, .q), (4, .n), (5, .n), (6, .q), (7, .n), (8, .e), (9, .n), (10, .b)] _ mixed (by kernel_rfl) (List.Sublist.refl _) ?_; refine xn rfl qm ?_; refine xn rfl qm ?_; refine xn rfl qia ?_; refine xq rfl ql ?_; refine xn rfl qm ?_; refine xn rfl qia ?_; refine xq rfl ql ?_; refine xn rfl qxor ?_; refine x_e rfl ?_; refine ecp rfl rfl (fun w hC hm hL => by (first | exact left16c _ _ w | exact left12c _ _ w | exact left8c _ _ w | exact left7c _ _ w)) ?_; intro m' hm'; refine xk ?_; refine xn rfl qia ?_; refine x_b rfl ?_; (first | refine es1 ?_ | refine es2 ?_ | refine es3 ?_); refine x_k (List.nil_sublist _) ?_; refine x_nil ?_) | (refine c_region (id := 9) ?_; refine sq (by first | exact qlb | exact qlr) ?_; refine se ?_; refine esa ?_; refine l_nil ?_) | refine n_then ?_ | refine c_block ?_ | refine c_skip ?_ | refine n_block ?_ | refine c_exit ?_ | refine n_then_exit ?_ | refine n_block_eq ?_ | refine n_block_ne rfl ?_ | refine c_ret ?_ | refine n_then_ret ?_ | refine n_block_ret ?_ | refine c_cond_t rfl ?_ | refine c_cond_f rfl ?_ | refine r_succ ?_ )
  (first | apply r_ret () | apply r_end ()); exact rfl; exact rfl; exact (.row rfl (by (repeat (first | exact List.Mem.head _ | apply List.Mem.tail))) (by rfl) .nil); exact rfl; exact (List.nil_sublist _); exact new_nil; exact trivial
set_option maxRecDepth 100000 in
set_option maxHeartbeats 1000000 in
theorem pq_2_6_10_14 (g : Nat) (x0 x1 x2 x3 x4 x5 x6 x7 x8 x9 x10 x11 x12 x13 x14 x15 A B C D : Int) (h : q4 x2 x6 x10 x14 = (A, B, C, D)) (w : World) (hL : Has [.blk g (.cells #[.int .u32 x0, .int .u32 x1, .int .u32 x2, .int .u32 x3, .int .u32 x4, .int .u32 x5, .int .u32 x6, .int .u32 x7, .int .u32 x8, .int .u32 x9, .int .u32 x10, .int .u32 x11, .int .u32 x12, .int .u32 x13, .int .u32 x14, .int .u32 x15] 95 (0, 0))] w) :
    CA Try.prog 65 [.pointer (some ⟨g, 2, none⟩), .pointer (some ⟨g, 6, none⟩), .pointer (some ⟨g, 10, none⟩), .pointer (some ⟨g, 14, none⟩)] w (Ret (fun (_ : Unit) => .tuple #[]) [g] (fun _ => [.blk g (.cells #[.int .u32 x0, .int .u32 x1, .int .u32 A, .int .u32 x3, .int .u32 x4, .int .u32 x5, .int .u32 B, .int .u32 x7, .int .u32 x8, .int .u32 x9, .int .u32 C, .int .u32 x11, .int .u32 x12, .int .u32 x13, .int .u32 D, .int .u32 x15] 95 (0, 0))]) (fun _ => True) w) := by
  have e1 : (q4 x2 x6 x10 x14).1 = A := by rw [h]
  have e2 : (q4 x2 x6 x10 x14).2.1 = B := by rw [h]
  have e3 : (q4 x2 x6 x10 x14).2.2.1 = C := by rw [h]
  have e4 : (q4 x2 x6 x10 x14).2.2.2 = D := by rw [h]
  rw [← e1, ← e2, ← e3, ← e4]
  clear e1 e2 e3 e4 h
  refine enter (L := _) (X := [g]) Try.func65 rfl Try.ntmps65 rfl rfl hL ?_
  repeat (first | refine c_seq ?_ | (refine x_region (id := 0) (some 8) [(0, .n), (1, .n), (2, .q), (3, .n), (4, .n), (5, .q), (6, .n), (7, .n), (8, .b)] _ mixed (by kernel_rfl) (List.Sublist.refl _) ?_; refine xn rfl qm ?_; refine xn rfl qn ?_; refine xq rfl ql ?_; refine xn rfl qm ?_; refine xn rfl qn ?_; refine xq rfl ql ?_; refine xn rfl qadd32 ?_; refine xn rfl qn ?_; refine x_b rfl ?_; (first | refine es1 ?_ | refine es2 ?_ | refine es3 ?_); refine x_k (List.nil_sublist _) ?_; refine x_nil ?_) | (refine x_region (id := 1) (some 10) [(0, .n), (1, .n), (2, .n), (3, .q), (4, .n), (5, .n), (6, .q), (7, .n), (8, .e), (9, .n), (10, .b)] _ mixed (by kernel_rfl) (List.Sublist.refl _) ?_; refine xn rfl qm ?_; refine xn rfl qm ?_; refine xn rfl qn ?_; refine xq rfl ql ?_; refine xn rfl qm ?_; refine xn rfl qn ?_; refine xq rfl ql ?_; refine xn rfl qxor ?_; refine x_e rfl ?_; refine ecp rfl rfl (fun w hC hm hL => by (first | exact rot16c _ _ w | exact rot12c _ _ w | exact rot8c _ _ w | exact rot7c _ _ w)) ?_; intro m' hm'; refine xk ?_; refine xn rfl qn ?_; refine x_b rfl ?_; (first | refine es1 ?_ | refine es2 ?_ | refine es3 ?_); refine x_k (List.nil_sublist _) ?_; refine x_nil ?_) | (refine x_region (id := 2) (some 8) [(0, .n), (1, .n), (2, .q), (3, .n), (4, .n), (5, .q), (6, .n), (7, .n), (8, .b)] _ mixed (by kernel_rfl) (List.Sublist.refl _) ?_; refine xn rfl qm ?_; refine xn rfl qn ?_; refine xq rfl ql ?_; refine xn rfl qm ?_; refine xn rfl qn ?_; refine xq rfl ql ?_; refine xn rfl qadd32 ?_; refine xn rfl qn ?_; refine x_b rfl ?_; (first | refine es1 ?_ | refine es2 ?_ | refine es3 ?_); refine x_k (List.nil_sublist _) ?_; refine x_nil ?_) | (refine x_region (id := 3) (some 10) [(0, .n), (1, .n), (2, .n), (3, .q), (4, .n), (5, .n), (6, .q), (7, .n), (8, .e), (9, .n), (10, .b)] _ mixed (by kernel_rfl) (List.Sublist.refl _) ?_; refine xn rfl qm ?_; refine xn rfl qm ?_; refine xn rfl qn ?_; refine xq rfl ql ?_; refine xn rfl qm ?_; refine xn rfl qn ?_; refine xq rfl ql ?_; refine xn rfl qxor ?_; refine x_e rfl ?_; refine ecp rfl rfl (fun w hC hm hL => by (first | exact rot16c _ _ w | exact rot12c _ _ w | exact rot8c _ _ w | exact rot7c _ _ w)) ?_; intro m' hm'; refine xk ?_; refine xn rfl qn ?_; refine x_b rfl ?_; (first | refine es1 ?_ | refine es2 ?_ | refine es3 ?_); refine x_k (List.nil_sublist _) ?_; refine x_nil ?_) | (refine x_region (id := 4) (some 8) [(0, .n), (1, .n), (2, .q), (3, .n), (4, .n), (5, .q), (6, .n), (7, .n), (8, .b)] _ mixed (by kernel_rfl) (List.Sublist.refl _) ?_; refine xn rfl qm ?_; refine xn rfl qn ?_; refine xq rfl ql ?_; refine xn rfl qm ?_; refine xn rfl qn ?_; refine xq rfl ql ?_; refine xn rfl qadd32 ?_; refine xn rfl qn ?_; refine x_b rfl ?_; (first | refine es1 ?_ | refine es2 ?_ | refine es3 ?_); refine x_k (List.nil_sublist _) ?_; refine x_nil ?_) | (refine x_region (id := 5) (some 10) [(0, .n), (1, .n), (2, .n), (3, .q), (4, .n), (5, .n), (6, .q), (7, .n), (8, .e), (9, .n), (10, .b)] _ mixed (by kernel_rfl) (List.Sublist.refl _) ?_; refine xn rfl qm ?_; refine xn rfl qm ?_; refine xn rfl qn ?_; refine xq rfl ql ?_; refine xn rfl qm ?_; refine xn rfl qn ?_; refine xq rfl ql ?_; refine xn rfl qxor ?_; refine x_e rfl ?_; refine ecp rfl rfl (fun w hC hm hL => by (first | exact rot16c _ _ w | exact rot12c _ _ w | exact rot8c _ _ w | exact rot7c _ _ w)) ?_; intro m' hm'; refine xk ?_; refine xn rfl qn ?_; refine x_b rfl ?_; (first | refine es1 ?_ | refine es2 ?_ | refine es3 ?_); refine x_k (List.nil_sublist _) ?_; refine x_nil ?_) | (refine x_region (id := 6) (some 8) [(0, .n), (1, .n), (2, .q), (3, .n), (4, .n), (5, .q), (6, .n), (7, .n), (8, .b)] _ mixed (by kernel_rfl) (List.Sublist.refl _) ?_; refine xn rfl qm ?_; refine xn rfl qn ?_; refine xq rfl ql ?_; refine xn rfl qm ?_; refine xn rfl qn ?_; refine xq rfl ql ?_; refine xn rfl qadd32 ?_; refine xn rfl qn ?_; refine x_b rfl ?_; (first | refine es1 ?_ | refine es2 ?_ | refine es3 ?_); refine x_k (List.nil_sublist _) ?_; refine x_nil ?_) | (refine x_region (id := 7) (some 10) [(0, .n), (1, .n), (2, .n), (3, .q), (4, .n), (5, .n), (6, .q), (7, .n), (8, .e), (9, .n), (10, .b)] _ mixed (by kernel_rfl) (List.Sublist.refl _) ?_; refine xn rfl qm ?_; refine xn rfl qm ?_; refine xn rfl qn ?_; refine xq rfl ql ?_; refine xn rfl qm ?_; refine xn rfl qn ?_; refine xq rfl ql ?_; refine xn rfl qxor ?_; refine x_e rfl ?_; refine ecp rfl rfl (fun w hC hm hL => by (first | exact rot16c _ _ w | exact rot12c _ _ w | exact rot8c _ _ w | exact rot7c _ _ w)) ?_; intro m' hm'; refine xk ?_; refine xn rfl qn ?_; refine x_b rfl ?_; (first | refine es1 ?_ | refine es2 ?_ | refine es3 ?_); refine x_k (List.nil_sublist _) ?_; refine x_nil ?_) | refine n_then ?_ | refine c_block ?_ | refine c_skip ?_ | refine n_block ?_ | refine c_exit ?_ | refine n_then_exit ?_ | refine n_block_eq ?_ | refine n_block_ne rfl ?_ | refine c_ret ?_ | refine n_then_ret ?_ | refine n_block_ret ?_ | refine c_cond_t rfl ?_ | refine c_cond_f rfl ?_ | refine r_succ ?_ )
  (first | apply r_ret () | apply r_end ()); exact rfl; exact rfl; exact .nil; exact rfl; exact (List.Sublist.refl _); exact (new_blk (.inl (by simp)) new_nil); exact trivial
set_option maxRecDepth 100000 in
set_option maxHeartbeats 1000000 in
theorem rq_2_6_10_14 (x0 x1 x2 x3 x4 x5 x6 x7 x8 x9 x10 x11 x12 x13 x14 x15 A B C D : Int) (h : q4 x2 x6 x10 x14 = (A, B, C, D)) (w : World) :
    CA Try.prog 54 [.agg #[.int .u32 x0, .int .u32 x1, .int .u32 x2, .int .u32 x3, .int .u32 x4, .int .u32 x5, .int .u32 x6, .int .u32 x7, .int .u32 x8, .int .u32 x9, .int .u32 x10, .int .u32 x11, .int .u32 x12, .int .u32 x13, .int .u32 x14, .int .u32 x15], .int .i64 2, .int .i64 6, .int .i64 10, .int .i64 14] w (RV (.agg #[.int .u32 x0, .int .u32 x1, .int .u32 A, .int .u32 x3, .int .u32 x4, .int .u32 x5, .int .u32 B, .int .u32 x7, .int .u32 x8, .int .u32 x9, .int .u32 C, .int .u32 x11, .int .u32 x12, .int .u32 x13, .int .u32 D, .int .u32 x15]) w) := by
  have e1 : (q4 x2 x6 x10 x14).1 = A := by rw [h]
  have e2 : (q4 x2 x6 x10 x14).2.1 = B := by rw [h]
  have e3 : (q4 x2 x6 x10 x14).2.2.1 = C := by rw [h]
  have e4 : (q4 x2 x6 x10 x14).2.2.2 = D := by rw [h]
  rw [← e1, ← e2, ← e3, ← e4]
  clear e1 e2 e3 e4 h
  refine enter (L := []) (X := []) Try.func54 rfl Try.ntmps54 rfl rfl (Has.nil _) ?_
  repeat (first | refine c_seq ?_ | (refine c_region (id := 0) ?_; refine se ?_; refine eb ?_; refine se ?_; refine ea ?_; refine l_nil ?_) | (refine x_region (id := 1) (some 9) [(0, .n), (1, .n), (2, .n), (3, .q), (4, .n), (5, .n), (6, .q), (7, .n), (8, .n), (9, .b)] _ mixed (by kernel_rfl) (List.Sublist.refl _) ?_; refine xn rfl qm ?_; refine xn rfl qm ?_; refine xn rfl qia ?_; refine xq rfl ql ?_; refine xn rfl qm ?_; refine xn rfl qia ?_; refine xq rfl ql ?_; refine xn rfl qadd32 ?_; refine xn rfl qia ?_; refine x_b rfl ?_; (first | refine es1 ?_ | refine es2 ?_ | refine es3 ?_); refine x_k (List.nil_sublist _) ?_; refine x_nil ?_) | (refine x_region (id := 2) (some 10) [(0, .n), (1, .n), (2, .n), (3, .q), (4, .n), (5, .n), (6, .q), (7, .n), (8, .e), (9, .n), (10, .b)] _ mixed (by kernel_rfl) (List.Sublist.refl _) ?_; refine xn rfl qm ?_; refine xn rfl qm ?_; refine xn rfl qia ?_; refine xq rfl ql ?_; refine xn rfl qm ?_; refine xn rfl qia ?_; refine xq rfl ql ?_; refine xn rfl qxor ?_; refine x_e rfl ?_; refine ecp rfl rfl (fun w hC hm hL => by (first | exact left16c _ _ w | exact left12c _ _ w | exact left8c _ _ w | exact left7c _ _ w)) ?_; intro m' hm'; refine xk ?_; refine xn rfl qia ?_; refine x_b rfl ?_; (first | refine es1 ?_ | refine es2 ?_ | refine es3 ?_); refine x_k (List.nil_sublist _) ?_; refine x_nil ?_) | (refine x_region (id := 3) (some 9) [(0, .n), (1, .n), (2, .n), (3, .q), (4, .n), (5, .n), (6, .q), (7, .n), (8, .n), (9, .b)] _ mixed (by kernel_rfl) (List.Sublist.refl _) ?_; refine xn rfl qm ?_; refine xn rfl qm ?_; refine xn rfl qia ?_; refine xq rfl ql ?_; refine xn rfl qm ?_; refine xn rfl qia ?_; refine xq rfl ql ?_; refine xn rfl qadd32 ?_; refine xn rfl qia ?_; refine x_b rfl ?_; (first | refine es1 ?_ | refine es2 ?_ | refine es3 ?_); refine x_k (List.nil_sublist _) ?_; refine x_nil ?_) | (refine x_region (id := 4) (some 10) [(0, .n), (1, .n), (2, .n), (3, .q), (4, .n), (5, .n), (6, .q), (7, .n), (8, .e), (9, .n), (10, .b)] _ mixed (by kernel_rfl) (List.Sublist.refl _) ?_; refine xn rfl qm ?_; refine xn rfl qm ?_; refine xn rfl qia ?_; refine xq rfl ql ?_; refine xn rfl qm ?_; refine xn rfl qia ?_; refine xq rfl ql ?_; refine xn rfl qxor ?_; refine x_e rfl ?_; refine ecp rfl rfl (fun w hC hm hL => by (first | exact left16c _ _ w | exact left12c _ _ w | exact left8c _ _ w | exact left7c _ _ w)) ?_; intro m' hm'; refine xk ?_; refine xn rfl qia ?_; refine x_b rfl ?_; (first | refine es1 ?_ | refine es2 ?_ | refine es3 ?_); refine x_k (List.nil_sublist _) ?_; refine x_nil ?_) | (refine x_region (id := 5) (some 9) [(0, .n), (1, .n), (2, .n), (3, .q), (4, .n), (5, .n), (6, .q), (7, .n), (8, .n), (9, .b)] _ mixed (by kernel_rfl) (List.Sublist.refl _) ?_; refine xn rfl qm ?_; refine xn rfl qm ?_; refine xn rfl qia ?_; refine xq rfl ql ?_; refine xn rfl qm ?_; refine xn rfl qia ?_; refine xq rfl ql ?_; refine xn rfl qadd32 ?_; refine xn rfl qia ?_; refine x_b rfl ?_; (first | refine es1 ?_ | refine es2 ?_ | refine es3 ?_); refine x_k (List.nil_sublist _) ?_; refine x_nil ?_) | (refine x_region (id := 6) (some 10) [(0, .n), (1, .n), (2, .n), (3, .q), (4, .n), (5, .n), (6, .q), (7, .n), (8, .e), (9, .n), (10, .b)] _ mixed (by kernel_rfl) (List.Sublist.refl _) ?_; refine xn rfl qm ?_; refine xn rfl qm ?_; refine xn rfl qia ?_; refine xq rfl ql ?_; refine xn rfl qm ?_; refine xn rfl qia ?_; refine xq rfl ql ?_; refine xn rfl qxor ?_; refine x_e rfl ?_; refine ecp rfl rfl (fun w hC hm hL => by (first | exact left16c _ _ w | exact left12c _ _ w | exact left8c _ _ w | exact left7c _ _ w)) ?_; intro m' hm'; refine xk ?_; refine xn rfl qia ?_; refine x_b rfl ?_; (first | refine es1 ?_ | refine es2 ?_ | refine es3 ?_); refine x_k (List.nil_sublist _) ?_; refine x_nil ?_) | (refine x_region (id := 7) (some 9) [(0, .n), (1, .n), (2, .n), (3, .q), (4, .n), (5, .n), (6, .q), (7, .n), (8, .n), (9, .b)] _ mixed (by kernel_rfl) (List.Sublist.refl _) ?_; refine xn rfl qm ?_; refine xn rfl qm ?_; refine xn rfl qia ?_; refine xq rfl ql ?_; refine xn rfl qm ?_; refine xn rfl qia ?_; refine xq rfl ql ?_; refine xn rfl qadd32 ?_; refine xn rfl qia ?_; refine x_b rfl ?_; (first | refine es1 ?_ | refine es2 ?_ | refine es3 ?_); refine x_k (List.nil_sublist _) ?_; refine x_nil ?_) | (refine x_region (id := 8) (some 10) [(0, .n), (1, .n), (2, .n), (3, .q), (4, .n), (5, .n), (6, .q), (7, .n), (8, .e), (9, .n), (10, .b)] _ mixed (by kernel_rfl) (List.Sublist.refl _) ?_; refine xn rfl qm ?_; refine xn rfl qm ?_; refine xn rfl qia ?_; refine xq rfl ql ?_; refine xn rfl qm ?_; refine xn rfl qia ?_; refine xq rfl ql ?_; refine xn rfl qxor ?_; refine x_e rfl ?_; refine ecp rfl rfl (fun w hC hm hL => by (first | exact left16c _ _ w | exact left12c _ _ w | exact left8c _ _ w | exact left7c _ _ w)) ?_; intro m' hm'; refine xk ?_; refine xn rfl qia ?_; refine x_b rfl ?_; (first | refine es1 ?_ | refine es2 ?_ | refine es3 ?_); refine x_k (List.nil_sublist _) ?_; refine x_nil ?_) | (refine c_region (id := 9) ?_; refine sq (by first | exact qlb | exact qlr) ?_; refine se ?_; refine esa ?_; refine l_nil ?_) | refine n_then ?_ | refine c_block ?_ | refine c_skip ?_ | refine n_block ?_ | refine c_exit ?_ | refine n_then_exit ?_ | refine n_block_eq ?_ | refine n_block_ne rfl ?_ | refine c_ret ?_ | refine n_then_ret ?_ | refine n_block_ret ?_ | refine c_cond_t rfl ?_ | refine c_cond_f rfl ?_ | refine r_succ ?_ )
  (first | apply r_ret () | apply r_end ()); exact rfl; exact rfl; exact (.row rfl (by (repeat (first | exact List.Mem.head _ | apply List.Mem.tail))) (by rfl) .nil); exact rfl; exact (List.nil_sublist _); exact new_nil; exact trivial
set_option maxRecDepth 100000 in
set_option maxHeartbeats 1000000 in
theorem pq_3_7_11_15 (g : Nat) (x0 x1 x2 x3 x4 x5 x6 x7 x8 x9 x10 x11 x12 x13 x14 x15 A B C D : Int) (h : q4 x3 x7 x11 x15 = (A, B, C, D)) (w : World) (hL : Has [.blk g (.cells #[.int .u32 x0, .int .u32 x1, .int .u32 x2, .int .u32 x3, .int .u32 x4, .int .u32 x5, .int .u32 x6, .int .u32 x7, .int .u32 x8, .int .u32 x9, .int .u32 x10, .int .u32 x11, .int .u32 x12, .int .u32 x13, .int .u32 x14, .int .u32 x15] 95 (0, 0))] w) :
    CA Try.prog 65 [.pointer (some ⟨g, 3, none⟩), .pointer (some ⟨g, 7, none⟩), .pointer (some ⟨g, 11, none⟩), .pointer (some ⟨g, 15, none⟩)] w (Ret (fun (_ : Unit) => .tuple #[]) [g] (fun _ => [.blk g (.cells #[.int .u32 x0, .int .u32 x1, .int .u32 x2, .int .u32 A, .int .u32 x4, .int .u32 x5, .int .u32 x6, .int .u32 B, .int .u32 x8, .int .u32 x9, .int .u32 x10, .int .u32 C, .int .u32 x12, .int .u32 x13, .int .u32 x14, .int .u32 D] 95 (0, 0))]) (fun _ => True) w) := by
  have e1 : (q4 x3 x7 x11 x15).1 = A := by rw [h]
  have e2 : (q4 x3 x7 x11 x15).2.1 = B := by rw [h]
  have e3 : (q4 x3 x7 x11 x15).2.2.1 = C := by rw [h]
  have e4 : (q4 x3 x7 x11 x15).2.2.2 = D := by rw [h]
  rw [← e1, ← e2, ← e3, ← e4]
  clear e1 e2 e3 e4 h
  refine enter (L := _) (X := [g]) Try.func65 rfl Try.ntmps65 rfl rfl hL ?_
  repeat (first | refine c_seq ?_ | (refine x_region (id := 0) (some 8) [(0, .n), (1, .n), (2, .q), (3, .n), (4, .n), (5, .q), (6, .n), (7, .n), (8, .b)] _ mixed (by kernel_rfl) (List.Sublist.refl _) ?_; refine xn rfl qm ?_; refine xn rfl qn ?_; refine xq rfl ql ?_; refine xn rfl qm ?_; refine xn rfl qn ?_; refine xq rfl ql ?_; refine xn rfl qadd32 ?_; refine xn rfl qn ?_; refine x_b rfl ?_; (first | refine es1 ?_ | refine es2 ?_ | refine es3 ?_); refine x_k (List.nil_sublist _) ?_; refine x_nil ?_) | (refine x_region (id := 1) (some 10) [(0, .n), (1, .n), (2, .n), (3, .q), (4, .n), (5, .n), (6, .q), (7, .n), (8, .e), (9, .n), (10, .b)] _ mixed (by kernel_rfl) (List.Sublist.refl _) ?_; refine xn rfl qm ?_; refine xn rfl qm ?_; refine xn rfl qn ?_; refine xq rfl ql ?_; refine xn rfl qm ?_; refine xn rfl qn ?_; refine xq rfl ql ?_; refine xn rfl qxor ?_; refine x_e rfl ?_; refine ecp rfl rfl (fun w hC hm hL => by (first | exact rot16c _ _ w | exact rot12c _ _ w | exact rot8c _ _ w | exact rot7c _ _ w)) ?_; intro m' hm'; refine xk ?_; refine xn rfl qn ?_; refine x_b rfl ?_; (first | refine es1 ?_ | refine es2 ?_ | refine es3 ?_); refine x_k (List.nil_sublist _) ?_; refine x_nil ?_) | (refine x_region (id := 2) (some 8) [(0, .n), (1, .n), (2, .q), (3, .n), (4, .n), (5, .q), (6, .n), (7, .n), (8, .b)] _ mixed (by kernel_rfl) (List.Sublist.refl _) ?_; refine xn rfl qm ?_; refine xn rfl qn ?_; refine xq rfl ql ?_; refine xn rfl qm ?_; refine xn rfl qn ?_; refine xq rfl ql ?_; refine xn rfl qadd32 ?_; refine xn rfl qn ?_; refine x_b rfl ?_; (first | refine es1 ?_ | refine es2 ?_ | refine es3 ?_); refine x_k (List.nil_sublist _) ?_; refine x_nil ?_) | (refine x_region (id := 3) (some 10) [(0, .n), (1, .n), (2, .n), (3, .q), (4, .n), (5, .n), (6, .q), (7, .n), (8, .e), (9, .n), (10, .b)] _ mixed (by kernel_rfl) (List.Sublist.refl _) ?_; refine xn rfl qm ?_; refine xn rfl qm ?_; refine xn rfl qn ?_; refine xq rfl ql ?_; refine xn rfl qm ?_; refine xn rfl qn ?_; refine xq rfl ql ?_; refine xn rfl qxor ?_; refine x_e rfl ?_; refine ecp rfl rfl (fun w hC hm hL => by (first | exact rot16c _ _ w | exact rot12c _ _ w | exact rot8c _ _ w | exact rot7c _ _ w)) ?_; intro m' hm'; refine xk ?_; refine xn rfl qn ?_; refine x_b rfl ?_; (first | refine es1 ?_ | refine es2 ?_ | refine es3 ?_); refine x_k (List.nil_sublist _) ?_; refine x_nil ?_) | (refine x_region (id := 4) (some 8) [(0, .n), (1, .n), (2, .q), (3, .n), (4, .n), (5, .q), (6, .n), (7, .n), (8, .b)] _ mixed (by kernel_rfl) (List.Sublist.refl _) ?_; refine xn rfl qm ?_; refine xn rfl qn ?_; refine xq rfl ql ?_; refine xn rfl qm ?_; refine xn rfl qn ?_; refine xq rfl ql ?_; refine xn rfl qadd32 ?_; refine xn rfl qn ?_; refine x_b rfl ?_; (first | refine es1 ?_ | refine es2 ?_ | refine es3 ?_); refine x_k (List.nil_sublist _) ?_; refine x_nil ?_) | (refine x_region (id := 5) (some 10) [(0, .n), (1, .n), (2, .n), (3, .q), (4, .n), (5, .n), (6, .q), (7, .n), (8, .e), (9, .n), (10, .b)] _ mixed (by kernel_rfl) (List.Sublist.refl _) ?_; refine xn rfl qm ?_; refine xn rfl qm ?_; refine xn rfl qn ?_; refine xq rfl ql ?_; refine xn rfl qm ?_; refine xn rfl qn ?_; refine xq rfl ql ?_; refine xn rfl qxor ?_; refine x_e rfl ?_; refine ecp rfl rfl (fun w hC hm hL => by (first | exact rot16c _ _ w | exact rot12c _ _ w | exact rot8c _ _ w | exact rot7c _ _ w)) ?_; intro m' hm'; refine xk ?_; refine xn rfl qn ?_; refine x_b rfl ?_; (first | refine es1 ?_ | refine es2 ?_ | refine es3 ?_); refine x_k (List.nil_sublist _) ?_; refine x_nil ?_) | (refine x_region (id := 6) (some 8) [(0, .n), (1, .n), (2, .q), (3, .n), (4, .n), (5, .q), (6, .n), (7, .n), (8, .b)] _ mixed (by kernel_rfl) (List.Sublist.refl _) ?_; refine xn rfl qm ?_; refine xn rfl qn ?_; refine xq rfl ql ?_; refine xn rfl qm ?_; refine xn rfl qn ?_; refine xq rfl ql ?_; refine xn rfl qadd32 ?_; refine xn rfl qn ?_; refine x_b rfl ?_; (first | refine es1 ?_ | refine es2 ?_ | refine es3 ?_); refine x_k (List.nil_sublist _) ?_; refine x_nil ?_) | (refine x_region (id := 7) (some 10) [(0, .n), (1, .n), (2, .n), (3, .q), (4, .n), (5, .n), (6, .q), (7, .n), (8, .e), (9, .n), (10, .b)] _ mixed (by kernel_rfl) (List.Sublist.refl _) ?_; refine xn rfl qm ?_; refine xn rfl qm ?_; refine xn rfl qn ?_; refine xq rfl ql ?_; refine xn rfl qm ?_; refine xn rfl qn ?_; refine xq rfl ql ?_; refine xn rfl qxor ?_; refine x_e rfl ?_; refine ecp rfl rfl (fun w hC hm hL => by (first | exact rot16c _ _ w | exact rot12c _ _ w | exact rot8c _ _ w | exact rot7c _ _ w)) ?_; intro m' hm'; refine xk ?_; refine xn rfl qn ?_; refine x_b rfl ?_; (first | refine es1 ?_ | refine es2 ?_ | refine es3 ?_); refine x_k (List.nil_sublist _) ?_; refine x_nil ?_) | refine n_then ?_ | refine c_block ?_ | refine c_skip ?_ | refine n_block ?_ | refine c_exit ?_ | refine n_then_exit ?_ | refine n_block_eq ?_ | refine n_block_ne rfl ?_ | refine c_ret ?_ | refine n_then_ret ?_ | refine n_block_ret ?_ | refine c_cond_t rfl ?_ | refine c_cond_f rfl ?_ | refine r_succ ?_ )
  (first | apply r_ret () | apply r_end ()); exact rfl; exact rfl; exact .nil; exact rfl; exact (List.Sublist.refl _); exact (new_blk (.inl (by simp)) new_nil); exact trivial
set_option maxRecDepth 100000 in
set_option maxHeartbeats 1000000 in
theorem rq_3_7_11_15 (x0 x1 x2 x3 x4 x5 x6 x7 x8 x9 x10 x11 x12 x13 x14 x15 A B C D : Int) (h : q4 x3 x7 x11 x15 = (A, B, C, D)) (w : World) :
    CA Try.prog 54 [.agg #[.int .u32 x0, .int .u32 x1, .int .u32 x2, .int .u32 x3, .int .u32 x4, .int .u32 x5, .int .u32 x6, .int .u32 x7, .int .u32 x8, .int .u32 x9, .int .u32 x10, .int .u32 x11, .int .u32 x12, .int .u32 x13, .int .u32 x14, .int .u32 x15], .int .i64 3, .int .i64 7, .int .i64 11, .int .i64 15] w (RV (.agg #[.int .u32 x0, .int .u32 x1, .int .u32 x2, .int .u32 A, .int .u32 x4, .int .u32 x5, .int .u32 x6, .int .u32 B, .int .u32 x8, .int .u32 x9, .int .u32 x10, .int .u32 C, .int .u32 x12, .int .u32 x13, .int .u32 x14, .int .u32 D]) w) := by
  have e1 : (q4 x3 x7 x11 x15).1 = A := by rw [h]
  have e2 : (q4 x3 x7 x11 x15).2.1 = B := by rw [h]
  have e3 : (q4 x3 x7 x11 x15).2.2.1 = C := by rw [h]
  have e4 : (q4 x3 x7 x11 x15).2.2.2 = D := by rw [h]
  rw [← e1, ← e2, ← e3, ← e4]
  clear e1 e2 e3 e4 h
  refine enter (L := []) (X := []) Try.func54 rfl Try.ntmps54 rfl rfl (Has.nil _) ?_
  repeat (first | refine c_seq ?_ | (refine c_region (id := 0) ?_; refine se ?_; refine eb ?_; refine se ?_; refine ea ?_; refine l_nil ?_) | (refine x_region (id := 1) (some 9) [(0, .n), (1, .n), (2, .n), (3, .q), (4, .n), (5, .n), (6, .q), (7, .n), (8, .n), (9, .b)] _ mixed (by kernel_rfl) (List.Sublist.refl _) ?_; refine xn rfl qm ?_; refine xn rfl qm ?_; refine xn rfl qia ?_; refine xq rfl ql ?_; refine xn rfl qm ?_; refine xn rfl qia ?_; refine xq rfl ql ?_; refine xn rfl qadd32 ?_; refine xn rfl qia ?_; refine x_b rfl ?_; (first | refine es1 ?_ | refine es2 ?_ | refine es3 ?_); refine x_k (List.nil_sublist _) ?_; refine x_nil ?_) | (refine x_region (id := 2) (some 10) [(0, .n), (1, .n), (2, .n), (3, .q), (4, .n), (5, .n), (6, .q), (7, .n), (8, .e), (9, .n), (10, .b)] _ mixed (by kernel_rfl) (List.Sublist.refl _) ?_; refine xn rfl qm ?_; refine xn rfl qm ?_; refine xn rfl qia ?_; refine xq rfl ql ?_; refine xn rfl qm ?_; refine xn rfl qia ?_; refine xq rfl ql ?_; refine xn rfl qxor ?_; refine x_e rfl ?_; refine ecp rfl rfl (fun w hC hm hL => by (first | exact left16c _ _ w | exact left12c _ _ w | exact left8c _ _ w | exact left7c _ _ w)) ?_; intro m' hm'; refine xk ?_; refine xn rfl qia ?_; refine x_b rfl ?_; (first | refine es1 ?_ | refine es2 ?_ | refine es3 ?_); refine x_k (List.nil_sublist _) ?_; refine x_nil ?_) | (refine x_region (id := 3) (some 9) [(0, .n), (1, .n), (2, .n), (3, .q), (4, .n), (5, .n), (6, .q), (7, .n), (8, .n), (9, .b)] _ mixed (by kernel_rfl) (List.Sublist.refl _) ?_; refine xn rfl qm ?_; refine xn rfl qm ?_; refine xn rfl qia ?_; refine xq rfl ql ?_; refine xn rfl qm ?_; refine xn rfl qia ?_; refine xq rfl ql ?_; refine xn rfl qadd32 ?_; refine xn rfl qia ?_; refine x_b rfl ?_; (first | refine es1 ?_ | refine es2 ?_ | refine es3 ?_); refine x_k (List.nil_sublist _) ?_; refine x_nil ?_) | (refine x_region (id := 4) (some 10) [(0, .n), (1, .n), (2, .n), (3, .q), (4, .n), (5, .n), (6, .q), (7, .n), (8, .e), (9, .n), (10, .b)] _ mixed (by kernel_rfl) (List.Sublist.refl _) ?_; refine xn rfl qm ?_; refine xn rfl qm ?_; refine xn rfl qia ?_; refine xq rfl ql ?_; refine xn rfl qm ?_; refine xn rfl qia ?_; refine xq rfl ql ?_; refine xn rfl qxor ?_; refine x_e rfl ?_; refine ecp rfl rfl (fun w hC hm hL => by (first | exact left16c _ _ w | exact left12c _ _ w | exact left8c _ _ w | exact left7c _ _ w)) ?_; intro m' hm'; refine xk ?_; refine xn rfl qia ?_; refine x_b rfl ?_; (first | refine es1 ?_ | refine es2 ?_ | refine es3 ?_); refine x_k (List.nil_sublist _) ?_; refine x_nil ?_) | (refine x_region (id := 5) (some 9) [(0, .n), (1, .n), (2, .n), (3, .q), (4, .n), (5, .n), (6, .q), (7, .n), (8, .n), (9, .b)] _ mixed (by kernel_rfl) (List.Sublist.refl _) ?_; refine xn rfl qm ?_; refine xn rfl qm ?_; refine xn rfl qia ?_; refine xq rfl ql ?_; refine xn rfl qm ?_; refine xn rfl qia ?_; refine xq rfl ql ?_; refine xn rfl qadd32 ?_; refine xn rfl qia ?_; refine x_b rfl ?_; (first | refine es1 ?_ | refine es2 ?_ | refine es3 ?_); refine x_k (List.nil_sublist _) ?_; refine x_nil ?_) | (refine x_region (id := 6) (some 10) [(0, .n), (1, .n), (2, .n), (3, .q), (4, .n), (5, .n), (6, .q), (7, .n), (8, .e), (9, .n), (10, .b)] _ mixed (by kernel_rfl) (List.Sublist.refl _) ?_; refine xn rfl qm ?_; refine xn rfl qm ?_; refine xn rfl qia ?_; refine xq rfl ql ?_; refine xn rfl qm ?_; refine xn rfl qia ?_; refine xq rfl ql ?_; refine xn rfl qxor ?_; refine x_e rfl ?_; refine ecp rfl rfl (fun w hC hm hL => by (first | exact left16c _ _ w | exact left12c _ _ w | exact left8c _ _ w | exact left7c _ _ w)) ?_; intro m' hm'; refine xk ?_; refine xn rfl qia ?_; refine x_b rfl ?_; (first | refine es1 ?_ | refine es2 ?_ | refine es3 ?_); refine x_k (List.nil_sublist _) ?_; refine x_nil ?_) | (refine x_region (id := 7) (some 9) [(0, .n), (1, .n), (2, .n), (3, .q), (4, .n), (5, .n), (6, .q), (7, .n), (8, .n), (9, .b)] _ mixed (by kernel_rfl) (List.Sublist.refl _) ?_; refine xn rfl qm ?_; refine xn rfl qm ?_; refine xn rfl qia ?_; refine xq rfl ql ?_; refine xn rfl qm ?_; refine xn rfl qia ?_; refine xq rfl ql ?_; refine xn rfl qadd32 ?_; refine xn rfl qia ?_; refine x_b rfl ?_; (first | refine es1 ?_ | refine es2 ?_ | refine es3 ?_); refine x_k (List.nil_sublist _) ?_; refine x_nil ?_) | (refine x_region (id := 8) (some 10) [(0, .n), (1, .n), (2, .n), (3, .q), (4, .n), (5, .n), (6, .q), (7, .n), (8, .e), (9, .n), (10, .b)] _ mixed (by kernel_rfl) (List.Sublist.refl _) ?_; refine xn rfl qm ?_; refine xn rfl qm ?_; refine xn rfl qia ?_; refine xq rfl ql ?_; refine xn rfl qm ?_; refine xn rfl qia ?_; refine xq rfl ql ?_; refine xn rfl qxor ?_; refine x_e rfl ?_; refine ecp rfl rfl (fun w hC hm hL => by (first | exact left16c _ _ w | exact left12c _ _ w | exact left8c _ _ w | exact left7c _ _ w)) ?_; intro m' hm'; refine xk ?_; refine xn rfl qia ?_; refine x_b rfl ?_; (first | refine es1 ?_ | refine es2 ?_ | refine es3 ?_); refine x_k (List.nil_sublist _) ?_; refine x_nil ?_) | (refine c_region (id := 9) ?_; refine sq (by first | exact qlb | exact qlr) ?_; refine se ?_; refine esa ?_; refine l_nil ?_) | refine n_then ?_ | refine c_block ?_ | refine c_skip ?_ | refine n_block ?_ | refine c_exit ?_ | refine n_then_exit ?_ | refine n_block_eq ?_ | refine n_block_ne rfl ?_ | refine c_ret ?_ | refine n_then_ret ?_ | refine n_block_ret ?_ | refine c_cond_t rfl ?_ | refine c_cond_f rfl ?_ | refine r_succ ?_ )
  (first | apply r_ret () | apply r_end ()); exact rfl; exact rfl; exact (.row rfl (by (repeat (first | exact List.Mem.head _ | apply List.Mem.tail))) (by rfl) .nil); exact rfl; exact (List.nil_sublist _); exact new_nil; exact trivial
end Go.Proofs.Yteopejjlhmghbaa
namespace Go.Proofs.Yteopejjlhmghbaa
open Go Go.RowKit
def keyA (kb : Nat → Int) : Array Value := #[.int .u8 (kb 0), .int .u8 (kb 1), .int .u8 (kb 2), .int .u8 (kb 3), .int .u8 (kb 4), .int .u8 (kb 5), .int .u8 (kb 6), .int .u8 (kb 7), .int .u8 (kb 8), .int .u8 (kb 9), .int .u8 (kb 10), .int .u8 (kb 11), .int .u8 (kb 12), .int .u8 (kb 13), .int .u8 (kb 14), .int .u8 (kb 15), .int .u8 (kb 16), .int .u8 (kb 17), .int .u8 (kb 18), .int .u8 (kb 19), .int .u8 (kb 20), .int .u8 (kb 21), .int .u8 (kb 22), .int .u8 (kb 23), .int .u8 (kb 24), .int .u8 (kb 25), .int .u8 (kb 26), .int .u8 (kb 27), .int .u8 (kb 28), .int .u8 (kb 29), .int .u8 (kb 30), .int .u8 (kb 31)]
end Go.Proofs.Yteopejjlhmghbaa
namespace Go.Proofs.Yteopejjlhmghbaa
open Go Go.RowKit
set_option linter.unusedVariables false
set_option linter.unusedSimpArgs false
def lw (b0 b1 b2 b3 : Int) : Int := b0 + b1 * 256 + b2 * 65536 + b3 * 16777216
theorem or_sum (b0 b1 b2 b3 : Int) (q0 : 0 ≤ b0 ∧ b0 ≤ 255) (q1 : 0 ≤ b1 ∧ b1 ≤ 255) (q2 : 0 ≤ b2 ∧ b2 ≤ 255) (q3 : 0 ≤ b3 ∧ b3 ≤ 255) : bits .or .u32 (bits .or .u32 (bits .or .u32 b0 (b1 * 256)) (b2 * 65536)) (b3 * 16777216) = lw b0 b1 b2 b3 := by
  obtain ⟨n0, rfl⟩ := Int.eq_ofNat_of_zero_le q0.1
  obtain ⟨n1, rfl⟩ := Int.eq_ofNat_of_zero_le q1.1
  obtain ⟨n2, rfl⟩ := Int.eq_ofNat_of_zero_le q2.1
  obtain ⟨n3, rfl⟩ := Int.eq_ofNat_of_zero_le q3.1
  have e2 : ((n2 : Int) * 65536) = ((n2 * 65536 : Nat) : Int) := by omega
  have e1 : ((n1 : Int) * 256) = ((n1 * 256 : Nat) : Int) := by omega
  have e3 : ((n3 : Int) * 16777216) = ((n3 * 16777216 : Nat) : Int) := by omega
  rw [e2, e1, e3, u32_or_nat n0 (n1 * 256) (by omega) (by omega), or_mul n0 n1 8 256 (by decide) (by omega), u32_or_nat _ (n2 * 65536) (by omega) (by omega), or_mul _ n2 16 65536 (by decide) (by omega), u32_or_nat _ (n3 * 16777216) (by omega) (by omega), or_mul _ n3 24 16777216 (by decide) (by omega)]
  unfold lw
  omega
theorem or_form {b0 b1 b2 b3 : Int} (q0 : 0 ≤ b0 ∧ b0 ≤ 255) (q1 : 0 ≤ b1 ∧ b1 ≤ 255) (q2 : 0 ≤ b2 ∧ b2 ≤ 255) (q3 : 0 ≤ b3 ∧ b3 ≤ 255) : bits .or .u32 (bits .or .u32 (bits .or .u32 (b0 % 4294967296) (b1 % 4294967296 * 2 ^ (8 : Int).toNat % 4294967296)) (b2 % 4294967296 * 2 ^ (16 : Int).toNat % 4294967296)) (b3 % 4294967296 * 2 ^ (24 : Int).toNat % 4294967296) = lw b0 b1 b2 b3 := by
  have e1 : b1 % 4294967296 * 2 ^ (8 : Int).toNat % 4294967296 = b1 * 256 := by show b1 % 4294967296 * 256 % 4294967296 = _; omega
  have e2 : b2 % 4294967296 * 2 ^ (16 : Int).toNat % 4294967296 = b2 * 65536 := by show b2 % 4294967296 * 65536 % 4294967296 = _; omega
  have e3 : b3 % 4294967296 * 2 ^ (24 : Int).toNat % 4294967296 = b3 * 16777216 := by show b3 % 4294967296 * 16777216 % 4294967296 = _; omega
  have e0 : b0 % 4294967296 = b0 := by omega
  rw [e0, e1, e2, e3, or_sum b0 b1 b2 b3 q0 q1 q2 q3]
theorem sum_form {b0 b1 b2 b3 : Int} (q0 : 0 ≤ b0 ∧ b0 ≤ 255) (q1 : 0 ≤ b1 ∧ b1 ≤ 255) (q2 : 0 ≤ b2 ∧ b2 ≤ 255) (q3 : 0 ≤ b3 ∧ b3 ≤ 255) : (((b0 % 4294967296 + b1 % 4294967296 * 256 % 4294967296) % 4294967296 + b2 % 4294967296 * 65536 % 4294967296) % 4294967296 + b3 % 4294967296 * 16777216 % 4294967296) % 4294967296 = lw b0 b1 b2 b3 := by
  unfold lw
  omega
set_option maxRecDepth 100000 in
set_option maxHeartbeats 2000000 in
theorem word_c {g o len cap : Nat} (hl : 4 ≤ len) {b0 b1 b2 b3 : Int} (q0 : 0 ≤ b0 ∧ b0 ≤ 255) (q1 : 0 ≤ b1 ∧ b1 ≤ 255) (q2 : 0 ≤ b2 ∧ b2 ≤ 255) (q3 : 0 ≤ b3 ∧ b3 ≤ 255) (w : World) (hO : Old w g o [.int .u8 b0, .int .u8 b1, .int .u8 b2, .int .u8 b3]) :
    CA Try.prog 75 [.slice (some ⟨g, o, none⟩) len cap] w (RV (.int .u32 (lw b0 b1 b2 b3)) w) := by
  refine enter (L := []) (X := []) Try.func75 rfl Try.ntmps75 rfl rfl (Has.nil _) ?_
  repeat (first | refine c_seq ?_ | (refine c_region (id := 0) ?_; refine sq qa ?_; refine l_nil ?_) | (refine x_region (id := 1) none [(0, .n), (1, .n), (2, .q), (3, .n), (4, .n), (5, .n), (6, .q), (7, .n), (8, .n), (9, .n), (10, .n), (11, .n), (12, .q), (13, .n), (14, .n), (15, .n), (16, .n), (17, .n), (18, .q), (19, .n), (20, .n), (21, .n), (22, .n)] _ mixed (by kernel_rfl) (List.Sublist.refl _) ?_; refine xn rfl qm ?_; refine xn rfl qis ?_; refine xq rfl ql ?_; refine xn rfl qc3 ?_; refine xn rfl qm ?_; refine xn rfl qis ?_; refine xq rfl ql ?_; refine xn rfl qc3 ?_; refine xn rfl qshl32 ?_; refine xn rfl qor ?_; refine xn rfl qm ?_; refine xn rfl qis ?_; refine xq rfl ql ?_; refine xn rfl qc3 ?_; refine xn rfl qshl32 ?_; refine xn rfl qor ?_; refine xn rfl qm ?_; refine xn rfl qis ?_; refine xq rfl ql ?_; refine xn rfl qc3 ?_; refine xn rfl qshl32 ?_; refine xn rfl qor ?_; refine xn rfl qa ?_; refine x_nil ?_) | refine n_then ?_ | refine c_block ?_ | refine c_skip ?_ | refine n_block ?_ | refine c_exit ?_ | refine n_then_exit ?_ | refine n_block_eq ?_ | refine n_block_ne rfl ?_ | refine c_ret ?_ | refine n_then_ret ?_ | refine n_block_ret ?_ | refine c_cond_t rfl ?_ | refine c_cond_f rfl ?_ | refine r_succ ?_ )
  (first | apply r_ret () | apply r_end ()); exact rfl; exact rfl; exact (.tmp rfl .nil); exact (congrArg (Value.int .u32) (or_form q0 q1 q2 q3)); exact (List.nil_sublist _); exact new_nil; exact trivial
set_option maxRecDepth 100000 in
set_option maxHeartbeats 2000000 in
theorem rword_c {g o len cap : Nat} (hl : 4 ≤ len) {b0 b1 b2 b3 : Int} (q0 : 0 ≤ b0 ∧ b0 ≤ 255) (q1 : 0 ≤ b1 ∧ b1 ≤ 255) (q2 : 0 ≤ b2 ∧ b2 ≤ 255) (q3 : 0 ≤ b3 ∧ b3 ≤ 255) (w : World) (hO : Old w g o [.int .u8 b0, .int .u8 b1, .int .u8 b2, .int .u8 b3]) :
    CA Try.prog 53 [.slice (some ⟨g, o, none⟩) len cap] w (RV (.int .u32 (lw b0 b1 b2 b3)) w) := by
  refine enter (L := []) (X := []) Try.func53 rfl Try.ntmps53 rfl rfl (Has.nil _) ?_
  repeat (first | refine c_seq ?_ | (refine c_region (id := 0) ?_; refine sq qa ?_; refine l_nil ?_) | (refine x_region (id := 1) none [(0, .n), (1, .n), (2, .q), (3, .n), (4, .n), (5, .n), (6, .q), (7, .n), (8, .n), (9, .n), (10, .n), (11, .n), (12, .q), (13, .n), (14, .n), (15, .n), (16, .n), (17, .n), (18, .q), (19, .n), (20, .n), (21, .n), (22, .n)] _ mixed (by kernel_rfl) (List.Sublist.refl _) ?_; refine xn rfl qm ?_; refine xn rfl qis ?_; refine xq rfl ql ?_; refine xn rfl qc3 ?_; refine xn rfl qm ?_; refine xn rfl qis ?_; refine xq rfl ql ?_; refine xn rfl qc3 ?_; refine xn rfl qmul32 ?_; refine xn rfl qadd32 ?_; refine xn rfl qm ?_; refine xn rfl qis ?_; refine xq rfl ql ?_; refine xn rfl qc3 ?_; refine xn rfl qmul32 ?_; refine xn rfl qadd32 ?_; refine xn rfl qm ?_; refine xn rfl qis ?_; refine xq rfl ql ?_; refine xn rfl qc3 ?_; refine xn rfl qmul32 ?_; refine xn rfl qadd32 ?_; refine xn rfl qa ?_; refine x_nil ?_) | refine n_then ?_ | refine c_block ?_ | refine c_skip ?_ | refine n_block ?_ | refine c_exit ?_ | refine n_then_exit ?_ | refine n_block_eq ?_ | refine n_block_ne rfl ?_ | refine c_ret ?_ | refine n_then_ret ?_ | refine n_block_ret ?_ | refine c_cond_t rfl ?_ | refine c_cond_f rfl ?_ | refine r_succ ?_ )
  (first | apply r_ret () | apply r_end ()); exact rfl; exact rfl; exact (.tmp rfl .nil); exact (congrArg (Value.int .u32) (sum_form q0 q1 q2 q3)); exact (List.nil_sublist _); exact new_nil; exact trivial
def byt (x : Int) (j : Nat) : Int := x / 2 ^ (8 * j) % 256
set_option maxRecDepth 100000 in
set_option maxHeartbeats 2000000 in
theorem putWord_c {g o len cap : Nat} (hl : 4 ≤ len) (x : Int) {cs : Array Value} {t : TypeId} (w : World) (hL : Has [.blk g (.cells cs t (0, 0))] w) (ho : o + 4 ≤ cs.size) :
    CA Try.prog 66 [.slice (some ⟨g, o, none⟩) len cap, .int .u32 x] w (RU (.tuple #[]) g (.cells (setA cs o [.int .u8 (byt x 0), .int .u8 (byt x 1), .int .u8 (byt x 2), .int .u8 (byt x 3)]) t (0, 0)) w) := by
  refine enter (L := _) (X := [g]) Try.func66 rfl Try.ntmps66 rfl rfl hL ?_
  repeat (first | refine c_rounds 5 ?_ | refine c_seq ?_ | (refine c_region (id := 0) ?_; refine sq qm ?_; refine l_nil ?_) | (refine c_region (id := 1) ?_; refine sq qlss ?_; refine l_nil ?_) | (refine c_region (id := 2) ?_; refine sq qm ?_; refine sq qa ?_; refine l_nil ?_) | (refine c_region (id := 3) ?_; refine sq qm ?_; refine sq qm ?_; refine sq qm ?_; refine sq qm ?_; refine sq qmul64 ?_; refine sq qshr ?_; refine sq qc8 ?_; refine sq qis ?_; refine se ?_; (first | refine es1 ?_ | refine es2 ?_ | refine es3 ?_); refine l_nil ?_) | (refine c_region (id := 4) ?_; refine sq qadd64 ?_; refine sq qm ?_; refine l_nil ?_) | refine n_then ?_ | refine c_block ?_ | refine c_skip ?_ | refine n_block ?_ | refine c_exit ?_ | refine n_then_exit ?_ | refine n_block_eq ?_ | refine n_block_ne rfl ?_ | refine c_ret ?_ | refine n_then_ret ?_ | refine n_block_ret ?_ | refine c_cond_t rfl ?_ | refine c_cond_f rfl ?_ | refine r_succ ?_ )
  (first | apply r_ret () | apply r_end ()); exact rfl; exact rfl; exact .nil; exact rfl; exact (List.Sublist.refl _); exact (new_blk (.inl (by simp)) new_nil); exact trivial
def nonA (nb : Nat → Int) : Array Value := #[.int .u8 (nb 0), .int .u8 (nb 1), .int .u8 (nb 2), .int .u8 (nb 3), .int .u8 (nb 4), .int .u8 (nb 5), .int .u8 (nb 6), .int .u8 (nb 7), .int .u8 (nb 8), .int .u8 (nb 9), .int .u8 (nb 10), .int .u8 (nb 11)]
def rowL (s : List Int) : Array Value := (s.map (Value.int .u32)).toArray
def s0 (kb nb : Nat → Int) (c : Int) : List Int := [1634760805, 857760878, 2036477234, 1797285236, lw (kb 0) (kb 1) (kb 2) (kb 3), lw (kb 4) (kb 5) (kb 6) (kb 7), lw (kb 8) (kb 9) (kb 10) (kb 11), lw (kb 12) (kb 13) (kb 14) (kb 15), lw (kb 16) (kb 17) (kb 18) (kb 19), lw (kb 20) (kb 21) (kb 22) (kb 23), lw (kb 24) (kb 25) (kb 26) (kb 27), lw (kb 28) (kb 29) (kb 30) (kb 31), c, lw (nb 0) (nb 1) (nb 2) (nb 3), lw (nb 4) (nb 5) (nb 6) (nb 7), lw (nb 8) (nb 9) (nb 10) (nb 11)]
set_option maxRecDepth 100000 in
set_option maxHeartbeats 2000000 in
theorem state_c (kb nb : Nat → Int) (hk : ∀ i, 0 ≤ kb i ∧ kb i ≤ 255) (hn : ∀ i, 0 ≤ nb i ∧ nb i ≤ 255) (c : Int) (w : World) :
    CA Try.prog 64 [.agg (keyA kb), .agg (nonA nb), .int .u32 c] w (RV (.agg (rowL (s0 kb nb c))) w) := by
  refine enter (L := []) (X := []) Try.func64 rfl Try.ntmps64 rfl rfl (Has.nil _) ?_
  repeat (first | refine c_rounds 9 ?_ | refine c_seq ?_ | (refine c_region (id := 0) ?_; refine se ?_; refine eb ?_; refine se ?_; refine eb ?_; refine se ?_; refine ea ?_; refine l_nil ?_) | (refine c_region (id := 1) ?_; refine sq qba ?_; refine se ?_; refine ea ?_; refine se ?_; refine esa ?_; refine l_nil ?_) | (refine c_region (id := 2) ?_; refine sq qm ?_; refine l_nil ?_) | (refine c_region (id := 3) ?_; refine sq qlss ?_; refine l_nil ?_) | (refine c_region (id := 4) ?_; refine sq qm ?_; refine sq qa ?_; refine l_nil ?_) | (refine c_region (id := 5) ?_; refine sq qm ?_; refine sq qadd64 ?_; refine sq qm ?_; refine sq qmul64 ?_; refine sq qsa ?_; refine se ?_; refine ecp rfl rfl (fun w hC hm hL => by first | exact word_c (by omega) (hk _) (hk _) (hk _) (hk _) w (hL.old (k := 4) (by (repeat (first | exact List.Mem.head _ | apply List.Mem.tail))) (by rfl)) | exact word_c (by omega) (hn _) (hn _) (hn _) (hn _) w (hL.old (k := 4) (by (repeat (first | exact List.Mem.head _ | apply List.Mem.tail))) (by rfl))) ?_; intro m' hm'; refine sq qia ?_; refine se ?_; (first | refine es1 ?_ | refine es2 ?_ | refine es3 ?_); refine l_nil ?_) | (refine c_region (id := 6) ?_; refine sq qadd64 ?_; refine sq qm ?_; refine l_nil ?_) | (refine c_region (id := 7) ?_; refine sq qm ?_; refine sq qia ?_; refine se ?_; (first | refine es1 ?_ | refine es2 ?_ | refine es3 ?_); refine l_nil ?_) | (refine c_region (id := 8) ?_; refine sq qm ?_; refine l_nil ?_) | (refine c_region (id := 9) ?_; refine sq qlss ?_; refine l_nil ?_) | (refine c_region (id := 10) ?_; refine sq qm ?_; refine sq qa ?_; refine l_nil ?_) | (refine c_region (id := 11) ?_; refine sq qm ?_; refine sq qadd64 ?_; refine sq qm ?_; refine sq qmul64 ?_; refine sq qsa ?_; refine se ?_; refine ecp rfl rfl (fun w hC hm hL => by first | exact word_c (by omega) (hk _) (hk _) (hk _) (hk _) w (hL.old (k := 4) (by (repeat (first | exact List.Mem.head _ | apply List.Mem.tail))) (by rfl)) | exact word_c (by omega) (hn _) (hn _) (hn _) (hn _) w (hL.old (k := 4) (by (repeat (first | exact List.Mem.head _ | apply List.Mem.tail))) (by rfl))) ?_; intro m' hm'; refine sq qia ?_; refine se ?_; (first | refine es1 ?_ | refine es2 ?_ | refine es3 ?_); refine l_nil ?_) | (refine c_region (id := 12) ?_; refine sq qadd64 ?_; refine sq qm ?_; refine l_nil ?_) | (refine c_region (id := 13) ?_; refine sq (by first | exact qlb | exact qlr) ?_; refine se ?_; refine esa ?_; refine l_nil ?_) | refine n_then ?_ | refine c_block ?_ | refine c_skip ?_ | refine n_block ?_ | refine c_exit ?_ | refine n_then_exit ?_ | refine n_block_eq ?_ | refine n_block_ne rfl ?_ | refine c_ret ?_ | refine n_then_ret ?_ | refine n_block_ret ?_ | refine c_cond_t rfl ?_ | refine c_cond_f rfl ?_ | refine r_succ ?_ )
  (first | apply r_ret () | apply r_end ()); exact rfl; exact rfl; exact (.row rfl (by (repeat (first | exact List.Mem.head _ | apply List.Mem.tail))) (by rfl) .nil); exact rfl; exact (List.nil_sublist _); exact new_nil; exact trivial
end Go.Proofs.Yteopejjlhmghbaa
namespace Go.Proofs.Yteopejjlhmghbaa
open Go Go.RowKit
set_option linter.unusedVariables false
set_option linter.unusedSimpArgs false
def nz (n : Nat) : Nat := (16 - n % 16) % 16
theorem nz_lt (n : Nat) : nz n < 16 := Nat.mod_lt _ (by decide)
set_option maxRecDepth 100000 in
set_option maxHeartbeats 4000000 in
theorem noughts_c (n : Nat) (hn : n ≤ 1000000) (w : World) :
    CA Try.prog 50 [.int .i64 (n : Int)] w (Ret (fun g : Nat => .slice (some ⟨g, 0, none⟩) (nz n) (nz n)) [] (fun g => [.sl (some ⟨g, 0, none⟩) (nz n) 5 1 ((List.replicate (nz n) (0 : Int)).map (Value.int .u8))]) (fun _ => True) w) := by
  have hnz : nz n = (16 - n % 16) % 16 := rfl
  refine enter (L := []) (X := []) Try.func50 rfl Try.ntmps50 rfl rfl (Has.nil _) ?_
  repeat (first | refine c_seq ?_ | (refine c_region (id := 0) ?_; refine sq qa ?_; refine l_nil ?_) | (refine c_region (id := 1) ?_; refine sq qm ?_; refine sq (by exact Qt.cast (v' := .int .i64 ((n % 16 : Nat) : Int)) (congrArg (Value.int .i64) (by omega)) (q_rem rfl rfl (by omega) (by omega))) ?_; refine sq qsub64 ?_; refine sq (by exact Qt.cast (v' := .int .i64 ((nz n : Nat) : Int)) (congrArg (Value.int .i64) (by omega)) (q_rem rfl rfl (by omega) (by omega))) ?_; refine se ?_; (first | refine em ?_ | refine emi ?_); refine sq qa ?_; refine l_nil ?_) | refine n_then ?_ | refine c_block ?_ | refine c_skip ?_ | refine n_block ?_ | refine c_exit ?_ | refine n_then_exit ?_ | refine n_block_eq ?_ | refine n_block_ne rfl ?_ | refine c_ret ?_ | refine n_then_ret ?_ | refine n_block_ret ?_ | refine c_cond_t rfl ?_ | refine c_cond_f rfl ?_ | refine r_succ ?_ )
  refine chg (L' := [.sl (some ⟨w.heap.size, 0, none⟩) (nz n) 5 1 ((List.replicate (nz n) (0 : Int)).map (Value.int .u8))]) (by rw [List.map_replicate]) ?_
  (first | apply r_ret w.heap.size | apply r_end w.heap.size); exact rfl; exact rfl; exact (.tmp rfl .nil); exact rfl; exact (by exact (by (repeat (first | exact List.nil_sublist _ | exact List.Sublist.slnil | apply List.Sublist.cons_cons | exact List.Sublist.refl _ | apply List.Sublist.cons)))); exact (by intro g hg; simp [feet, Chunk.foot] at hg; exact .inr (by omega)); exact trivial
def lil (n : Nat) : List Int := (List.range 8).map fun i => ((n / 256 ^ i % 256 : Nat) : Int)
theorem lil_eq (n : Nat) : lil n = [((n : Nat) : Int) / 2 ^ (0 : Int).toNat % 256, ((n : Nat) : Int) / 2 ^ (8 : Int).toNat % 256, ((n : Nat) : Int) / 2 ^ (16 : Int).toNat % 256, ((n : Nat) : Int) / 2 ^ (24 : Int).toNat % 256, ((n : Nat) : Int) / 2 ^ (32 : Int).toNat % 256, ((n : Nat) : Int) / 2 ^ (40 : Int).toNat % 256, ((n : Nat) : Int) / 2 ^ (48 : Int).toNat % 256, ((n : Nat) : Int) / 2 ^ (56 : Int).toNat % 256] := by
  have e0 : ((n : Nat) : Int) / 2 ^ (0 : Int).toNat % 256 = ((n / 256 ^ 0 % 256 : Nat) : Int) := by show ((n : Nat) : Int) / 1 % 256 = ((n / 1 % 256 : Nat) : Int); omega
  have e1 : ((n : Nat) : Int) / 2 ^ (8 : Int).toNat % 256 = ((n / 256 ^ 1 % 256 : Nat) : Int) := by show ((n : Nat) : Int) / 256 % 256 = ((n / 256 % 256 : Nat) : Int); omega
  have e2 : ((n : Nat) : Int) / 2 ^ (16 : Int).toNat % 256 = ((n / 256 ^ 2 % 256 : Nat) : Int) := by show ((n : Nat) : Int) / 65536 % 256 = ((n / 65536 % 256 : Nat) : Int); omega
  have e3 : ((n : Nat) : Int) / 2 ^ (24 : Int).toNat % 256 = ((n / 256 ^ 3 % 256 : Nat) : Int) := by show ((n : Nat) : Int) / 16777216 % 256 = ((n / 16777216 % 256 : Nat) : Int); omega
  have e4 : ((n : Nat) : Int) / 2 ^ (32 : Int).toNat % 256 = ((n / 256 ^ 4 % 256 : Nat) : Int) := by show ((n : Nat) : Int) / 4294967296 % 256 = ((n / 4294967296 % 256 : Nat) : Int); omega
  have e5 : ((n : Nat) : Int) / 2 ^ (40 : Int).toNat % 256 = ((n / 256 ^ 5 % 256 : Nat) : Int) := by show ((n : Nat) : Int) / 1099511627776 % 256 = ((n / 1099511627776 % 256 : Nat) : Int); omega
  have e6 : ((n : Nat) : Int) / 2 ^ (48 : Int).toNat % 256 = ((n / 256 ^ 6 % 256 : Nat) : Int) := by show ((n : Nat) : Int) / 281474976710656 % 256 = ((n / 281474976710656 % 256 : Nat) : Int); omega
  have e7 : ((n : Nat) : Int) / 2 ^ (56 : Int).toNat % 256 = ((n / 256 ^ 7 % 256 : Nat) : Int) := by show ((n : Nat) : Int) / 72057594037927936 % 256 = ((n / 72057594037927936 % 256 : Nat) : Int); omega
  rw [e0, e1, e2, e3, e4, e5, e6, e7]
  rfl
set_option maxRecDepth 100000 in
set_option maxHeartbeats 4000000 in
theorem lengths_c (a b : Nat) (ha : a ≤ 1000000) (hb : b ≤ 1000000) (w : World) :
    CA Try.prog 51 [.int .i64 (a : Int), .int .i64 (b : Int)] w (Ret (fun g : Nat => .slice (some ⟨g, 0, none⟩) 16 16) [] (fun g => [.blk g (.cells ((lil a ++ lil b).map (Value.int .u8)).toArray 5 (0, 0))]) (fun _ => True) w) := by
  refine enter (L := []) (X := []) Try.func51 rfl Try.ntmps51 rfl rfl (Has.nil _) ?_
  repeat (first | refine c_seq ?_ | (refine c_region (id := 0) ?_; refine sq qa ?_; refine l_nil ?_) | (refine c_region (id := 1) ?_; refine se ?_; (first | refine em ?_ | refine emi ?_); refine sq qa ?_; refine l_nil ?_) | refine n_then ?_ | refine c_block ?_ | refine c_skip ?_ | refine n_block ?_ | refine c_exit ?_ | refine n_then_exit ?_ | refine n_block_eq ?_ | refine n_block_ne rfl ?_ | refine c_ret ?_ | refine n_then_ret ?_ | refine n_block_ret ?_ | refine c_cond_t rfl ?_ | refine c_cond_f rfl ?_ | refine r_succ ?_ )
  refine chg (L' := [.sl (some ⟨w.heap.size, 0, none⟩) 16 5 1 [.int .u8 0, .int .u8 0, .int .u8 0, .int .u8 0, .int .u8 0, .int .u8 0, .int .u8 0, .int .u8 0, .int .u8 0, .int .u8 0, .int .u8 0, .int .u8 0, .int .u8 0, .int .u8 0, .int .u8 0, .int .u8 0]]) rfl ?_
  refine slblk (g := w.heap.size) (cap := 16) (xs := [.int .u8 0, .int .u8 0, .int .u8 0, .int .u8 0, .int .u8 0, .int .u8 0, .int .u8 0, .int .u8 0, .int .u8 0, .int .u8 0, .int .u8 0, .int .u8 0, .int .u8 0, .int .u8 0, .int .u8 0, .int .u8 0]) (by rfl) (by (repeat (first | exact Pl.here | apply Pl.there))) ?_
  repeat (first | refine c_rounds 9 ?_ | refine c_seq ?_ | (refine c_region (id := 2) ?_; refine sq qm ?_; refine l_nil ?_) | (refine c_region (id := 3) ?_; refine sq qlss ?_; refine l_nil ?_) | (refine c_region (id := 4) ?_; refine sq qm ?_; refine sq qa ?_; refine l_nil ?_) | (refine c_region (id := 5) ?_; refine sq qm ?_; refine sq qm ?_; refine sq qm ?_; refine sq qm ?_; refine sq qmul64 ?_; refine sq qshr ?_; refine sq qc8 ?_; refine sq qis ?_; refine se ?_; (first | refine es1 ?_ | refine es2 ?_ | refine es3 ?_); refine l_nil ?_) | (refine c_region (id := 6) ?_; refine sq qm ?_; refine sq qm ?_; refine sq qadd64 ?_; refine sq qm ?_; refine sq qm ?_; refine sq qmul64 ?_; refine sq qshr ?_; refine sq qc8 ?_; refine sq qis ?_; refine se ?_; (first | refine es1 ?_ | refine es2 ?_ | refine es3 ?_); refine l_nil ?_) | (refine c_region (id := 7) ?_; refine sq qadd64 ?_; refine sq qm ?_; refine l_nil ?_) | (refine c_region (id := 8) ?_; refine sq qm ?_; refine sq qa ?_; refine l_nil ?_) | refine n_then ?_ | refine c_block ?_ | refine c_skip ?_ | refine n_block ?_ | refine c_exit ?_ | refine n_then_exit ?_ | refine n_block_eq ?_ | refine n_block_ne rfl ?_ | refine c_ret ?_ | refine n_then_ret ?_ | refine n_block_ret ?_ | refine c_cond_t rfl ?_ | refine c_cond_f rfl ?_ | refine r_succ ?_ )
  refine chg (L' := [.blk w.heap.size (.cells ((lil a ++ lil b).map (Value.int .u8)).toArray 5 (0, 0))]) (by rw [lil_eq, lil_eq]; rfl) ?_
  (first | apply r_ret w.heap.size | apply r_end w.heap.size); exact rfl; exact rfl; exact (.tmp rfl .nil); exact rfl; exact (by exact (by (repeat (first | exact List.nil_sublist _ | exact List.Sublist.slnil | apply List.Sublist.cons_cons | exact List.Sublist.refl _ | apply List.Sublist.cons)))); exact (by intro g hg; simp [feet, Chunk.foot] at hg; exact .inr (by omega)); exact trivial
def nonL (a s : Int) : List Int := [a / 2 ^ (24 : Int).toNat % 256, a / 2 ^ (16 : Int).toNat % 256, a / 2 ^ (8 : Int).toNat % 256, a / 2 ^ (0 : Int).toNat % 256, s / 2 ^ (56 : Int).toNat % 256, s / 2 ^ (48 : Int).toNat % 256, s / 2 ^ (40 : Int).toNat % 256, s / 2 ^ (32 : Int).toNat % 256, s / 2 ^ (24 : Int).toNat % 256, s / 2 ^ (16 : Int).toNat % 256, s / 2 ^ (8 : Int).toNat % 256, s / 2 ^ (0 : Int).toNat % 256]
def nonB (a s : Int) (i : Nat) : Int := (nonL a s).getD i 0
theorem nonB_bd (a s : Int) (i : Nat) : 0 ≤ nonB a s i ∧ nonB a s i ≤ 255 := by
  unfold nonB
  rw [List.getD_eq_getElem?_getD]
  cases hi : (nonL a s)[i]? with
  | none => simp
  | some x =>
    have := List.mem_of_getElem? hi
    simp only [nonL, List.mem_cons, List.not_mem_nil, or_false] at this
    simp only [Option.getD_some]
    rcases this with rfl | rfl | rfl | rfl | rfl | rfl | rfl | rfl | rfl | rfl | rfl | rfl <;> omega
set_option maxRecDepth 100000 in
set_option maxHeartbeats 4000000 in
theorem nonce_c (a s : Int) (ha : -9223372036854775808 ≤ a ∧ a ≤ 9223372036854775807) (hs : 0 ≤ s ∧ s ≤ 18446744073709551615) (w : World) :
    CA Try.prog 10 [.int .i64 a, .int .u64 s] w (RV (.agg (nonA (nonB a s))) w) := by
  refine enter (L := []) (X := []) Try.func10 rfl Try.ntmps10 rfl rfl (Has.nil _) ?_
  repeat (first | refine c_rounds 5 ?_ | refine c_seq ?_ | (refine c_region (id := 0) ?_; refine se ?_; refine ea ?_; refine l_nil ?_) | (refine c_region (id := 1) ?_; refine se ?_; refine ea ?_; refine l_nil ?_) | (refine c_region (id := 2) ?_; refine sq qm ?_; refine l_nil ?_) | (refine c_region (id := 3) ?_; refine sq qlss ?_; refine l_nil ?_) | (refine c_region (id := 4) ?_; refine sq qm ?_; refine sq qa ?_; refine l_nil ?_) | (refine c_region (id := 5) ?_; refine sq qm ?_; refine sq qsub64 ?_; refine sq qm ?_; refine sq qm ?_; refine sq qmul64 ?_; refine sq qshr ?_; refine sq qc8 ?_; refine sq qia ?_; refine se ?_; (first | refine es1 ?_ | refine es2 ?_ | refine es3 ?_); refine l_nil ?_) | (refine c_region (id := 6) ?_; refine sq qadd64 ?_; refine sq qm ?_; refine l_nil ?_) | refine n_then ?_ | refine c_block ?_ | refine c_skip ?_ | refine n_block ?_ | refine c_exit ?_ | refine n_then_exit ?_ | refine n_block_eq ?_ | refine n_block_ne rfl ?_ | refine c_ret ?_ | refine n_then_ret ?_ | refine n_block_ret ?_ | refine c_cond_t rfl ?_ | refine c_cond_f rfl ?_ | refine r_succ ?_ )
  repeat (first | refine c_rounds 9 ?_ | refine c_seq ?_ | (refine c_region (id := 7) ?_; refine sq qm ?_; refine l_nil ?_) | (refine c_region (id := 8) ?_; refine sq qlss ?_; refine l_nil ?_) | (refine c_region (id := 9) ?_; refine sq qm ?_; refine sq qa ?_; refine l_nil ?_) | (refine c_region (id := 10) ?_; refine sq qm ?_; refine sq qsub64 ?_; refine sq qm ?_; refine sq qm ?_; refine sq qmul64 ?_; refine sq qshr ?_; refine sq qc8 ?_; refine sq qia ?_; refine se ?_; (first | refine es1 ?_ | refine es2 ?_ | refine es3 ?_); refine l_nil ?_) | (refine c_region (id := 11) ?_; refine sq qadd64 ?_; refine sq qm ?_; refine l_nil ?_) | (refine c_region (id := 12) ?_; refine sq (by first | exact qlb | exact qlr) ?_; refine se ?_; refine esa ?_; refine l_nil ?_) | refine n_then ?_ | refine c_block ?_ | refine c_skip ?_ | refine n_block ?_ | refine c_exit ?_ | refine n_then_exit ?_ | refine n_block_eq ?_ | refine n_block_ne rfl ?_ | refine c_ret ?_ | refine n_then_ret ?_ | refine n_block_ret ?_ | refine c_cond_t rfl ?_ | refine c_cond_f rfl ?_ | refine r_succ ?_ )
  (first | apply r_ret () | apply r_end ()); exact rfl; exact rfl; exact (.row rfl (by (repeat (first | exact List.Mem.head _ | apply List.Mem.tail))) (by rfl) .nil); exact rfl; exact (List.nil_sublist _); exact new_nil; exact trivial
theorem ref_non (a s : Int) : ([(a % 4294967296) / 2 ^ (24 % 4294967296 : Int).toNat % 256, (a % 4294967296) / 2 ^ (16 % 4294967296 : Int).toNat % 256, (a % 4294967296) / 2 ^ (8 % 4294967296 : Int).toNat % 256, (a % 4294967296) / 2 ^ (0 % 4294967296 : Int).toNat % 256, s / 2 ^ (56 % 18446744073709551616 : Int).toNat % 256, s / 2 ^ (48 % 18446744073709551616 : Int).toNat % 256, s / 2 ^ (40 % 18446744073709551616 : Int).toNat % 256, s / 2 ^ (32 % 18446744073709551616 : Int).toNat % 256, s / 2 ^ (24 % 18446744073709551616 : Int).toNat % 256, s / 2 ^ (16 % 18446744073709551616 : Int).toNat % 256, s / 2 ^ (8 % 18446744073709551616 : Int).toNat % 256, s / 2 ^ (0 % 18446744073709551616 : Int).toNat % 256] : List Int) = nonL a s := by
  have e0 : (a % 4294967296) / 2 ^ (24 % 4294967296 : Int).toNat % 256 = a / 2 ^ (24 : Int).toNat % 256 := by show (a % 4294967296) / 16777216 % 256 = a / 16777216 % 256; omega
  have e1 : (a % 4294967296) / 2 ^ (16 % 4294967296 : Int).toNat % 256 = a / 2 ^ (16 : Int).toNat % 256 := by show (a % 4294967296) / 65536 % 256 = a / 65536 % 256; omega
  have e2 : (a % 4294967296) / 2 ^ (8 % 4294967296 : Int).toNat % 256 = a / 2 ^ (8 : Int).toNat % 256 := by show (a % 4294967296) / 256 % 256 = a / 256 % 256; omega
  have e3 : (a % 4294967296) / 2 ^ (0 % 4294967296 : Int).toNat % 256 = a / 2 ^ (0 : Int).toNat % 256 := by show (a % 4294967296) / 1 % 256 = a / 1 % 256; omega
  rw [e0, e1, e2, e3]
  rfl
set_option maxRecDepth 100000 in
set_option maxHeartbeats 4000000 in
theorem rnonce_c (a s : Int) (hs : 0 ≤ s ∧ s ≤ 18446744073709551615) (w : World) :
    CA Try.prog 12 [.int .u32 (a % 4294967296), .int .u64 s] w (RV (.agg (nonA (nonB a s))) w) := by
  obtain ⟨x, hx⟩ : ∃ x, x = a % 4294967296 := ⟨_, rfl⟩
  have h1 := ref_non a s
  rw [← hx] at h1 ⊢
  have hx2 : 0 ≤ x ∧ x ≤ 4294967295 := by omega
  clear hx
  obtain ⟨l, hl⟩ : ∃ l, l = nonL a s := ⟨_, rfl⟩
  have hv : nonA (nonB a s) = (l.map (Value.int .u8)).toArray := by rw [hl]; rfl
  rw [hv]
  rw [← hl] at h1
  subst h1
  clear hl hv
  refine enter (L := []) (X := []) Try.func12 rfl Try.ntmps12 rfl rfl (Has.nil _) ?_
  repeat (first | refine c_rounds 5 ?_ | refine c_seq ?_ | (refine c_region (id := 0) ?_; refine se ?_; refine ea ?_; refine l_nil ?_) | (refine c_region (id := 1) ?_; refine se ?_; refine ea ?_; refine l_nil ?_) | (refine c_region (id := 2) ?_; refine sq qa ?_; refine l_nil ?_) | (refine c_region (id := 3) ?_; refine sq qm ?_; refine sq qlss ?_; refine l_nil ?_) | (refine c_region (id := 4) ?_; refine sq qm ?_; refine sq qadd64 ?_; refine sq qa ?_; refine l_nil ?_) | (refine c_region (id := 5) ?_; refine sq qm ?_; refine sq qm ?_; refine sq qm ?_; refine sq qmul64 ?_; refine sq qsub64 ?_; refine sq qc3 ?_; refine sq qshr ?_; refine sq qc8 ?_; refine sq qia ?_; refine se ?_; (first | refine es1 ?_ | refine es2 ?_ | refine es3 ?_); refine l_nil ?_) | refine n_then ?_ | refine c_block ?_ | refine c_skip ?_ | refine n_block ?_ | refine c_exit ?_ | refine n_then_exit ?_ | refine n_block_eq ?_ | refine n_block_ne rfl ?_ | refine c_ret ?_ | refine n_then_ret ?_ | refine n_block_ret ?_ | refine c_cond_t rfl ?_ | refine c_cond_f rfl ?_ | refine r_succ ?_ )
  repeat (first | refine c_rounds 9 ?_ | refine c_seq ?_ | (refine c_region (id := 6) ?_; refine sq qa ?_; refine l_nil ?_) | (refine c_region (id := 7) ?_; refine sq qm ?_; refine sq qlss ?_; refine l_nil ?_) | (refine c_region (id := 8) ?_; refine sq qm ?_; refine sq qadd64 ?_; refine sq qa ?_; refine l_nil ?_) | (refine c_region (id := 9) ?_; refine sq qm ?_; refine sq qadd64 ?_; refine sq qm ?_; refine sq qm ?_; refine sq qmul64 ?_; refine sq qsub64 ?_; refine sq qcU ?_; refine sq qshr ?_; refine sq qc8 ?_; refine sq qia ?_; refine se ?_; (first | refine es1 ?_ | refine es2 ?_ | refine es3 ?_); refine l_nil ?_) | (refine c_region (id := 10) ?_; refine sq (by first | exact qlb | exact qlr) ?_; refine se ?_; refine esa ?_; refine l_nil ?_) | refine n_then ?_ | refine c_block ?_ | refine c_skip ?_ | refine n_block ?_ | refine c_exit ?_ | refine n_then_exit ?_ | refine n_block_eq ?_ | refine n_block_ne rfl ?_ | refine c_ret ?_ | refine n_then_ret ?_ | refine n_block_ret ?_ | refine c_cond_t rfl ?_ | refine c_cond_f rfl ?_ | refine r_succ ?_ )
  (first | apply r_ret () | apply r_end ()); exact rfl; exact rfl; exact (.row rfl (by (repeat (first | exact List.Mem.head _ | apply List.Mem.tail))) (by rfl) .nil); exact rfl; exact (List.nil_sublist _); exact new_nil; exact trivial
def lilk (n i : Nat) : List Int := (List.range i).map fun j => ((n / 256 ^ j % 256 : Nat) : Int)
theorem lilk_succ (n i : Nat) : lilk n (i + 1) = lilk n i ++ [((n / 256 ^ i % 256 : Nat) : Int)] := by
  unfold lilk; rw [List.range_succ, List.map_append]; rfl
set_option maxRecDepth 100000 in
set_option maxHeartbeats 4000000 in
theorem little_c (n : Nat) (hn : n ≤ 1000000) (w : World) :
    CA Try.prog 34 [.int .i64 (n : Int)] w (RLe (Value.int .u8) 5 (fun zs => zs = lil n) w) := by
  refine enter (L := []) (X := []) Try.func34 rfl Try.ntmps34 rfl rfl (Has.nil _) ?_
  repeat (first | refine c_seq ?_ | (refine c_region (id := 0) ?_; refine sq qa ?_; refine l_nil ?_) | (refine c_region (id := 1) ?_; refine sq qa ?_; refine l_nil ?_) | (refine c_region (id := 2) ?_; refine sq qa ?_; refine l_nil ?_) | refine n_then ?_ | refine c_block ?_ | refine c_skip ?_ | refine n_block ?_ | refine c_exit ?_ | refine n_then_exit ?_ | refine n_block_eq ?_ | refine n_block_ne rfl ?_ | refine c_ret ?_ | refine n_then_ret ?_ | refine n_block_ret ?_ | refine c_cond_t rfl ?_ | refine c_cond_f rfl ?_ | refine r_succ ?_ )
  refine add_nil 5 1 ?_
  refine c_loop (γ := Nat × Option Addr × Nat × Nat) (fun z => [(4, .int .i64 z.1), (3, .slice z.2.1 z.1 z.2.2.1), (0, .int .i64 ((n / 256 ^ z.1 : Nat) : Int))]) (fun z => z.2.2.2) (fun z => [.sl z.2.1 z.2.2.1 5 1 ((lilk n z.1).map (Value.int .u8))]) (fun z => z.1 ≤ 8 ∧ OS [] w.heap.size z.2.1 z.2.2.1 z.1 ∧ w.heap.size ≤ z.2.2.2) (fun z => 8 - z.1) ⟨0, none, 0, w.heap.size⟩ ⟨by simp, OS.nil _ _, by simp⟩ ⟨rfl, rfl, by simp only [Nat.pow_zero, Nat.div_one]; rfl, trivial⟩ rfl (by (repeat (first | exact List.nil_sublist _ | exact List.Sublist.slnil | apply List.Sublist.cons_cons | exact List.Sublist.refl _ | apply List.Sublist.cons))) ?_
  rintro ⟨i, b, cap, mm⟩ ⟨hi, ho, hmm⟩
  dsimp only at hi ho hmm ⊢
  have hll : (lilk n i).length = i := by simp [lilk]
  by_cases h8 : i < 8
  · obtain ⟨q, hq⟩ : ∃ q, q = n / 256 ^ i := ⟨_, rfl⟩
    have hq9 : q ≤ 1000000 := by rw [hq]; exact Nat.le_trans (Nat.div_le_self _ _) hn
    have hq2 : n / 256 ^ (i + 1) = q / 256 := by rw [hq, Nat.pow_succ, Nat.div_div_eq_div_mul]
    have hls := lilk_succ n i
    rw [← hq] at hls ⊢
    repeat (first | refine c_seq ?_ | (refine c_region (id := 3) ?_; refine sq qm ?_; refine sq (by first | exact dlsst | exact dlssf) ?_; refine l_nil ?_) | (refine c_region (id := 4) ?_; refine sq qm ?_; refine sq (by exact Qt.cast (v' := .int .i64 ((i + 1 : Nat) : Int)) (congrArg (Value.int .i64) (by omega)) (q_add64 rfl rfl ⟨by omega, by omega⟩ rfl)) ?_; refine sq qa ?_; refine l_nil ?_) | (refine c_region (id := 5) ?_; refine sq qm ?_; refine sq qm ?_; refine sq (by exact Qt.cast (v' := .int .i64 ((q % 256 : Nat) : Int)) (congrArg (Value.int .i64) (by omega)) (q_rem rfl rfl (by omega) (by omega))) ?_; refine sq (by exact Qt.cast (v' := .int .u8 ((q % 256 : Nat) : Int)) (congrArg (Value.int .u8) (by omega)) (q_conv8 rfl)) ?_; refine se ?_; refine ebs ?_; refine se ?_; refine e_appM (Value.int .u8) (lilk n i) ((q % 256 : Nat) : Int) rfl rfl rfl (by (repeat (first | exact Rm.here | apply Rm.there))) (by (repeat (first | exact List.Mem.head _ | apply List.Mem.tail))) hll ho (by rfl) (by omega) (by omega) ?_; intro b2 cap2 m2 ho2 hm2; refine sq qa ?_; refine l_nil ?_) | (refine c_region (id := 6) ?_; refine sq qm ?_; refine sq (by exact Qt.cast (v' := .int .i64 ((q / 256 : Nat) : Int)) (congrArg (Value.int .i64) (by omega)) (q_quo rfl rfl (by omega) (by omega) (by simp only [IntKind.wrap_i64]; omega))) ?_; refine sq qa ?_; refine l_nil ?_) | refine n_then ?_ | refine c_block ?_ | refine c_skip ?_ | refine n_block ?_ | refine c_exit ?_ | refine n_then_exit ?_ | refine n_block_eq ?_ | refine n_block_ne rfl ?_ | refine c_ret ?_ | refine n_then_ret ?_ | refine n_block_ret ?_ | refine c_cond_t rfl ?_ | refine c_cond_f rfl ?_ | refine r_succ ?_ )
    refine c_round ⟨i + 1, b2, cap2, m2⟩ ⟨by dsimp only; omega, ho2, by dsimp only; omega⟩ (by dsimp only; omega) ⟨rfl, rfl, by simp only [hq2]; rfl, trivial⟩ (by rfl) (by rw [hls]; exact (by (repeat (first | exact List.nil_sublist _ | exact List.Sublist.slnil | apply List.Sublist.cons_cons | exact List.Sublist.refl _ | apply List.Sublist.cons))))
  · obtain rfl : i = 8 := by omega
    repeat (first | refine c_seq ?_ | (refine c_region (id := 3) ?_; refine sq qm ?_; refine sq (by first | exact dlsst | exact dlssf) ?_; refine l_nil ?_) | (refine c_region (id := 7) ?_; refine sq qm ?_; refine sq qa ?_; refine l_nil ?_) | refine n_then ?_ | refine c_block ?_ | refine c_skip ?_ | refine n_block ?_ | refine c_exit ?_ | refine n_then_exit ?_ | refine n_block_eq ?_ | refine n_block_ne rfl ?_ | refine c_ret ?_ | refine n_then_ret ?_ | refine n_block_ret ?_ | refine c_cond_t rfl ?_ | refine c_cond_f rfl ?_ | refine r_succ ?_ )
    (first | apply r_ret (b, cap, lil n) | apply r_end (b, cap, lil n)); exact rfl; exact rfl; exact (.tmp rfl .nil); exact rfl; exact (by exact (by (repeat (first | exact List.nil_sublist _ | exact List.Sublist.slnil | apply List.Sublist.cons_cons | exact List.Sublist.refl _ | apply List.Sublist.cons)))); exact (new_sl ho.newc new_nil); exact ⟨by have h9 := ho.ret; exact h9, rfl⟩
end Go.Proofs.Yteopejjlhmghbaa
namespace Go.Proofs.Yteopejjlhmghbaa
open Go Go.RowKit
set_option linter.unusedVariables false
set_option linter.unusedSimpArgs false
set_option maxRecDepth 100000 in
set_option maxHeartbeats 1000000 in
theorem pq_0_5_10_15 (g : Nat) (x0 x1 x2 x3 x4 x5 x6 x7 x8 x9 x10 x11 x12 x13 x14 x15 A B C D : Int) (h : q4 x0 x5 x10 x15 = (A, B, C, D)) (w : World) (hL : Has [.blk g (.cells #[.int .u32 x0, .int .u32 x1, .int .u32 x2, .int .u32 x3, .int .u32 x4, .int .u32 x5, .int .u32 x6, .int .u32 x7, .int .u32 x8, .int .u32 x9, .int .u32 x10, .int .u32 x11, .int .u32 x12, .int .u32 x13, .int .u32 x14, .int .u32 x15] 95 (0, 0))] w) :
    CA Try.prog 65 [.pointer (some ⟨g, 0, none⟩), .pointer (some ⟨g, 5, none⟩), .pointer (some ⟨g, 10, none⟩), .pointer (some ⟨g, 15, none⟩)] w (Ret (fun (_ : Unit) => .tuple #[]) [g] (fun _ => [.blk g (.cells #[.int .u32 A, .int .u32 x1, .int .u32 x2, .int .u32 x3, .int .u32 x4, .int .u32 B, .int .u32 x6, .int .u32 x7, .int .u32 x8, .int .u32 x9, .int .u32 C, .int .u32 x11, .int .u32 x12, .int .u32 x13, .int .u32 x14, .int .u32 D] 95 (0, 0))]) (fun _ => True) w) := by
  have e1 : (q4 x0 x5 x10 x15).1 = A := by rw [h]
  have e2 : (q4 x0 x5 x10 x15).2.1 = B := by rw [h]
  have e3 : (q4 x0 x5 x10 x15).2.2.1 = C := by rw [h]
  have e4 : (q4 x0 x5 x10 x15).2.2.2 = D := by rw [h]
  rw [← e1, ← e2, ← e3, ← e4]
  clear e1 e2 e3 e4 h
  refine enter (L := _) (X := [g]) Try.func65 rfl Try.ntmps65 rfl rfl hL ?_
  repeat (first | refine c_seq ?_ | (refine x_region (id := 0) (some 8) [(0, .n), (1, .n), (2, .q), (3, .n), (4, .n), (5, .q), (6, .n), (7, .n), (8, .b)] _ mixed (by kernel_rfl) (List.Sublist.refl _) ?_; refine xn rfl qm ?_; refine xn rfl qn ?_; refine xq rfl ql ?_; refine xn rfl qm ?_; refine xn rfl qn ?_; refine xq rfl ql ?_; refine xn rfl qadd32 ?_; refine xn rfl qn ?_; refine x_b rfl ?_; (first | refine es1 ?_ | refine es2 ?_ | refine es3 ?_); refine x_k (List.nil_sublist _) ?_; refine x_nil ?_) | (refine x_region (id := 1) (some 10) [(0, .n), (1, .n), (2, .n), (3, .q), (4, .n), (5, .n), (6, .q), (7, .n), (8, .e), (9, .n), (10, .b)] _ mixed (by kernel_rfl) (List.Sublist.refl _) ?_; refine xn rfl qm ?_; refine xn rfl qm ?_; refine xn rfl qn ?_; refine xq rfl ql ?_; refine xn rfl qm ?_; refine xn rfl qn ?_; refine xq rfl ql ?_; refine xn rfl qxor ?_; refine x_e rfl ?_; refine ecp rfl rfl (fun w hC hm hL => by (first | exact rot16c _ _ w | exact rot12c _ _ w | exact rot8c _ _ w | exact rot7c _ _ w)) ?_; intro m' hm'; refine xk ?_; refine xn rfl qn ?_; refine x_b rfl ?_; (first | refine es1 ?_ | refine es2 ?_ | refine es3 ?_); refine x_k (List.nil_sublist _) ?_; refine x_nil ?_) | (refine x_region (id := 2) (some 8) [(0, .n), (1, .n), (2, .q), (3, .n), (4, .n), (5, .q), (6, .n), (7, .n), (8, .b)] _ mixed (by kernel_rfl) (List.Sublist.refl _) ?_; refine xn rfl qm ?_; refine xn rfl qn ?_; refine xq rfl ql ?_; refine xn rfl qm ?_; refine xn rfl qn ?_; refine xq rfl ql ?_; refine xn rfl qadd32 ?_; refine xn rfl qn ?_; refine x_b rfl ?_; (first | refine es1 ?_ | refine es2 ?_ | refine es3 ?_); refine x_k (List.nil_sublist _) ?_; refine x_nil ?_) | (refine x_region (id := 3) (some 10) [(0, .n), (1, .n), (2, .n), (3, .q), (4, .n), (5, .n), (6, .q), (7, .n), (8, .e), (9, .n), (10, .b)] _ mixed (by kernel_rfl) (List.Sublist.refl _) ?_; refine xn rfl qm ?_; refine xn rfl qm ?_; refine xn rfl qn ?_; refine xq rfl ql ?_; refine xn rfl qm ?_; refine xn rfl qn ?_; refine xq rfl ql ?_; refine xn rfl qxor ?_; refine x_e rfl ?_; refine ecp rfl rfl (fun w hC hm hL => by (first | exact rot16c _ _ w | exact rot12c _ _ w | exact rot8c _ _ w | exact rot7c _ _ w)) ?_; intro m' hm'; refine xk ?_; refine xn rfl qn ?_; refine x_b rfl ?_; (first | refine es1 ?_ | refine es2 ?_ | refine es3 ?_); refine x_k (List.nil_sublist _) ?_; refine x_nil ?_) | (refine x_region (id := 4) (some 8) [(0, .n), (1, .n), (2, .q), (3, .n), (4, .n), (5, .q), (6, .n), (7, .n), (8, .b)] _ mixed (by kernel_rfl) (List.Sublist.refl _) ?_; refine xn rfl qm ?_; refine xn rfl qn ?_; refine xq rfl ql ?_; refine xn rfl qm ?_; refine xn rfl qn ?_; refine xq rfl ql ?_; refine xn rfl qadd32 ?_; refine xn rfl qn ?_; refine x_b rfl ?_; (first | refine es1 ?_ | refine es2 ?_ | refine es3 ?_); refine x_k (List.nil_sublist _) ?_; refine x_nil ?_) | (refine x_region (id := 5) (some 10) [(0, .n), (1, .n), (2, .n), (3, .q), (4, .n), (5, .n), (6, .q), (7, .n), (8, .e), (9, .n), (10, .b)] _ mixed (by kernel_rfl) (List.Sublist.refl _) ?_; refine xn rfl qm ?_; refine xn rfl qm ?_; refine xn rfl qn ?_; refine xq rfl ql ?_; refine xn rfl qm ?_; refine xn rfl qn ?_; refine xq rfl ql ?_; refine xn rfl qxor ?_; refine x_e rfl ?_; refine ecp rfl rfl (fun w hC hm hL => by (first | exact rot16c _ _ w | exact rot12c _ _ w | exact rot8c _ _ w | exact rot7c _ _ w)) ?_; intro m' hm'; refine xk ?_; refine xn rfl qn ?_; refine x_b rfl ?_; (first | refine es1 ?_ | refine es2 ?_ | refine es3 ?_); refine x_k (List.nil_sublist _) ?_; refine x_nil ?_) | (refine x_region (id := 6) (some 8) [(0, .n), (1, .n), (2, .q), (3, .n), (4, .n), (5, .q), (6, .n), (7, .n), (8, .b)] _ mixed (by kernel_rfl) (List.Sublist.refl _) ?_; refine xn rfl qm ?_; refine xn rfl qn ?_; refine xq rfl ql ?_; refine xn rfl qm ?_; refine xn rfl qn ?_; refine xq rfl ql ?_; refine xn rfl qadd32 ?_; refine xn rfl qn ?_; refine x_b rfl ?_; (first | refine es1 ?_ | refine es2 ?_ | refine es3 ?_); refine x_k (List.nil_sublist _) ?_; refine x_nil ?_) | (refine x_region (id := 7) (some 10) [(0, .n), (1, .n), (2, .n), (3, .q), (4, .n), (5, .n), (6, .q), (7, .n), (8, .e), (9, .n), (10, .b)] _ mixed (by kernel_rfl) (List.Sublist.refl _) ?_; refine xn rfl qm ?_; refine xn rfl qm ?_; refine xn rfl qn ?_; refine xq rfl ql ?_; refine xn rfl qm ?_; refine xn rfl qn ?_; refine xq rfl ql ?_; refine xn rfl qxor ?_; refine x_e rfl ?_; refine ecp rfl rfl (fun w hC hm hL => by (first | exact rot16c _ _ w | exact rot12c _ _ w | exact rot8c _ _ w | exact rot7c _ _ w)) ?_; intro m' hm'; refine xk ?_; refine xn rfl qn ?_; refine x_b rfl ?_; (first | refine es1 ?_ | refine es2 ?_ | refine es3 ?_); refine x_k (List.nil_sublist _) ?_; refine x_nil ?_) | refine n_then ?_ | refine c_block ?_ | refine c_skip ?_ | refine n_block ?_ | refine c_exit ?_ | refine n_then_exit ?_ | refine n_block_eq ?_ | refine n_block_ne rfl ?_ | refine c_ret ?_ | refine n_then_ret ?_ | refine n_block_ret ?_ | refine c_cond_t rfl ?_ | refine c_cond_f rfl ?_ | refine r_succ ?_ )
  (first | apply r_ret () | apply r_end ()); exact rfl; exact rfl; exact .nil; exact rfl; exact (List.Sublist.refl _); exact (new_blk (.inl (by simp)) new_nil); exact trivial
set_option maxRecDepth 100000 in
set_option maxHeartbeats 1000000 in
theorem rq_0_5_10_15 (x0 x1 x2 x3 x4 x5 x6 x7 x8 x9 x10 x11 x12 x13 x14 x15 A B C D : Int) (h : q4 x0 x5 x10 x15 = (A, B, C, D)) (w : World) :
    CA Try.prog 54 [.agg #[.int .u32 x0, .int .u32 x1, .int .u32 x2, .int .u32 x3, .int .u32 x4, .int .u32 x5, .int .u32 x6, .int .u32 x7, .int .u32 x8, .int .u32 x9, .int .u32 x10, .int .u32 x11, .int .u32 x12, .int .u32 x13, .int .u32 x14, .int .u32 x15], .int .i64 0, .int .i64 5, .int .i64 10, .int .i64 15] w (RV (.agg #[.int .u32 A, .int .u32 x1, .int .u32 x2, .int .u32 x3, .int .u32 x4, .int .u32 B, .int .u32 x6, .int .u32 x7, .int .u32 x8, .int .u32 x9, .int .u32 C, .int .u32 x11, .int .u32 x12, .int .u32 x13, .int .u32 x14, .int .u32 D]) w) := by
  have e1 : (q4 x0 x5 x10 x15).1 = A := by rw [h]
  have e2 : (q4 x0 x5 x10 x15).2.1 = B := by rw [h]
  have e3 : (q4 x0 x5 x10 x15).2.2.1 = C := by rw [h]
  have e4 : (q4 x0 x5 x10 x15).2.2.2 = D := by rw [h]
  rw [← e1, ← e2, ← e3, ← e4]
  clear e1 e2 e3 e4 h
  refine enter (L := []) (X := []) Try.func54 rfl Try.ntmps54 rfl rfl (Has.nil _) ?_
  repeat (first | refine c_seq ?_ | (refine c_region (id := 0) ?_; refine se ?_; refine eb ?_; refine se ?_; refine ea ?_; refine l_nil ?_) | (refine x_region (id := 1) (some 9) [(0, .n), (1, .n), (2, .n), (3, .q), (4, .n), (5, .n), (6, .q), (7, .n), (8, .n), (9, .b)] _ mixed (by kernel_rfl) (List.Sublist.refl _) ?_; refine xn rfl qm ?_; refine xn rfl qm ?_; refine xn rfl qia ?_; refine xq rfl ql ?_; refine xn rfl qm ?_; refine xn rfl qia ?_; refine xq rfl ql ?_; refine xn rfl qadd32 ?_; refine xn rfl qia ?_; refine x_b rfl ?_; (first | refine es1 ?_ | refine es2 ?_ | refine es3 ?_); refine x_k (List.nil_sublist _) ?_; refine x_nil ?_) | (refine x_region (id := 2) (some 10) [(0, .n), (1, .n), (2, .n), (3, .q), (4, .n), (5, .n), (6, .q), (7, .n), (8, .e), (9, .n), (10, .b)] _ mixed (by kernel_rfl) (List.Sublist.refl _) ?_; refine xn rfl qm ?_; refine xn rfl qm ?_; refine xn rfl qia ?_; refine xq rfl ql ?_; refine xn rfl qm ?_; refine xn rfl qia ?_; refine xq rfl ql ?_; refine xn rfl qxor ?_; refine x_e rfl ?_; refine ecp rfl rfl (fun w hC hm hL => by (first | exact left16c _ _ w | exact left12c _ _ w | exact left8c _ _ w | exact left7c _ _ w)) ?_; intro m' hm'; refine xk ?_; refine xn rfl qia ?_; refine x_b rfl ?_; (first | refine es1 ?_ | refine es2 ?_ | refine es3 ?_); refine x_k (List.nil_sublist _) ?_; refine x_nil ?_) | (refine x_region (id := 3) (some 9) [(0, .n), (1, .n), (2, .n), (3, .q), (4, .n), (5, .n), (6, .q), (7, .n), (8, .n), (9, .b)] _ mixed (by kernel_rfl) (List.Sublist.refl _) ?_; refine xn rfl qm ?_; refine xn rfl qm ?_; refine xn rfl qia ?_; refine xq rfl ql ?_; refine xn rfl qm ?_; refine xn rfl qia ?_; refine xq rfl ql ?_; refine xn rfl qadd32 ?_; refine xn rfl qia ?_; refine x_b rfl ?_; (first | refine es1 ?_ | refine es2 ?_ | refine es3 ?_); refine x_k (List.nil_sublist _) ?_; refine x_nil ?_) | (refine x_region (id := 4) (some 10) [(0, .n), (1, .n), (2, .n), (3, .q), (4, .n), (5, .n), (6, .q), (7, .n), (8, .e), (9, .n), (10, .b)] _ mixed (by kernel_rfl) (List.Sublist.refl _) ?_; refine xn rfl qm ?_; refine xn rfl qm ?_; refine xn rfl qia ?_; refine xq rfl ql ?_; refine xn rfl qm ?_; refine xn rfl qia ?_; refine xq rfl ql ?_; refine xn rfl qxor ?_; refine x_e rfl ?_; refine ecp rfl rfl (fun w hC hm hL => by (first | exact left16c _ _ w | exact left12c _ _ w | exact left8c _ _ w | exact left7c _ _ w)) ?_; intro m' hm'; refine xk ?_; refine xn rfl qia ?_; refine x_b rfl ?_; (first | refine es1 ?_ | refine es2 ?_ | refine es3 ?_); refine x_k (List.nil_sublist _) ?_; refine x_nil ?_) | (refine x_region (id := 5) (some 9) [(0, .n), (1, .n), (2, .n), (3, .q), (4, .n), (5, .n), (6, .q), (7, .n), (8, .n), (9, .b)] _ mixed (by kernel_rfl) (List.Sublist.refl _) ?_; refine xn rfl qm ?_; refine xn rfl qm ?_; refine xn rfl qia ?_; refine xq rfl ql ?_; refine xn rfl qm ?_; refine xn rfl qia ?_; refine xq rfl ql ?_; refine xn rfl qadd32 ?_; refine xn rfl qia ?_; refine x_b rfl ?_; (first | refine es1 ?_ | refine es2 ?_ | refine es3 ?_); refine x_k (List.nil_sublist _) ?_; refine x_nil ?_) | (refine x_region (id := 6) (some 10) [(0, .n), (1, .n), (2, .n), (3, .q), (4, .n), (5, .n), (6, .q), (7, .n), (8, .e), (9, .n), (10, .b)] _ mixed (by kernel_rfl) (List.Sublist.refl _) ?_; refine xn rfl qm ?_; refine xn rfl qm ?_; refine xn rfl qia ?_; refine xq rfl ql ?_; refine xn rfl qm ?_; refine xn rfl qia ?_; refine xq rfl ql ?_; refine xn rfl qxor ?_; refine x_e rfl ?_; refine ecp rfl rfl (fun w hC hm hL => by (first | exact left16c _ _ w | exact left12c _ _ w | exact left8c _ _ w | exact left7c _ _ w)) ?_; intro m' hm'; refine xk ?_; refine xn rfl qia ?_; refine x_b rfl ?_; (first | refine es1 ?_ | refine es2 ?_ | refine es3 ?_); refine x_k (List.nil_sublist _) ?_; refine x_nil ?_) | (refine x_region (id := 7) (some 9) [(0, .n), (1, .n), (2, .n), (3, .q), (4, .n), (5, .n), (6, .q), (7, .n), (8, .n), (9, .b)] _ mixed (by kernel_rfl) (List.Sublist.refl _) ?_; refine xn rfl qm ?_; refine xn rfl qm ?_; refine xn rfl qia ?_; refine xq rfl ql ?_; refine xn rfl qm ?_; refine xn rfl qia ?_; refine xq rfl ql ?_; refine xn rfl qadd32 ?_; refine xn rfl qia ?_; refine x_b rfl ?_; (first | refine es1 ?_ | refine es2 ?_ | refine es3 ?_); refine x_k (List.nil_sublist _) ?_; refine x_nil ?_) | (refine x_region (id := 8) (some 10) [(0, .n), (1, .n), (2, .n), (3, .q), (4, .n), (5, .n), (6, .q), (7, .n), (8, .e), (9, .n), (10, .b)] _ mixed (by kernel_rfl) (List.Sublist.refl _) ?_; refine xn rfl qm ?_; refine xn rfl qm ?_; refine xn rfl qia ?_; refine xq rfl ql ?_; refine xn rfl qm ?_; refine xn rfl qia ?_; refine xq rfl ql ?_; refine xn rfl qxor ?_; refine x_e rfl ?_; refine ecp rfl rfl (fun w hC hm hL => by (first | exact left16c _ _ w | exact left12c _ _ w | exact left8c _ _ w | exact left7c _ _ w)) ?_; intro m' hm'; refine xk ?_; refine xn rfl qia ?_; refine x_b rfl ?_; (first | refine es1 ?_ | refine es2 ?_ | refine es3 ?_); refine x_k (List.nil_sublist _) ?_; refine x_nil ?_) | (refine c_region (id := 9) ?_; refine sq (by first | exact qlb | exact qlr) ?_; refine se ?_; refine esa ?_; refine l_nil ?_) | refine n_then ?_ | refine c_block ?_ | refine c_skip ?_ | refine n_block ?_ | refine c_exit ?_ | refine n_then_exit ?_ | refine n_block_eq ?_ | refine n_block_ne rfl ?_ | refine c_ret ?_ | refine n_then_ret ?_ | refine n_block_ret ?_ | refine c_cond_t rfl ?_ | refine c_cond_f rfl ?_ | refine r_succ ?_ )
  (first | apply r_ret () | apply r_end ()); exact rfl; exact rfl; exact (.row rfl (by (repeat (first | exact List.Mem.head _ | apply List.Mem.tail))) (by rfl) .nil); exact rfl; exact (List.nil_sublist _); exact new_nil; exact trivial
set_option maxRecDepth 100000 in
set_option maxHeartbeats 1000000 in
theorem pq_1_6_11_12 (g : Nat) (x0 x1 x2 x3 x4 x5 x6 x7 x8 x9 x10 x11 x12 x13 x14 x15 A B C D : Int) (h : q4 x1 x6 x11 x12 = (A, B, C, D)) (w : World) (hL : Has [.blk g (.cells #[.int .u32 x0, .int .u32 x1, .int .u32 x2, .int .u32 x3, .int .u32 x4, .int .u32 x5, .int .u32 x6, .int .u32 x7, .int .u32 x8, .int .u32 x9, .int .u32 x10, .int .u32 x11, .int .u32 x12, .int .u32 x13, .int .u32 x14, .int .u32 x15] 95 (0, 0))] w) :
    CA Try.prog 65 [.pointer (some ⟨g, 1, none⟩), .pointer (some ⟨g, 6, none⟩), .pointer (some ⟨g, 11, none⟩), .pointer (some ⟨g, 12, none⟩)] w (Ret (fun (_ : Unit) => .tuple #[]) [g] (fun _ => [.blk g (.cells #[.int .u32 x0, .int .u32 A, .int .u32 x2, .int .u32 x3, .int .u32 x4, .int .u32 x5, .int .u32 B, .int .u32 x7, .int .u32 x8, .int .u32 x9, .int .u32 x10, .int .u32 C, .int .u32 D, .int .u32 x13, .int .u32 x14, .int .u32 x15] 95 (0, 0))]) (fun _ => True) w) := by
  have e1 : (q4 x1 x6 x11 x12).1 = A := by rw [h]
  have e2 : (q4 x1 x6 x11 x12).2.1 = B := by rw [h]
  have e3 : (q4 x1 x6 x11 x12).2.2.1 = C := by rw [h]
  have e4 : (q4 x1 x6 x11 x12).2.2.2 = D := by rw [h]
  rw [← e1, ← e2, ← e3, ← e4]
  clear e1 e2 e3 e4 h
  refine enter (L := _) (X := [g]) Try.func65 rfl Try.ntmps65 rfl rfl hL ?_
  repeat (first | refine c_seq ?_ | (refine x_region (id := 0) (some 8) [(0, .n), (1, .n), (2, .q), (3, .n), (4, .n), (5, .q), (6, .n), (7, .n), (8, .b)] _ mixed (by kernel_rfl) (List.Sublist.refl _) ?_; refine xn rfl qm ?_; refine xn rfl qn ?_; refine xq rfl ql ?_; refine xn rfl qm ?_; refine xn rfl qn ?_; refine xq rfl ql ?_; refine xn rfl qadd32 ?_; refine xn rfl qn ?_; refine x_b rfl ?_; (first | refine es1 ?_ | refine es2 ?_ | refine es3 ?_); refine x_k (List.nil_sublist _) ?_; refine x_nil ?_) | (refine x_region (id := 1) (some 10) [(0, .n), (1, .n), (2, .n), (3, .q), (4, .n), (5, .n), (6, .q), (7, .n), (8, .e), (9, .n), (10, .b)] _ mixed (by kernel_rfl) (List.Sublist.refl _) ?_; refine xn rfl qm ?_; refine xn rfl qm ?_; refine xn rfl qn ?_; refine xq rfl ql ?_; refine xn rfl qm ?_; refine xn rfl qn ?_; refine xq rfl ql ?_; refine xn rfl qxor ?_; refine x_e rfl ?_; refine ecp rfl rfl (fun w hC hm hL => by (first | exact rot16c _ _ w | exact rot12c _ _ w | exact rot8c _ _ w | exact rot7c _ _ w)) ?_; intro m' hm'; refine xk ?_; refine xn rfl qn ?_; refine x_b rfl ?_; (first | refine es1 ?_ | refine es2 ?_ | refine es3 ?_); refine x_k (List.nil_sublist _) ?_; refine x_nil ?_) | (refine x_region (id := 2) (some 8) [(0, .n), (1, .n), (2, .q), (3, .n), (4, .n), (5, .q), (6, .n), (7, .n), (8, .b)] _ mixed (by kernel_rfl) (List.Sublist.refl _) ?_; refine xn rfl qm ?_; refine xn rfl qn ?_; refine xq rfl ql ?_; refine xn rfl qm ?_; refine xn rfl qn ?_; refine xq rfl ql ?_; refine xn rfl qadd32 ?_; refine xn rfl qn ?_; refine x_b rfl ?_; (first | refine es1 ?_ | refine es2 ?_ | refine es3 ?_); refine x_k (List.nil_sublist _) ?_; refine x_nil ?_) | (refine x_region (id := 3) (some 10) [(0, .n), (1, .n), (2, .n), (3, .q), (4, .n), (5, .n), (6, .q), (7, .n), (8, .e), (9, .n), (10, .b)] _ mixed (by kernel_rfl) (List.Sublist.refl _) ?_; refine xn rfl qm ?_; refine xn rfl qm ?_; refine xn rfl qn ?_; refine xq rfl ql ?_; refine xn rfl qm ?_; refine xn rfl qn ?_; refine xq rfl ql ?_; refine xn rfl qxor ?_; refine x_e rfl ?_; refine ecp rfl rfl (fun w hC hm hL => by (first | exact rot16c _ _ w | exact rot12c _ _ w | exact rot8c _ _ w | exact rot7c _ _ w)) ?_; intro m' hm'; refine xk ?_; refine xn rfl qn ?_; refine x_b rfl ?_; (first | refine es1 ?_ | refine es2 ?_ | refine es3 ?_); refine x_k (List.nil_sublist _) ?_; refine x_nil ?_) | (refine x_region (id := 4) (some 8) [(0, .n), (1, .n), (2, .q), (3, .n), (4, .n), (5, .q), (6, .n), (7, .n), (8, .b)] _ mixed (by kernel_rfl) (List.Sublist.refl _) ?_; refine xn rfl qm ?_; refine xn rfl qn ?_; refine xq rfl ql ?_; refine xn rfl qm ?_; refine xn rfl qn ?_; refine xq rfl ql ?_; refine xn rfl qadd32 ?_; refine xn rfl qn ?_; refine x_b rfl ?_; (first | refine es1 ?_ | refine es2 ?_ | refine es3 ?_); refine x_k (List.nil_sublist _) ?_; refine x_nil ?_) | (refine x_region (id := 5) (some 10) [(0, .n), (1, .n), (2, .n), (3, .q), (4, .n), (5, .n), (6, .q), (7, .n), (8, .e), (9, .n), (10, .b)] _ mixed (by kernel_rfl) (List.Sublist.refl _) ?_; refine xn rfl qm ?_; refine xn rfl qm ?_; refine xn rfl qn ?_; refine xq rfl ql ?_; refine xn rfl qm ?_; refine xn rfl qn ?_; refine xq rfl ql ?_; refine xn rfl qxor ?_; refine x_e rfl ?_; refine ecp rfl rfl (fun w hC hm hL => by (first | exact rot16c _ _ w | exact rot12c _ _ w | exact rot8c _ _ w | exact rot7c _ _ w)) ?_; intro m' hm'; refine xk ?_; refine xn rfl qn ?_; refine x_b rfl ?_; (first | refine es1 ?_ | refine es2 ?_ | refine es3 ?_); refine x_k (List.nil_sublist _) ?_; refine x_nil ?_) | (refine x_region (id := 6) (some 8) [(0, .n), (1, .n), (2, .q), (3, .n), (4, .n), (5, .q), (6, .n), (7, .n), (8, .b)] _ mixed (by kernel_rfl) (List.Sublist.refl _) ?_; refine xn rfl qm ?_; refine xn rfl qn ?_; refine xq rfl ql ?_; refine xn rfl qm ?_; refine xn rfl qn ?_; refine xq rfl ql ?_; refine xn rfl qadd32 ?_; refine xn rfl qn ?_; refine x_b rfl ?_; (first | refine es1 ?_ | refine es2 ?_ | refine es3 ?_); refine x_k (List.nil_sublist _) ?_; refine x_nil ?_) | (refine x_region (id := 7) (some 10) [(0, .n), (1, .n), (2, .n), (3, .q), (4, .n), (5, .n), (6, .q), (7, .n), (8, .e), (9, .n), (10, .b)] _ mixed (by kernel_rfl) (List.Sublist.refl _) ?_; refine xn rfl qm ?_; refine xn rfl qm ?_; refine xn rfl qn ?_; refine xq rfl ql ?_; refine xn rfl qm ?_; refine xn rfl qn ?_; refine xq rfl ql ?_; refine xn rfl qxor ?_; refine x_e rfl ?_; refine ecp rfl rfl (fun w hC hm hL => by (first | exact rot16c _ _ w | exact rot12c _ _ w | exact rot8c _ _ w | exact rot7c _ _ w)) ?_; intro m' hm'; refine xk ?_; refine xn rfl qn ?_; refine x_b rfl ?_; (first | refine es1 ?_ | refine es2 ?_ | refine es3 ?_); refine x_k (List.nil_sublist _) ?_; refine x_nil ?_) | refine n_then ?_ | refine c_block ?_ | refine c_skip ?_ | refine n_block ?_ | refine c_exit ?_ | refine n_then_exit ?_ | refine n_block_eq ?_ | refine n_block_ne rfl ?_ | refine c_ret ?_ | refine n_then_ret ?_ | refine n_block_ret ?_ | refine c_cond_t rfl ?_ | refine c_cond_f rfl ?_ | refine r_succ ?_ )
  (first | apply r_ret () | apply r_end ()); exact rfl; exact rfl; exact .nil; exact rfl; exact (List.Sublist.refl _); exact (new_blk (.inl (by simp)) new_nil); exact trivial
set_option maxRecDepth 100000 in
set_option maxHeartbeats 1000000 in
theorem rq_1_6_11_12 (x0 x1 x2 x3 x4 x5 x6 x7 x8 x9 x10 x11 x12 x13 x14 x15 A B C D : Int) (h : q4 x1 x6 x11 x12 = (A, B, C, D)) (w : World) :
    CA Try.prog 54 [.agg #[.int .u32 x0, .int .u32 x1, .int .u32 x2, .int .u32 x3, .int .u32 x4, .int .u32 x5, .int .u32 x6, .int .u32 x7, .int .u32 x8, .int .u32 x9, .int .u32 x10, .int .u32 x11, .int .u32 x12, .int .u32 x13, .int .u32 x14, .int .u32 x15], .int .i64 1, .int .i64 6, .int .i64 11, .int .i64 12] w (RV (.agg #[.int .u32 x0, .int .u32 A, .int .u32 x2, .int .u32 x3, .int .u32 x4, .int .u32 x5, .int .u32 B, .int .u32 x7, .int .u32 x8, .int .u32 x9, .int .u32 x10, .int .u32 C, .int .u32 D, .int .u32 x13, .int .u32 x14, .int .u32 x15]) w) := by
  have e1 : (q4 x1 x6 x11 x12).1 = A := by rw [h]
  have e2 : (q4 x1 x6 x11 x12).2.1 = B := by rw [h]
  have e3 : (q4 x1 x6 x11 x12).2.2.1 = C := by rw [h]
  have e4 : (q4 x1 x6 x11 x12).2.2.2 = D := by rw [h]
  rw [← e1, ← e2, ← e3, ← e4]
  clear e1 e2 e3 e4 h
  refine enter (L := []) (X := []) Try.func54 rfl Try.ntmps54 rfl rfl (Has.nil _) ?_
  repeat (first | refine c_seq ?_ | (refine c_region (id := 0) ?_; refine se ?_; refine eb ?_; refine se ?_; refine ea ?_; refine l_nil ?_) | (refine x_region (id := 1) (some 9) [(0, .n), (1, .n), (2, .n), (3, .q), (4, .n), (5, .n), (6, .q), (7, .n), (8, .n), (9, .b)] _ mixed (by kernel_rfl) (List.Sublist.refl _) ?_; refine xn rfl qm ?_; refine xn rfl qm ?_; refine xn rfl qia ?_; refine xq rfl ql ?_; refine xn rfl qm ?_; refine xn rfl qia ?_; refine xq rfl ql ?_; refine xn rfl qadd32 ?_; refine xn rfl qia ?_; refine x_b rfl ?_; (first | refine es1 ?_ | refine es2 ?_ | refine es3 ?_); refine x_k (List.nil_sublist _) ?_; refine x_nil ?_) | (refine x_region (id := 2) (some 10) [(0, .n), (1, .n), (2, .n), (3, .q), (4, .n), (5, .n), (6, .q), (7, .n), (8, .e), (9, .n), (10, .b)] _ mixed (by kernel_rfl) (List.Sublist.refl _) ?_; refine xn rfl qm ?_; refine xn rfl qm ?_; refine xn rfl qia ?_; refine xq rfl ql ?_; refine xn rfl qm ?_; refine xn rfl qia ?_; refine xq rfl ql ?_; refine xn rfl qxor ?_; refine x_e rfl ?_; refine ecp rfl rfl (fun w hC hm hL => by (first | exact left16c _ _ w | exact left12c _ _ w | exact left8c _ _ w | exact left7c _ _ w)) ?_; intro m' hm'; refine xk ?_; refine xn rfl qia ?_; refine x_b rfl ?_; (first | refine es1 ?_ | refine es2 ?_ | refine es3 ?_); refine x_k (List.nil_sublist _) ?_; refine x_nil ?_) | (refine x_region (id := 3) (some 9) [(0, .n), (1, .n), (2, .n), (3, .q), (4, .n), (5, .n), (6, .q), (7, .n), (8, .n), (9, .b)] _ mixed (by kernel_rfl) (List.Sublist.refl _) ?_; refine xn rfl qm ?_; refine xn rfl qm ?_; refine xn rfl qia ?_; refine xq rfl ql ?_; refine xn rfl qm ?_; refine xn rfl qia ?_; refine xq rfl ql ?_; refine xn rfl qadd32 ?_; refine xn rfl qia ?_; refine x_b rfl ?_; (first | refine es1 ?_ | refine es2 ?_ | refine es3 ?_); refine x_k (List.nil_sublist _) ?_; refine x_nil ?_) | (refine x_region (id := 4) (some 10) [(0, .n), (1, .n), (2, .n), (3, .q), (4, .n), (5, .n), (6, .q), (7, .n), (8, .e), (9, .n), (10, .b)] _ mixed (by kernel_rfl) (List.Sublist.refl _) ?_; refine xn rfl qm ?_; refine xn rfl qm ?_; refine xn rfl qia ?_; refine xq rfl ql ?_; refine xn rfl qm ?_; refine xn rfl qia ?_; refine xq rfl ql ?_; refine xn rfl qxor ?_; refine x_e rfl ?_; refine ecp rfl rfl (fun w hC hm hL => by (first | exact left16c _ _ w | exact left12c _ _ w | exact left8c _ _ w | exact left7c _ _ w)) ?_; intro m' hm'; refine xk ?_; refine xn rfl qia ?_; refine x_b rfl ?_; (first | refine es1 ?_ | refine es2 ?_ | refine es3 ?_); refine x_k (List.nil_sublist _) ?_; refine x_nil ?_) | (refine x_region (id := 5) (some 9) [(0, .n), (1, .n), (2, .n), (3, .q), (4, .n), (5, .n), (6, .q), (7, .n), (8, .n), (9, .b)] _ mixed (by kernel_rfl) (List.Sublist.refl _) ?_; refine xn rfl qm ?_; refine xn rfl qm ?_; refine xn rfl qia ?_; refine xq rfl ql ?_; refine xn rfl qm ?_; refine xn rfl qia ?_; refine xq rfl ql ?_; refine xn rfl qadd32 ?_; refine xn rfl qia ?_; refine x_b rfl ?_; (first | refine es1 ?_ | refine es2 ?_ | refine es3 ?_); refine x_k (List.nil_sublist _) ?_; refine x_nil ?_) | (refine x_region (id := 6) (some 10) [(0, .n), (1, .n), (2, .n), (3, .q), (4, .n), (5, .n), (6, .q), (7, .n), (8, .e), (9, .n), (10, .b)] _ mixed (by kernel_rfl) (List.Sublist.refl _) ?_; refine xn rfl qm ?_; refine xn rfl qm ?_; refine xn rfl qia ?_; refine xq rfl ql ?_; refine xn rfl qm ?_; refine xn rfl qia ?_; refine xq rfl ql ?_; refine xn rfl qxor ?_; refine x_e rfl ?_; refine ecp rfl rfl (fun w hC hm hL => by (first | exact left16c _ _ w | exact left12c _ _ w | exact left8c _ _ w | exact left7c _ _ w)) ?_; intro m' hm'; refine xk ?_; refine xn rfl qia ?_; refine x_b rfl ?_; (first | refine es1 ?_ | refine es2 ?_ | refine es3 ?_); refine x_k (List.nil_sublist _) ?_; refine x_nil ?_) | (refine x_region (id := 7) (some 9) [(0, .n), (1, .n), (2, .n), (3, .q), (4, .n), (5, .n), (6, .q), (7, .n), (8, .n), (9, .b)] _ mixed (by kernel_rfl) (List.Sublist.refl _) ?_; refine xn rfl qm ?_; refine xn rfl qm ?_; refine xn rfl qia ?_; refine xq rfl ql ?_; refine xn rfl qm ?_; refine xn rfl qia ?_; refine xq rfl ql ?_; refine xn rfl qadd32 ?_; refine xn rfl qia ?_; refine x_b rfl ?_; (first | refine es1 ?_ | refine es2 ?_ | refine es3 ?_); refine x_k (List.nil_sublist _) ?_; refine x_nil ?_) | (refine x_region (id := 8) (some 10) [(0, .n), (1, .n), (2, .n), (3, .q), (4, .n), (5, .n), (6, .q), (7, .n), (8, .e), (9, .n), (10, .b)] _ mixed (by kernel_rfl) (List.Sublist.refl _) ?_; refine xn rfl qm ?_; refine xn rfl qm ?_; refine xn rfl qia ?_; refine xq rfl ql ?_; refine xn rfl qm ?_; refine xn rfl qia ?_; refine xq rfl ql ?_; refine xn rfl qxor ?_; refine x_e rfl ?_; refine ecp rfl rfl (fun w hC hm hL => by (first | exact left16c _ _ w | exact left12c _ _ w | exact left8c _ _ w | exact left7c _ _ w)) ?_; intro m' hm'; refine xk ?_; refine xn rfl qia ?_; refine x_b rfl ?_; (first | refine es1 ?_ | refine es2 ?_ | refine es3 ?_); refine x_k (List.nil_sublist _) ?_; refine x_nil ?_) | (refine c_region (id := 9) ?_; refine sq (by first | exact qlb | exact qlr) ?_; refine se ?_; refine esa ?_; refine l_nil ?_) | refine n_then ?_ | refine c_block ?_ | refine c_skip ?_ | refine n_block ?_ | refine c_exit ?_ | refine n_then_exit ?_ | refine n_block_eq ?_ | refine n_block_ne rfl ?_ | refine c_ret ?_ | refine n_then_ret ?_ | refine n_block_ret ?_ | refine c_cond_t rfl ?_ | refine c_cond_f rfl ?_ | refine r_succ ?_ )
  (first | apply r_ret () | apply r_end ()); exact rfl; exact rfl; exact (.row rfl (by (repeat (first | exact List.Mem.head _ | apply List.Mem.tail))) (by rfl) .nil); exact rfl; exact (List.nil_sublist _); exact new_nil; exact trivial
set_option maxRecDepth 100000 in
set_option maxHeartbeats 1000000 in
theorem pq_2_7_8_13 (g : Nat) (x0 x1 x2 x3 x4 x5 x6 x7 x8 x9 x10 x11 x12 x13 x14 x15 A B C D : Int) (h : q4 x2 x7 x8 x13 = (A, B, C, D)) (w : World) (hL : Has [.blk g (.cells #[.int .u32 x0, .int .u32 x1, .int .u32 x2, .int .u32 x3, .int .u32 x4, .int .u32 x5, .int .u32 x6, .int .u32 x7, .int .u32 x8, .int .u32 x9, .int .u32 x10, .int .u32 x11, .int .u32 x12, .int .u32 x13, .int .u32 x14, .int .u32 x15] 95 (0, 0))] w) :
    CA Try.prog 65 [.pointer (some ⟨g, 2, none⟩), .pointer (some ⟨g, 7, none⟩), .pointer (some ⟨g, 8, none⟩), .pointer (some ⟨g, 13, none⟩)] w (Ret (fun (_ : Unit) => .tuple #[]) [g] (fun _ => [.blk g (.cells #[.int .u32 x0, .int .u32 x1, .int .u32 A, .int .u32 x3, .int .u32 x4, .int .u32 x5, .int .u32 x6, .int .u32 B, .int .u32 C, .int .u32 x9, .int .u32 x10, .int .u32 x11, .int .u32 x12, .int .u32 D, .int .u32 x14, .int .u32 x15] 95 (0, 0))]) (fun _ => True) w) := by
  have e1 : (q4 x2 x7 x8 x13).1 = A := by rw [h]
  have e2 : (q4 x2 x7 x8 x13).2.1 = B := by rw [h]
  have e3 : (q4 x2 x7 x8 x13).2.2.1 = C := by rw [h]
  have e4 : (q4 x2 x7 x8 x13).2.2.2 = D := by rw [h]
  rw [← e1, ← e2, ← e3, ← e4]
  clear e1 e2 e3 e4 h
  refine enter (L := _) (X := [g]) Try.func65 rfl Try.ntmps65 rfl rfl hL ?_
  repeat (first | refine c_seq ?_ | (refine x_region (id := 0) (some 8) [(0, .n), (1, .n), (2, .q), (3, .n), (4, .n), (5, .q), (6, .n), (7, .n), (8, .b)] _ mixed (by kernel_rfl) (List.Sublist.refl _) ?_; refine xn rfl qm ?_; refine xn rfl qn ?_; refine xq rfl ql ?_; refine xn rfl qm ?_; refine xn rfl qn ?_; refine xq rfl ql ?_; refine xn rfl qadd32 ?_; refine xn rfl qn ?_; refine x_b rfl ?_; (first | refine es1 ?_ | refine es2 ?_ | refine es3 ?_); refine x_k (List.nil_sublist _) ?_; refine x_nil ?_) | (refine x_region (id := 1) (some 10) [(0, .n), (1, .n), (2, .n), (3, .q), (4, .n), (5, .n), (6, .q), (7, .n), (8, .e), (9, .n), (10, .b)] _ mixed (by kernel_rfl) (List.Sublist.refl _) ?_; refine xn rfl qm ?_; refine xn rfl qm ?_; refine xn rfl qn ?_; refine xq rfl ql ?_; refine xn rfl qm ?_; refine xn rfl qn ?_; refine xq rfl ql ?_; refine xn rfl qxor ?_; refine x_e rfl ?_; refine ecp rfl rfl (fun w hC hm hL => by (first | exact rot16c _ _ w | exact rot12c _ _ w | exact rot8c _ _ w | exact rot7c _ _ w)) ?_; intro m' hm'; refine xk ?_; refine xn rfl qn ?_; refine x_b rfl ?_; (first | refine es1 ?_ | refine es2 ?_ | refine es3 ?_); refine x_k (List.nil_sublist _) ?_; refine x_nil ?_) | (refine x_region (id := 2) (some 8) [(0, .n), (1, .n), (2, .q), (3, .n), (4, .n), (5, .q), (6, .n), (7, .n), (8, .b)] _ mixed (by kernel_rfl) (List.Sublist.refl _) ?_; refine xn rfl qm ?_; refine xn rfl qn ?_; refine xq rfl ql ?_; refine xn rfl qm ?_; refine xn rfl qn ?_; refine xq rfl ql ?_; refine xn rfl qadd32 ?_; refine xn rfl qn ?_; refine x_b rfl ?_; (first | refine es1 ?_ | refine es2 ?_ | refine es3 ?_); refine x_k (List.nil_sublist _) ?_; refine x_nil ?_) | (refine x_region (id := 3) (some 10) [(0, .n), (1, .n), (2, .n), (3, .q), (4, .n), (5, .n), (6, .q), (7, .n), (8, .e), (9, .n), (10, .b)] _ mixed (by kernel_rfl) (List.Sublist.refl _) ?_; refine xn rfl qm ?_; refine xn rfl qm ?_; refine xn rfl qn ?_; refine xq rfl ql ?_; refine xn rfl qm ?_; refine xn rfl qn ?_; refine xq rfl ql ?_; refine xn rfl qxor ?_; refine x_e rfl ?_; refine ecp rfl rfl (fun w hC hm hL => by (first | exact rot16c _ _ w | exact rot12c _ _ w | exact rot8c _ _ w | exact rot7c _ _ w)) ?_; intro m' hm'; refine xk ?_; refine xn rfl qn ?_; refine x_b rfl ?_; (first | refine es1 ?_ | refine es2 ?_ | refine es3 ?_); refine x_k (List.nil_sublist _) ?_; refine x_nil ?_) | (refine x_region (id := 4) (some 8) [(0, .n), (1, .n), (2, .q), (3, .n), (4, .n), (5, .q), (6, .n), (7, .n), (8, .b)] _ mixed (by kernel_rfl) (List.Sublist.refl _) ?_; refine xn rfl qm ?_; refine xn rfl qn ?_; refine xq rfl ql ?_; refine xn rfl qm ?_; refine xn rfl qn ?_; refine xq rfl ql ?_; refine xn rfl qadd32 ?_; refine xn rfl qn ?_; refine x_b rfl ?_; (first | refine es1 ?_ | refine es2 ?_ | refine es3 ?_); refine x_k (List.nil_sublist _) ?_; refine x_nil ?_) | (refine x_region (id := 5) (some 10) [(0, .n), (1, .n), (2, .n), (3, .q), (4, .n), (5, .n), (6, .q), (7, .n), (8, .e), (9, .n), (10, .b)] _ mixed (by kernel_rfl) (List.Sublist.refl _) ?_; refine xn rfl qm ?_; refine xn rfl qm ?_; refine xn rfl qn ?_; refine xq rfl ql ?_; refine xn rfl qm ?_; refine xn rfl qn ?_; refine xq rfl ql ?_; refine xn rfl qxor ?_; refine x_e rfl ?_; refine ecp rfl rfl (fun w hC hm hL => by (first | exact rot16c _ _ w | exact rot12c _ _ w | exact rot8c _ _ w | exact rot7c _ _ w)) ?_; intro m' hm'; refine xk ?_; refine xn rfl qn ?_; refine x_b rfl ?_; (first | refine es1 ?_ | refine es2 ?_ | refine es3 ?_); refine x_k (List.nil_sublist _) ?_; refine x_nil ?_) | (refine x_region (id := 6) (some 8) [(0, .n), (1, .n), (2, .q), (3, .n), (4, .n), (5, .q), (6, .n), (7, .n), (8, .b)] _ mixed (by kernel_rfl) (List.Sublist.refl _) ?_; refine xn rfl qm ?_; refine xn rfl qn ?_; refine xq rfl ql ?_; refine xn rfl qm ?_; refine xn rfl qn ?_; refine xq rfl ql ?_; refine xn rfl qadd32 ?_; refine xn rfl qn ?_; refine x_b rfl ?_; (first | refine es1 ?_ | refine es2 ?_ | refine es3 ?_); refine x_k (List.nil_sublist _) ?_; refine x_nil ?_) | (refine x_region (id := 7) (some 10) [(0, .n), (1, .n), (2, .n), (3, .q), (4, .n), (5, .n), (6, .q), (7, .n), (8, .e), (9, .n), (10, .b)] _ mixed (by kernel_rfl) (List.Sublist.refl _) ?_; refine xn rfl qm ?_; refine xn rfl qm ?_; refine xn rfl qn ?_; refine xq rfl ql ?_; refine xn rfl qm ?_; refine xn rfl qn ?_; refine xq rfl ql ?_; refine xn rfl qxor ?_; refine x_e rfl ?_; refine ecp rfl rfl (fun w hC hm hL => by (first | exact rot16c _ _ w | exact rot12c _ _ w | exact rot8c _ _ w | exact rot7c _ _ w)) ?_; intro m' hm'; refine xk ?_; refine xn rfl qn ?_; refine x_b rfl ?_; (first | refine es1 ?_ | refine es2 ?_ | refine es3 ?_); refine x_k (List.nil_sublist _) ?_; refine x_nil ?_) | refine n_then ?_ | refine c_block ?_ | refine c_skip ?_ | refine n_block ?_ | refine c_exit ?_ | refine n_then_exit ?_ | refine n_block_eq ?_ | refine n_block_ne rfl ?_ | refine c_ret ?_ | refine n_then_ret ?_ | refine n_block_ret ?_ | refine c_cond_t rfl ?_ | refine c_cond_f rfl ?_ | refine r_succ ?_ )
  (first | apply r_ret () | apply r_end ()); exact rfl; exact rfl; exact .nil; exact rfl; exact (List.Sublist.refl _); exact (new_blk (.inl (by simp)) new_nil); exact trivial
set_option maxRecDepth 100000 in
set_option maxHeartbeats 1000000 in
theorem rq_2_7_8_13 (x0 x1 x2 x3 x4 x5 x6 x7 x8 x9 x10 x11 x12 x13 x14 x15 A B C D : Int) (h : q4 x2 x7 x8 x13 = (A, B, C, D)) (w : World) :
    CA Try.prog 54 [.agg #[.int .u32 x0, .int .u32 x1, .int .u32 x2, .int .u32 x3, .int .u32 x4, .int .u32 x5, .int .u32 x6, .int .u32 x7, .int .u32 x8, .int .u32 x9, .int .u32 x10, .int .u32 x11, .int .u32 x12, .int .u32 x13, .int .u32 x14, .int .u32 x15], .int .i64 2, .int .i64 7, .int .i64 8, .int .i64 13] w (RV (.agg #[.int .u32 x0, .int .u32 x1, .int .u32 A, .int .u32 x3, .int .u32 x4, .int .u32 x5, .int .u32 x6, .int .u32 B, .int .u32 C, .int .u32 x9, .int .u32 x10, .int .u32 x11, .int .u32 x12, .int .u32 D, .int .u32 x14, .int .u32 x15]) w) := by
  have e1 : (q4 x2 x7 x8 x13).1 = A := by rw [h]
  have e2 : (q4 x2 x7 x8 x13).2.1 = B := by rw [h]
  have e3 : (q4 x2 x7 x8 x13).2.2.1 = C := by rw [h]
  have e4 : (q4 x2 x7 x8 x13).2.2.2 = D := by rw [h]
  rw [← e1, ← e2, ← e3, ← e4]
  clear e1 e2 e3 e4 h
  refine enter (L := []) (X := []) Try.func54 rfl Try.ntmps54 rfl rfl (Has.nil _) ?_
  repeat (first | refine c_seq ?_ | (refine c_region (id := 0) ?_; refine se ?_; refine eb ?_; refine se ?_; refine ea ?_; refine l_nil ?_) | (refine x_region (id := 1) (some 9) [(0, .n), (1, .n), (2, .n), (3, .q), (4, .n), (5, .n), (6, .q), (7, .n), (8, .n), (9, .b)] _ mixed (by kernel_rfl) (List.Sublist.refl _) ?_; refine xn rfl qm ?_; refine xn rfl qm ?_; refine xn rfl qia ?_; refine xq rfl ql ?_; refine xn rfl qm ?_; refine xn rfl qia ?_; refine xq rfl ql ?_; refine xn rfl qadd32 ?_; refine xn rfl qia ?_; refine x_b rfl ?_; (first | refine es1 ?_ | refine es2 ?_ | refine es3 ?_); refine x_k (List.nil_sublist _) ?_; refine x_nil ?_) | (refine x_region (id := 2) (some 10) [(0, .n), (1, .n), (2, .n), (3, .q), (4, .n), (5, .n), (6, .q), (7, .n), (8, .e), (9, .n), (10, .b)] _ mixed (by kernel_rfl) (List.Sublist.refl _) ?_; refine xn rfl qm ?_; refine xn rfl qm ?_; refine xn rfl qia ?_; refine xq rfl ql ?_; refine xn rfl qm ?_; refine xn rfl qia ?_; refine xq rfl ql ?_; refine xn rfl qxor ?_; refine x_e rfl ?_; refine ecp rfl rfl (fun w hC hm hL => by (first | exact left16c _ _ w | exact left12c _ _ w | exact left8c _ _ w | exact left7c _ _ w)) ?_; intro m' hm'; refine xk ?_; refine xn rfl qia ?_; refine x_b rfl ?_; (first | refine es1 ?_ | refine es2 ?_ | refine es3 ?_); refine x_k (List.nil_sublist _) ?_; refine x_nil ?_) | (refine x_region (id := 3) (some 9) [(0, .n), (1, .n), (2, .n), (3, .q), (4, .n), (5, .n), (6, .q), (7, .n), (8, .n), (9, .b)] _ mixed (by kernel_rfl) (List.Sublist.refl _) ?_; refine xn rfl qm ?_; refine xn rfl qm ?_; refine xn rfl qia ?_; refine xq rfl ql ?_; refine xn rfl qm ?_; refine xn rfl qia ?_; refine xq rfl ql ?_; refine xn rfl qadd32 ?_; refine xn rfl qia ?_; refine x_b rfl ?_; (first | refine es1 ?_ | refine es2 ?_ | refine es3 ?_); refine x_k (List.nil_sublist _) ?_; refine x_nil ?_) | (refine x_region (id := 4) (some 10) [(0, .n), (1, .n), (2, .n), (3, .q), (4, .n), (5, .n), (6, .q), (7, .n), (8, .e), (9, .n), (10, .b)] _ mixed (by kernel_rfl) (List.Sublist.refl _) ?_; refine xn rfl qm ?_; refine xn rfl qm ?_; refine xn rfl qia ?_; refine xq rfl ql ?_; refine xn rfl qm ?_; refine xn rfl qia ?_; refine xq rfl ql ?_; refine xn rfl qxor ?_; refine x_e rfl ?_; refine ecp rfl rfl (fun w hC hm hL => by (first | exact left16c _ _ w | exact left12c _ _ w | exact left8c _ _ w | exact left7c _ _ w)) ?_; intro m' hm'; refine xk ?_; refine xn rfl qia ?_; refine x_b rfl ?_; (first | refine es1 ?_ | refine es2 ?_ | refine es3 ?_); refine x_k (List.nil_sublist _) ?_; refine x_nil ?_) | (refine x_region (id := 5) (some 9) [(0, .n), (1, .n), (2, .n), (3, .q), (4, .n), (5, .n), (6, .q), (7, .n), (8, .n), (9, .b)] _ mixed (by kernel_rfl) (List.Sublist.refl _) ?_; refine xn rfl qm ?_; refine xn rfl qm ?_; refine xn rfl qia ?_; refine xq rfl ql ?_; refine xn rfl qm ?_; refine xn rfl qia ?_; refine xq rfl ql ?_; refine xn rfl qadd32 ?_; refine xn rfl qia ?_; refine x_b rfl ?_; (first | refine es1 ?_ | refine es2 ?_ | refine es3 ?_); refine x_k (List.nil_sublist _) ?_; refine x_nil ?_) | (refine x_region (id := 6) (some 10) [(0, .n), (1, .n), (2, .n), (3, .q), (4, .n), (5, .n), (6, .q), (7, .n), (8, .e), (9, .n), (10, .b)] _ mixed (by kernel_rfl) (List.Sublist.refl _) ?_; refine xn rfl qm ?_; refine xn rfl qm ?_; refine xn rfl qia ?_; refine xq rfl ql ?_; refine xn rfl qm ?_; refine xn rfl qia ?_; refine xq rfl ql ?_; refine xn rfl qxor ?_; refine x_e rfl ?_; refine ecp rfl rfl (fun w hC hm hL => by (first | exact left16c _ _ w | exact left12c _ _ w | exact left8c _ _ w | exact left7c _ _ w)) ?_; intro m' hm'; refine xk ?_; refine xn rfl qia ?_; refine x_b rfl ?_; (first | refine es1 ?_ | refine es2 ?_ | refine es3 ?_); refine x_k (List.nil_sublist _) ?_; refine x_nil ?_) | (refine x_region (id := 7) (some 9) [(0, .n), (1, .n), (2, .n), (3, .q), (4, .n), (5, .n), (6, .q), (7, .n), (8, .n), (9, .b)] _ mixed (by kernel_rfl) (List.Sublist.refl _) ?_; refine xn rfl qm ?_; refine xn rfl qm ?_; refine xn rfl qia ?_; refine xq rfl ql ?_; refine xn rfl qm ?_; refine xn rfl qia ?_; refine xq rfl ql ?_; refine xn rfl qadd32 ?_; refine xn rfl qia ?_; refine x_b rfl ?_; (first | refine es1 ?_ | refine es2 ?_ | refine es3 ?_); refine x_k (List.nil_sublist _) ?_; refine x_nil ?_) | (refine x_region (id := 8) (some 10) [(0, .n), (1, .n), (2, .n), (3, .q), (4, .n), (5, .n), (6, .q), (7, .n), (8, .e), (9, .n), (10, .b)] _ mixed (by kernel_rfl) (List.Sublist.refl _) ?_; refine xn rfl qm ?_; refine xn rfl qm ?_; refine xn rfl qia ?_; refine xq rfl ql ?_; refine xn rfl qm ?_; refine xn rfl qia ?_; refine xq rfl ql ?_; refine xn rfl qxor ?_; refine x_e rfl ?_; refine ecp rfl rfl (fun w hC hm hL => by (first | exact left16c _ _ w | exact left12c _ _ w | exact left8c _ _ w | exact left7c _ _ w)) ?_; intro m' hm'; refine xk ?_; refine xn rfl qia ?_; refine x_b rfl ?_; (first | refine es1 ?_ | refine es2 ?_ | refine es3 ?_); refine x_k (List.nil_sublist _) ?_; refine x_nil ?_) | (refine c_region (id := 9) ?_; refine sq (by first | exact qlb | exact qlr) ?_; refine se ?_; refine esa ?_; refine l_nil ?_) | refine n_then ?_ | refine c_block ?_ | refine c_skip ?_ | refine n_block ?_ | refine c_exit ?_ | refine n_then_exit ?_ | refine n_block_eq ?_ | refine n_block_ne rfl ?_ | refine c_ret ?_ | refine n_then_ret ?_ | refine n_block_ret ?_ | refine c_cond_t rfl ?_ | refine c_cond_f rfl ?_ | refine r_succ ?_ )
  (first | apply r_ret () | apply r_end ()); exact rfl; exact rfl; exact (.row rfl (by (repeat (first | exact List.Mem.head _ | apply List.Mem.tail))) (by rfl) .nil); exact rfl; exact (List.nil_sublist _); exact new_nil; exact trivial
set_option maxRecDepth 100000 in
set_option maxHeartbeats 1000000 in
theorem pq_3_4_9_14 (g : Nat) (x0 x1 x2 x3 x4 x5 x6 x7 x8 x9 x10 x11 x12 x13 x14 x15 A B C D : Int) (h : q4 x3 x4 x9 x14 = (A, B, C, D)) (w : World) (hL : Has [.blk g (.cells #[.int .u32 x0, .int .u32 x1, .int .u32 x2, .int .u32 x3, .int .u32 x4, .int .u32 x5, .int .u32 x6, .int .u32 x7, .int .u32 x8, .int .u32 x9, .int .u32 x10, .int .u32 x11, .int .u32 x12, .int .u32 x13, .int .u32 x14, .int .u32 x15] 95 (0, 0))] w) :
    CA Try.prog 65 [.pointer (some ⟨g, 3, none⟩), .pointer (some ⟨g, 4, none⟩), .pointer (some ⟨g, 9, none⟩), .pointer (some ⟨g, 14, none⟩)] w (Ret (fun (_ : Unit) => .tuple #[]) [g] (fun _ => [.blk g (.cells #[.int .u32 x0, .int .u32 x1, .int .u32 x2, .int .u32 A, .int .u32 B, .int .u32 x5, .int .u32 x6, .int .u32 x7, .int .u32 x8, .int .u32 C, .int .u32 x10, .int .u32 x11, .int .u32 x12, .int .u32 x13, .int .u32 D, .int .u32 x15] 95 (0, 0))]) (fun _ => True) w) := by
  have e1 : (q4 x3 x4 x9 x14).1 = A := by rw [h]
  have e2 : (q4 x3 x4 x9 x14).2.1 = B := by rw [h]
  have e3 : (q4 x3 x4 x9 x14).2.2.1 = C := by rw [h]
  have e4 : (q4 x3 x4 x9 x14).2.2.2 = D := by rw [h]
  rw [← e1, ← e2, ← e3, ← e4]
  clear e1 e2 e3 e4 h
  refine enter (L := _) (X := [g]) Try.func65 rfl Try.ntmps65 rfl rfl hL ?_
  repeat (first | refine c_seq ?_ | (refine x_region (id := 0) (some 8) [(0, .n), (1, .n), (2, .q), (3, .n), (4, .n), (5, .q), (6, .n), (7, .n), (8, .b)] _ mixed (by kernel_rfl) (List.Sublist.refl _) ?_; refine xn rfl qm ?_; refine xn rfl qn ?_; refine xq rfl ql ?_; refine xn rfl qm ?_; refine xn rfl qn ?_; refine xq rfl ql ?_; refine xn rfl qadd32 ?_; refine xn rfl qn ?_; refine x_b rfl ?_; (first | refine es1 ?_ | refine es2 ?_ | refine es3 ?_); refine x_k (List.nil_sublist _) ?_; refine x_nil ?_) | (refine x_region (id := 1) (some 10) [(0, .n), (1, .n), (2, .n), (3, .q), (4, .n), (5, .n), (6, .q), (7, .n), (8, .e), (9, .n), (10, .b)] _ mixed (by kernel_rfl) (List.Sublist.refl _) ?_; refine xn rfl qm ?_; refine xn rfl qm ?_; refine xn rfl qn ?_; refine xq rfl ql ?_; refine xn rfl qm ?_; refine xn rfl qn ?_; refine xq rfl ql ?_; refine xn rfl qxor ?_; refine x_e rfl ?_; refine ecp rfl rfl (fun w hC hm hL => by (first | exact rot16c _ _ w | exact rot12c _ _ w | exact rot8c _ _ w | exact rot7c _ _ w)) ?_; intro m' hm'; refine xk ?_; refine xn rfl qn ?_; refine x_b rfl ?_; (first | refine es1 ?_ | refine es2 ?_ | refine es3 ?_); refine x_k (List.nil_sublist _) ?_; refine x_nil ?_) | (refine x_region (id := 2) (some 8) [(0, .n), (1, .n), (2, .q), (3, .n), (4, .n), (5, .q), (6, .n), (7, .n), (8, .b)] _ mixed (by kernel_rfl) (List.Sublist.refl _) ?_; refine xn rfl qm ?_; refine xn rfl qn ?_; refine xq rfl ql ?_; refine xn rfl qm ?_; refine xn rfl qn ?_; refine xq rfl ql ?_; refine xn rfl qadd32 ?_; refine xn rfl qn ?_; refine x_b rfl ?_; (first | refine es1 ?_ | refine es2 ?_ | refine es3 ?_); refine x_k (List.nil_sublist _) ?_; refine x_nil ?_) | (refine x_region (id := 3) (some 10) [(0, .n), (1, .n), (2, .n), (3, .q), (4, .n), (5, .n), (6, .q), (7, .n), (8, .e), (9, .n), (10, .b)] _ mixed (by kernel_rfl) (List.Sublist.refl _) ?_; refine xn rfl qm ?_; refine xn rfl qm ?_; refine xn rfl qn ?_; refine xq rfl ql ?_; refine xn rfl qm ?_; refine xn rfl qn ?_; refine xq rfl ql ?_; refine xn rfl qxor ?_; refine x_e rfl ?_; refine ecp rfl rfl (fun w hC hm hL => by (first | exact rot16c _ _ w | exact rot12c _ _ w | exact rot8c _ _ w | exact rot7c _ _ w)) ?_; intro m' hm'; refine xk ?_; refine xn rfl qn ?_; refine x_b rfl ?_; (first | refine es1 ?_ | refine es2 ?_ | refine es3 ?_); refine x_k (List.nil_sublist _) ?_; refine x_nil ?_) | (refine x_region (id := 4) (some 8) [(0, .n), (1, .n), (2, .q), (3, .n), (4, .n), (5, .q), (6, .n), (7, .n), (8, .b)] _ mixed (by kernel_rfl) (List.Sublist.refl _) ?_; refine xn rfl qm ?_; refine xn rfl qn ?_; refine xq rfl ql ?_; refine xn rfl qm ?_; refine xn rfl qn ?_; refine xq rfl ql ?_; refine xn rfl qadd32 ?_; refine xn rfl qn ?_; refine x_b rfl ?_; (first | refine es1 ?_ | refine es2 ?_ | refine es3 ?_); refine x_k (List.nil_sublist _) ?_; refine x_nil ?_) | (refine x_region (id := 5) (some 10) [(0, .n), (1, .n), (2, .n), (3, .q), (4, .n), (5, .n), (6, .q), (7, .n), (8, .e), (9, .n), (10, .b)] _ mixed (by kernel_rfl) (List.Sublist.refl _) ?_; refine xn rfl qm ?_; refine xn rfl qm ?_; refine xn rfl qn ?_; refine xq rfl ql ?_; refine xn rfl qm ?_; refine xn rfl qn ?_; refine xq rfl ql ?_; refine xn rfl qxor ?_; refine x_e rfl ?_; refine ecp rfl rfl (fun w hC hm hL => by (first | exact rot16c _ _ w | exact rot12c _ _ w | exact rot8c _ _ w | exact rot7c _ _ w)) ?_; intro m' hm'; refine xk ?_; refine xn rfl qn ?_; refine x_b rfl ?_; (first | refine es1 ?_ | refine es2 ?_ | refine es3 ?_); refine x_k (List.nil_sublist _) ?_; refine x_nil ?_) | (refine x_region (id := 6) (some 8) [(0, .n), (1, .n), (2, .q), (3, .n), (4, .n), (5, .q), (6, .n), (7, .n), (8, .b)] _ mixed (by kernel_rfl) (List.Sublist.refl _) ?_; refine xn rfl qm ?_; refine xn rfl qn ?_; refine xq rfl ql ?_; refine xn rfl qm ?_; refine xn rfl qn ?_; refine xq rfl ql ?_; refine xn rfl qadd32 ?_; refine xn rfl qn ?_; refine x_b rfl ?_; (first | refine es1 ?_ | refine es2 ?_ | refine es3 ?_); refine x_k (List.nil_sublist _) ?_; refine x_nil ?_) | (refine x_region (id := 7) (some 10) [(0, .n), (1, .n), (2, .n), (3, .q), (4, .n), (5, .n), (6, .q), (7, .n), (8, .e), (9, .n), (10, .b)] _ mixed (by kernel_rfl) (List.Sublist.refl _) ?_; refine xn rfl qm ?_; refine xn rfl qm ?_; refine xn rfl qn ?_; refine xq rfl ql ?_; refine xn rfl qm ?_; refine xn rfl qn ?_; refine xq rfl ql ?_; refine xn rfl qxor ?_; refine x_e rfl ?_; refine ecp rfl rfl (fun w hC hm hL => by (first | exact rot16c _ _ w | exact rot12c _ _ w | exact rot8c _ _ w | exact rot7c _ _ w)) ?_; intro m' hm'; refine xk ?_; refine xn rfl qn ?_; refine x_b rfl ?_; (first | refine es1 ?_ | refine es2 ?_ | refine es3 ?_); refine x_k (List.nil_sublist _) ?_; refine x_nil ?_) | refine n_then ?_ | refine c_block ?_ | refine c_skip ?_ | refine n_block ?_ | refine c_exit ?_ | refine n_then_exit ?_ | refine n_block_eq ?_ | refine n_block_ne rfl ?_ | refine c_ret ?_ | refine n_then_ret ?_ | refine n_block_ret ?_ | refine c_cond_t rfl ?_ | refine c_cond_f rfl ?_ | refine r_succ ?_ )
  (first | apply r_ret () | apply r_end ()); exact rfl; exact rfl; exact .nil; exact rfl; exact (List.Sublist.refl _); exact (new_blk (.inl (by simp)) new_nil); exact trivial
set_option maxRecDepth 100000 in
set_option maxHeartbeats 1000000 in
theorem rq_3_4_9_14 (x0 x1 x2 x3 x4 x5 x6 x7 x8 x9 x10 x11 x12 x13 x14 x15 A B C D : Int) (h : q4 x3 x4 x9 x14 = (A, B, C, D)) (w : World) :
    CA Try.prog 54 [.agg #[.int .u32 x0, .int .u32 x1, .int .u32 x2, .int .u32 x3, .int .u32 x4, .int .u32 x5, .int .u32 x6, .int .u32 x7, .int .u32 x8, .int .u32 x9, .int .u32 x10, .int .u32 x11, .int .u32 x12, .int .u32 x13, .int .u32 x14, .int .u32 x15], .int .i64 3, .int .i64 4, .int .i64 9, .int .i64 14] w (RV (.agg #[.int .u32 x0, .int .u32 x1, .int .u32 x2, .int .u32 A, .int .u32 B, .int .u32 x5, .int .u32 x6, .int .u32 x7, .int .u32 x8, .int .u32 C, .int .u32 x10, .int .u32 x11, .int .u32 x12, .int .u32 x13, .int .u32 D, .int .u32 x15]) w) := by
  have e1 : (q4 x3 x4 x9 x14).1 = A := by rw [h]
  have e2 : (q4 x3 x4 x9 x14).2.1 = B := by rw [h]
  have e3 : (q4 x3 x4 x9 x14).2.2.1 = C := by rw [h]
  have e4 : (q4 x3 x4 x9 x14).2.2.2 = D := by rw [h]
  rw [← e1, ← e2, ← e3, ← e4]
  clear e1 e2 e3 e4 h
  refine enter (L := []) (X := []) Try.func54 rfl Try.ntmps54 rfl rfl (Has.nil _) ?_
  repeat (first | refine c_seq ?_ | (refine c_region (id := 0) ?_; refine se ?_; refine eb ?_; refine se ?_; refine ea ?_; refine l_nil ?_) | (refine x_region (id := 1) (some 9) [(0, .n), (1, .n), (2, .n), (3, .q), (4, .n), (5, .n), (6, .q), (7, .n), (8, .n), (9, .b)] _ mixed (by kernel_rfl) (List.Sublist.refl _) ?_; refine xn rfl qm ?_; refine xn rfl qm ?_; refine xn rfl qia ?_; refine xq rfl ql ?_; refine xn rfl qm ?_; refine xn rfl qia ?_; refine xq rfl ql ?_; refine xn rfl qadd32 ?_; refine xn rfl qia ?_; refine x_b rfl ?_; (first | refine es1 ?_ | refine es2 ?_ | refine es3 ?_); refine x_k (List.nil_sublist _) ?_; refine x_nil ?_) | (refine x_region (id := 2) (some 10) [(0, .n), (1, .n), (2, .n), (3, .q), (4, .n), (5, .n), (6, .q), (7, .n), (8, .e), (9, .n), (10, .b)] _ mixed (by kernel_rfl) (List.Sublist.refl _) ?_; refine xn rfl qm ?_; refine xn rfl qm ?_; refine xn rfl qia ?_; refine xq rfl ql ?_; refine xn rfl qm ?_; refine xn rfl qia ?_; refine xq rfl ql ?_; refine xn rfl qxor ?_; refine x_e rfl ?_; refine ecp rfl rfl (fun w hC hm hL => by (first | exact left16c _ _ w | exact left12c _ _ w | exact left8c _ _ w | exact left7c _ _ w)) ?_; intro m' hm'; refine xk ?_; refine xn rfl qia ?_; refine x_b rfl ?_; (first | refine es1 ?_ | refine es2 ?_ | refine es3 ?_); refine x_k (List.nil_sublist _) ?_; refine x_nil ?_) | (refine x_region (id := 3) (some 9) [(0, .n), (1, .n), (2, .n), (3, .q), (4, .n), (5, .n), (6, .q), (7, .n), (8, .n), (9, .b)] _ mixed (by kernel_rfl) (List.Sublist.refl _) ?_; refine xn rfl qm ?_; refine xn rfl qm ?_; refine xn rfl qia ?_; refine xq rfl ql ?_; refine xn rfl qm ?_; refine xn rfl qia ?_; refine xq rfl ql ?_; refine xn rfl qadd32 ?_; refine xn rfl qia ?_; refine x_b rfl ?_; (first | refine es1 ?_ | refine es2 ?_ | refine es3 ?_); refine x_k (List.nil_sublist _) ?_; refine x_nil ?_) | (refine x_region (id := 4) (some 10) [(0, .n), (1, .n), (2, .n), (3, .q), (4, .n), (5, .n), (6, .q), (7, .n), (8, .e), (9, .n), (10, .b)] _ mixed (by kernel_rfl) (List.Sublist.refl _) ?_; refine xn rfl qm ?_; refine xn rfl qm ?_; refine xn rfl qia ?_; refine xq rfl ql ?_; refine xn rfl qm ?_; refine xn rfl qia ?_; refine xq rfl ql ?_; refine xn rfl qxor ?_; refine x_e rfl ?_; refine ecp rfl rfl (fun w hC hm hL => by (first | exact left16c _ _ w | exact left12c _ _ w | exact left8c _ _ w | exact left7c _ _ w)) ?_; intro m' hm'; refine xk ?_; refine xn rfl qia ?_; refine x_b rfl ?_; (first | refine es1 ?_ | refine es2 ?_ | refine es3 ?_); refine x_k (List.nil_sublist _) ?_; refine x_nil ?_) | (refine x_region (id := 5) (some 9) [(0, .n), (1, .n), (2, .n), (3, .q), (4, .n), (5, .n), (6, .q), (7, .n), (8, .n), (9, .b)] _ mixed (by kernel_rfl) (List.Sublist.refl _) ?_; refine xn rfl qm ?_; refine xn rfl qm ?_; refine xn rfl qia ?_; refine xq rfl ql ?_; refine xn rfl qm ?_; refine xn rfl qia ?_; refine xq rfl ql ?_; refine xn rfl qadd32 ?_; refine xn rfl qia ?_; refine x_b rfl ?_; (first | refine es1 ?_ | refine es2 ?_ | refine es3 ?_); refine x_k (List.nil_sublist _) ?_; refine x_nil ?_) | (refine x_region (id := 6) (some 10) [(0, .n), (1, .n), (2, .n), (3, .q), (4, .n), (5, .n), (6, .q), (7, .n), (8, .e), (9, .n), (10, .b)] _ mixed (by kernel_rfl) (List.Sublist.refl _) ?_; refine xn rfl qm ?_; refine xn rfl qm ?_; refine xn rfl qia ?_; refine xq rfl ql ?_; refine xn rfl qm ?_; refine xn rfl qia ?_; refine xq rfl ql ?_; refine xn rfl qxor ?_; refine x_e rfl ?_; refine ecp rfl rfl (fun w hC hm hL => by (first | exact left16c _ _ w | exact left12c _ _ w | exact left8c _ _ w | exact left7c _ _ w)) ?_; intro m' hm'; refine xk ?_; refine xn rfl qia ?_; refine x_b rfl ?_; (first | refine es1 ?_ | refine es2 ?_ | refine es3 ?_); refine x_k (List.nil_sublist _) ?_; refine x_nil ?_) | (refine x_region (id := 7) (some 9) [(0, .n), (1, .n), (2, .n), (3, .q), (4, .n), (5, .n), (6, .q), (7, .n), (8, .n), (9, .b)] _ mixed (by kernel_rfl) (List.Sublist.refl _) ?_; refine xn rfl qm ?_; refine xn rfl qm ?_; refine xn rfl qia ?_; refine xq rfl ql ?_; refine xn rfl qm ?_; refine xn rfl qia ?_; refine xq rfl ql ?_; refine xn rfl qadd32 ?_; refine xn rfl qia ?_; refine x_b rfl ?_; (first | refine es1 ?_ | refine es2 ?_ | refine es3 ?_); refine x_k (List.nil_sublist _) ?_; refine x_nil ?_) | (refine x_region (id := 8) (some 10) [(0, .n), (1, .n), (2, .n), (3, .q), (4, .n), (5, .n), (6, .q), (7, .n), (8, .e), (9, .n), (10, .b)] _ mixed (by kernel_rfl) (List.Sublist.refl _) ?_; refine xn rfl qm ?_; refine xn rfl qm ?_; refine xn rfl qia ?_; refine xq rfl ql ?_; refine xn rfl qm ?_; refine xn rfl qia ?_; refine xq rfl ql ?_; refine xn rfl qxor ?_; refine x_e rfl ?_; refine ecp rfl rfl (fun w hC hm hL => by (first | exact left16c _ _ w | exact left12c _ _ w | exact left8c _ _ w | exact left7c _ _ w)) ?_; intro m' hm'; refine xk ?_; refine xn rfl qia ?_; refine x_b rfl ?_; (first | refine es1 ?_ | refine es2 ?_ | refine es3 ?_); refine x_k (List.nil_sublist _) ?_; refine x_nil ?_) | (refine c_region (id := 9) ?_; refine sq (by first | exact qlb | exact qlr) ?_; refine se ?_; refine esa ?_; refine l_nil ?_) | refine n_then ?_ | refine c_block ?_ | refine c_skip ?_ | refine n_block ?_ | refine c_exit ?_ | refine n_then_exit ?_ | refine n_block_eq ?_ | refine n_block_ne rfl ?_ | refine c_ret ?_ | refine n_then_ret ?_ | refine n_block_ret ?_ | refine c_cond_t rfl ?_ | refine c_cond_f rfl ?_ | refine r_succ ?_ )
  (first | apply r_ret () | apply r_end ()); exact rfl; exact rfl; exact (.row rfl (by (repeat (first | exact List.Mem.head _ | apply List.Mem.tail))) (by rfl) .nil); exact rfl; exact (List.nil_sublist _); exact new_nil; exact trivial
end Go.Proofs.Yteopejjlhmghbaa
