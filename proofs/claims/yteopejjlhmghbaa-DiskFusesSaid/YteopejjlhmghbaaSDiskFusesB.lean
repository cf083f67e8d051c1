/- Proved: for every input, the law jalousielaw07.DiskFuses returns true and does not panic, and each argument reads behind the call as it read before. Conditions: none. -/
import Derived.Test.YteopejjlhmghbaaSDiskFusesA
namespace Go.Proofs.Yteopejjlhmghbaa
open Go
instance : UT Try.prog 0 (TypeDesc.tuple #[]) := ⟨Try.underlying0⟩
instance : SzT Try.prog 0 1 := ⟨by kernel_rfl⟩
instance : ByT Try.prog 0 0 := ⟨by kernel_rfl⟩
instance : FlT Try.prog 0 := ⟨by kernel_rfl⟩
instance : UT Try.prog 1 (TypeDesc.func #[] #[] false) := ⟨Try.underlying1⟩
instance : SzT Try.prog 1 1 := ⟨by kernel_rfl⟩
instance : ByT Try.prog 1 8 := ⟨by kernel_rfl⟩
instance : ZrT Try.prog 1 (#[Value.nilFunc]) := ⟨by kernel_rfl⟩
instance : FlT Try.prog 1 := ⟨by kernel_rfl⟩
instance : UT Try.prog 2 (TypeDesc.int IntKind.i64) := ⟨Try.underlying2⟩
instance : SzT Try.prog 2 1 := ⟨by kernel_rfl⟩
instance : ByT Try.prog 2 8 := ⟨by kernel_rfl⟩
instance : ZrT Try.prog 2 (#[Value.int .i64 0]) := ⟨by kernel_rfl⟩
instance : FlT Try.prog 2 := ⟨by kernel_rfl⟩
instance : UT Try.prog 3 (TypeDesc.int IntKind.i64) := ⟨Try.underlying3⟩
instance : SzT Try.prog 3 1 := ⟨by kernel_rfl⟩
instance : ByT Try.prog 3 8 := ⟨by kernel_rfl⟩
instance : ZrT Try.prog 3 (#[Value.int .i64 0]) := ⟨by kernel_rfl⟩
instance : FlT Try.prog 3 := ⟨by kernel_rfl⟩
instance : UT Try.prog 4 TypeDesc.bool := ⟨Try.underlying4⟩
instance : SzT Try.prog 4 1 := ⟨by kernel_rfl⟩
instance : ByT Try.prog 4 1 := ⟨by kernel_rfl⟩
instance : ZrT Try.prog 4 (#[Value.bool false]) := ⟨by kernel_rfl⟩
instance : FlT Try.prog 4 := ⟨by kernel_rfl⟩
instance : UT Try.prog 5 (TypeDesc.int IntKind.u8) := ⟨Try.underlying5⟩
instance : SzT Try.prog 5 1 := ⟨by kernel_rfl⟩
instance : ByT Try.prog 5 1 := ⟨by kernel_rfl⟩
instance : ZrT Try.prog 5 (#[Value.int .u8 0]) := ⟨by kernel_rfl⟩
instance : FlT Try.prog 5 := ⟨by kernel_rfl⟩
instance : UT Try.prog 6 (TypeDesc.int IntKind.u8) := ⟨Try.underlying6⟩
instance : SzT Try.prog 6 1 := ⟨by kernel_rfl⟩
instance : ByT Try.prog 6 1 := ⟨by kernel_rfl⟩
instance : ZrT Try.prog 6 (#[Value.int .u8 0]) := ⟨by kernel_rfl⟩
instance : FlT Try.prog 6 := ⟨by kernel_rfl⟩
instance : UT Try.prog 7 (TypeDesc.struct #[{ name := "x", type := 2, offset := 0, embedded := false, tag := "", pkgPath := "runtime", byteOffset := 0 }, { name := "y", type := 3, offset := 1, embedded := false, tag := "", pkgPath := "runtime", byteOffset := 8 }, { name := "signed", type := 4, offset := 2, embedded := false, tag := "", pkgPath := "runtime", byteOffset := 16 }, { name := "code", type := 6, offset := 3, embedded := false, tag := "", pkgPath := "runtime", byteOffset := 17 }]) := ⟨Try.underlying7⟩
instance : SzT Try.prog 7 4 := ⟨by kernel_rfl⟩
instance : ByT Try.prog 7 24 := ⟨by kernel_rfl⟩
instance : ZrT Try.prog 7 (#[Value.int .i64 0, Value.int .i64 0, Value.bool false, Value.int .u8 0]) := ⟨by kernel_rfl⟩
instance : RwT Try.prog 7 4 := ⟨by kernel_rfl⟩
instance : PlT Try.prog 7 [(0, 1), (1, 1), (2, 1), (3, 1)] := ⟨by kernel_rfl⟩
instance : UT Try.prog 8 (TypeDesc.struct #[{ name := "x", type := 2, offset := 0, embedded := false, tag := "", pkgPath := "runtime", byteOffset := 0 }, { name := "y", type := 3, offset := 1, embedded := false, tag := "", pkgPath := "runtime", byteOffset := 8 }, { name := "signed", type := 4, offset := 2, embedded := false, tag := "", pkgPath := "runtime", byteOffset := 16 }, { name := "code", type := 6, offset := 3, embedded := false, tag := "", pkgPath := "runtime", byteOffset := 17 }]) := ⟨Try.underlying8⟩
instance : SzT Try.prog 8 4 := ⟨by kernel_rfl⟩
instance : ByT Try.prog 8 24 := ⟨by kernel_rfl⟩
instance : ZrT Try.prog 8 (#[Value.int .i64 0, Value.int .i64 0, Value.bool false, Value.int .u8 0]) := ⟨by kernel_rfl⟩
instance : RwT Try.prog 8 4 := ⟨by kernel_rfl⟩
instance : PlT Try.prog 8 [(0, 1), (1, 1), (2, 1), (3, 1)] := ⟨by kernel_rfl⟩
instance : UT Try.prog 9 TypeDesc.string := ⟨Try.underlying9⟩
instance : SzT Try.prog 9 1 := ⟨by kernel_rfl⟩
instance : ByT Try.prog 9 16 := ⟨by kernel_rfl⟩
instance : ZrT Try.prog 9 (#[Value.string ByteArray.empty]) := ⟨by kernel_rfl⟩
instance : FlT Try.prog 9 := ⟨by kernel_rfl⟩
instance : UT Try.prog 10 TypeDesc.string := ⟨Try.underlying10⟩
instance : SzT Try.prog 10 1 := ⟨by kernel_rfl⟩
instance : ByT Try.prog 10 16 := ⟨by kernel_rfl⟩
instance : ZrT Try.prog 10 (#[Value.string ByteArray.empty]) := ⟨by kernel_rfl⟩
instance : FlT Try.prog 10 := ⟨by kernel_rfl⟩
instance : UT Try.prog 11 TypeDesc.string := ⟨Try.underlying11⟩
instance : SzT Try.prog 11 1 := ⟨by kernel_rfl⟩
instance : ByT Try.prog 11 16 := ⟨by kernel_rfl⟩
instance : ZrT Try.prog 11 (#[Value.string ByteArray.empty]) := ⟨by kernel_rfl⟩
instance : FlT Try.prog 11 := ⟨by kernel_rfl⟩
instance : UT Try.prog 12 (TypeDesc.int IntKind.u64) := ⟨Try.underlying12⟩
instance : SzT Try.prog 12 1 := ⟨by kernel_rfl⟩
instance : ByT Try.prog 12 8 := ⟨by kernel_rfl⟩
instance : ZrT Try.prog 12 (#[Value.int .u64 0]) := ⟨by kernel_rfl⟩
instance : FlT Try.prog 12 := ⟨by kernel_rfl⟩
instance : UT Try.prog 13 (TypeDesc.struct #[{ name := "msg", type := 9, offset := 0, embedded := false, tag := "", pkgPath := "runtime", byteOffset := 0 }, { name := "addr", type := 12, offset := 1, embedded := false, tag := "", pkgPath := "runtime", byteOffset := 16 }]) := ⟨Try.underlying13⟩
instance : SzT Try.prog 13 2 := ⟨by kernel_rfl⟩
instance : ByT Try.prog 13 24 := ⟨by kernel_rfl⟩
instance : ZrT Try.prog 13 (#[Value.string ByteArray.empty, Value.int .u64 0]) := ⟨by kernel_rfl⟩
instance : RwT Try.prog 13 2 := ⟨by kernel_rfl⟩
instance : PlT Try.prog 13 [(0, 1), (1, 1)] := ⟨by kernel_rfl⟩
instance : UT Try.prog 14 (TypeDesc.struct #[{ name := "msg", type := 9, offset := 0, embedded := false, tag := "", pkgPath := "runtime", byteOffset := 0 }, { name := "addr", type := 12, offset := 1, embedded := false, tag := "", pkgPath := "runtime", byteOffset := 16 }]) := ⟨Try.underlying14⟩
instance : SzT Try.prog 14 2 := ⟨by kernel_rfl⟩
instance : ByT Try.prog 14 24 := ⟨by kernel_rfl⟩
instance : ZrT Try.prog 14 (#[Value.string ByteArray.empty, Value.int .u64 0]) := ⟨by kernel_rfl⟩
instance : RwT Try.prog 14 2 := ⟨by kernel_rfl⟩
instance : PlT Try.prog 14 [(0, 1), (1, 1)] := ⟨by kernel_rfl⟩
instance : UT Try.prog 15 (TypeDesc.pointer 145) := ⟨Try.underlying15⟩
instance : SzT Try.prog 15 1 := ⟨by kernel_rfl⟩
instance : ByT Try.prog 15 8 := ⟨by kernel_rfl⟩
instance : ZrT Try.prog 15 (#[Value.pointer none]) := ⟨by kernel_rfl⟩
instance : FlT Try.prog 15 := ⟨by kernel_rfl⟩
instance : UT Try.prog 16 (TypeDesc.pointer 148) := ⟨Try.underlying16⟩
instance : SzT Try.prog 16 1 := ⟨by kernel_rfl⟩
instance : ByT Try.prog 16 8 := ⟨by kernel_rfl⟩
instance : ZrT Try.prog 16 (#[Value.pointer none]) := ⟨by kernel_rfl⟩
instance : FlT Try.prog 16 := ⟨by kernel_rfl⟩
instance : UT Try.prog 17 (TypeDesc.pointer 156) := ⟨Try.underlying17⟩
instance : SzT Try.prog 17 1 := ⟨by kernel_rfl⟩
instance : ByT Try.prog 17 8 := ⟨by kernel_rfl⟩
instance : ZrT Try.prog 17 (#[Value.pointer none]) := ⟨by kernel_rfl⟩
instance : FlT Try.prog 17 := ⟨by kernel_rfl⟩
instance : UT Try.prog 18 (TypeDesc.struct #[{ name := "typ", type := 17, offset := 0, embedded := false, tag := "", pkgPath := "internal/runtime/maps", byteOffset := 0 }]) := ⟨Try.underlying18⟩
instance : SzT Try.prog 18 1 := ⟨by kernel_rfl⟩
instance : ByT Try.prog 18 8 := ⟨by kernel_rfl⟩
instance : ZrT Try.prog 18 (#[Value.pointer none]) := ⟨by kernel_rfl⟩
instance : RwT Try.prog 18 1 := ⟨by kernel_rfl⟩
instance : PlT Try.prog 18 [(0, 1)] := ⟨by kernel_rfl⟩
instance : UT Try.prog 19 (TypeDesc.struct #[{ name := "typ", type := 17, offset := 0, embedded := false, tag := "", pkgPath := "internal/runtime/maps", byteOffset := 0 }]) := ⟨Try.underlying19⟩
instance : SzT Try.prog 19 1 := ⟨by kernel_rfl⟩
instance : ByT Try.prog 19 8 := ⟨by kernel_rfl⟩
instance : ZrT Try.prog 19 (#[Value.pointer none]) := ⟨by kernel_rfl⟩
instance : RwT Try.prog 19 1 := ⟨by kernel_rfl⟩
instance : PlT Try.prog 19 [(0, 1)] := ⟨by kernel_rfl⟩
instance : UT Try.prog 20 (TypeDesc.interface #[]) := ⟨Try.underlying20⟩
instance : SzT Try.prog 20 1 := ⟨by kernel_rfl⟩
instance : ByT Try.prog 20 16 := ⟨by kernel_rfl⟩
instance : ZrT Try.prog 20 (#[Value.nilIface]) := ⟨by kernel_rfl⟩
instance : FlT Try.prog 20 := ⟨by kernel_rfl⟩
instance : UT Try.prog 21 (TypeDesc.int IntKind.i32) := ⟨Try.underlying21⟩
instance : SzT Try.prog 21 1 := ⟨by kernel_rfl⟩
instance : ByT Try.prog 21 4 := ⟨by kernel_rfl⟩
instance : ZrT Try.prog 21 (#[Value.int .i32 0]) := ⟨by kernel_rfl⟩
instance : FlT Try.prog 21 := ⟨by kernel_rfl⟩
instance : UT Try.prog 22 (TypeDesc.int IntKind.u32) := ⟨Try.underlying22⟩
instance : SzT Try.prog 22 1 := ⟨by kernel_rfl⟩
instance : ByT Try.prog 22 4 := ⟨by kernel_rfl⟩
instance : ZrT Try.prog 22 (#[Value.int .u32 0]) := ⟨by kernel_rfl⟩
instance : FlT Try.prog 22 := ⟨by kernel_rfl⟩
instance : UT Try.prog 23 (TypeDesc.array 2 22) := ⟨Try.underlying23⟩
instance : SzT Try.prog 23 2 := ⟨by kernel_rfl⟩
instance : ByT Try.prog 23 8 := ⟨by kernel_rfl⟩
instance : ZrT Try.prog 23 (#[Value.int .u32 0, Value.int .u32 0]) := ⟨by kernel_rfl⟩
instance : RwT Try.prog 23 2 := ⟨by kernel_rfl⟩
instance : UT Try.prog 24 (TypeDesc.int IntKind.u64) := ⟨Try.underlying24⟩
instance : SzT Try.prog 24 1 := ⟨by kernel_rfl⟩
instance : ByT Try.prog 24 8 := ⟨by kernel_rfl⟩
instance : ZrT Try.prog 24 (#[Value.int .u64 0]) := ⟨by kernel_rfl⟩
instance : FlT Try.prog 24 := ⟨by kernel_rfl⟩
instance : UT Try.prog 25 (TypeDesc.array 2 24) := ⟨Try.underlying25⟩
instance : SzT Try.prog 25 2 := ⟨by kernel_rfl⟩
instance : ByT Try.prog 25 16 := ⟨by kernel_rfl⟩
instance : ZrT Try.prog 25 (#[Value.int .u64 0, Value.int .u64 0]) := ⟨by kernel_rfl⟩
instance : RwT Try.prog 25 2 := ⟨by kernel_rfl⟩
instance : UT Try.prog 26 (TypeDesc.array 12 5) := ⟨Try.underlying26⟩
instance : SzT Try.prog 26 12 := ⟨by kernel_rfl⟩
instance : ByT Try.prog 26 12 := ⟨by kernel_rfl⟩
instance : ZrT Try.prog 26 (#[Value.int .u8 0, Value.int .u8 0, Value.int .u8 0, Value.int .u8 0, Value.int .u8 0, Value.int .u8 0, Value.int .u8 0, Value.int .u8 0, Value.int .u8 0, Value.int .u8 0, Value.int .u8 0, Value.int .u8 0]) := ⟨by kernel_rfl⟩
instance : RwT Try.prog 26 12 := ⟨by kernel_rfl⟩
instance : UT Try.prog 27 (TypeDesc.func #[3, 24] #[26] false) := ⟨Try.underlying27⟩
instance : SzT Try.prog 27 1 := ⟨by kernel_rfl⟩
instance : ByT Try.prog 27 8 := ⟨by kernel_rfl⟩
instance : ZrT Try.prog 27 (#[Value.nilFunc]) := ⟨by kernel_rfl⟩
instance : FlT Try.prog 27 := ⟨by kernel_rfl⟩
instance : UT Try.prog 28 (TypeDesc.func #[] #[4] false) := ⟨Try.underlying28⟩
instance : SzT Try.prog 28 1 := ⟨by kernel_rfl⟩
instance : ByT Try.prog 28 8 := ⟨by kernel_rfl⟩
instance : ZrT Try.prog 28 (#[Value.nilFunc]) := ⟨by kernel_rfl⟩
instance : FlT Try.prog 28 := ⟨by kernel_rfl⟩
instance : UT Try.prog 29 (TypeDesc.func #[22, 24] #[26] false) := ⟨Try.underlying29⟩
instance : SzT Try.prog 29 1 := ⟨by kernel_rfl⟩
instance : ByT Try.prog 29 8 := ⟨by kernel_rfl⟩
instance : ZrT Try.prog 29 (#[Value.nilFunc]) := ⟨by kernel_rfl⟩
instance : FlT Try.prog 29 := ⟨by kernel_rfl⟩
instance : UT Try.prog 30 (TypeDesc.func #[23, 25] #[4] false) := ⟨Try.underlying30⟩
instance : SzT Try.prog 30 1 := ⟨by kernel_rfl⟩
instance : ByT Try.prog 30 8 := ⟨by kernel_rfl⟩
instance : ZrT Try.prog 30 (#[Value.nilFunc]) := ⟨by kernel_rfl⟩
instance : FlT Try.prog 30 := ⟨by kernel_rfl⟩
instance : UT Try.prog 31 (TypeDesc.array 32 5) := ⟨Try.underlying31⟩
instance : SzT Try.prog 31 32 := ⟨by kernel_rfl⟩
instance : ByT Try.prog 31 32 := ⟨by kernel_rfl⟩
instance : ZrT Try.prog 31 ((List.replicate 32 (Value.int .u8 0)).toArray) := ⟨by kernel_rfl⟩
instance : RwT Try.prog 31 32 := ⟨by kernel_rfl⟩
instance : UT Try.prog 32 (TypeDesc.array 32 5) := ⟨Try.underlying32⟩
instance : SzT Try.prog 32 32 := ⟨by kernel_rfl⟩
instance : ByT Try.prog 32 32 := ⟨by kernel_rfl⟩
instance : ZrT Try.prog 32 ((List.replicate 32 (Value.int .u8 0)).toArray) := ⟨by kernel_rfl⟩
instance : RwT Try.prog 32 32 := ⟨by kernel_rfl⟩
instance : UT Try.prog 33 (TypeDesc.slice 5) := ⟨Try.underlying33⟩
instance : SzT Try.prog 33 1 := ⟨by kernel_rfl⟩
instance : ByT Try.prog 33 24 := ⟨by kernel_rfl⟩
instance : ZrT Try.prog 33 (#[Value.slice none 0 0]) := ⟨by kernel_rfl⟩
instance : FlT Try.prog 33 := ⟨by kernel_rfl⟩
instance : UT Try.prog 34 (TypeDesc.array 2 33) := ⟨Try.underlying34⟩
instance : SzT Try.prog 34 2 := ⟨by kernel_rfl⟩
instance : ByT Try.prog 34 48 := ⟨by kernel_rfl⟩
instance : ZrT Try.prog 34 (#[Value.slice none 0 0, Value.slice none 0 0]) := ⟨by kernel_rfl⟩
instance : RwT Try.prog 34 2 := ⟨by kernel_rfl⟩
instance : UT Try.prog 35 (TypeDesc.func #[32, 26, 33, 33] #[33] false) := ⟨Try.underlying35⟩
instance : SzT Try.prog 35 1 := ⟨by kernel_rfl⟩
instance : ByT Try.prog 35 8 := ⟨by kernel_rfl⟩
instance : ZrT Try.prog 35 (#[Value.nilFunc]) := ⟨by kernel_rfl⟩
instance : FlT Try.prog 35 := ⟨by kernel_rfl⟩
instance : UT Try.prog 36 (TypeDesc.func #[31, 26, 33, 33] #[33] false) := ⟨Try.underlying36⟩
instance : SzT Try.prog 36 1 := ⟨by kernel_rfl⟩
instance : ByT Try.prog 36 8 := ⟨by kernel_rfl⟩
instance : ZrT Try.prog 36 (#[Value.nilFunc]) := ⟨by kernel_rfl⟩
instance : FlT Try.prog 36 := ⟨by kernel_rfl⟩
instance : UT Try.prog 37 (TypeDesc.func #[32, 25, 34] #[4] false) := ⟨Try.underlying37⟩
instance : SzT Try.prog 37 1 := ⟨by kernel_rfl⟩
instance : ByT Try.prog 37 8 := ⟨by kernel_rfl⟩
instance : ZrT Try.prog 37 (#[Value.nilFunc]) := ⟨by kernel_rfl⟩
instance : FlT Try.prog 37 := ⟨by kernel_rfl⟩
instance : UT Try.prog 38 (TypeDesc.pointer 74) := ⟨Try.underlying38⟩
instance : SzT Try.prog 38 1 := ⟨by kernel_rfl⟩
instance : ByT Try.prog 38 8 := ⟨by kernel_rfl⟩
instance : ZrT Try.prog 38 (#[Value.pointer none]) := ⟨by kernel_rfl⟩
instance : FlT Try.prog 38 := ⟨by kernel_rfl⟩
instance : UT Try.prog 39 (TypeDesc.func #[3] #[38] false) := ⟨Try.underlying39⟩
instance : SzT Try.prog 39 1 := ⟨by kernel_rfl⟩
instance : ByT Try.prog 39 8 := ⟨by kernel_rfl⟩
instance : ZrT Try.prog 39 (#[Value.nilFunc]) := ⟨by kernel_rfl⟩
instance : FlT Try.prog 39 := ⟨by kernel_rfl⟩
instance : UT Try.prog 40 (TypeDesc.func #[5, 33] #[33] false) := ⟨Try.underlying40⟩
instance : SzT Try.prog 40 1 := ⟨by kernel_rfl⟩
instance : ByT Try.prog 40 8 := ⟨by kernel_rfl⟩
instance : ZrT Try.prog 40 (#[Value.nilFunc]) := ⟨by kernel_rfl⟩
instance : FlT Try.prog 40 := ⟨by kernel_rfl⟩
instance : UT Try.prog 41 (TypeDesc.int IntKind.i64) := ⟨Try.underlying41⟩
instance : SzT Try.prog 41 1 := ⟨by kernel_rfl⟩
instance : ByT Try.prog 41 8 := ⟨by kernel_rfl⟩
instance : ZrT Try.prog 41 (#[Value.int .i64 0]) := ⟨by kernel_rfl⟩
instance : FlT Try.prog 41 := ⟨by kernel_rfl⟩
instance : UT Try.prog 42 (TypeDesc.func #[3, 33] #[41] false) := ⟨Try.underlying42⟩
instance : SzT Try.prog 42 1 := ⟨by kernel_rfl⟩
instance : ByT Try.prog 42 8 := ⟨by kernel_rfl⟩
instance : ZrT Try.prog 42 (#[Value.nilFunc]) := ⟨by kernel_rfl⟩
instance : FlT Try.prog 42 := ⟨by kernel_rfl⟩
instance : UT Try.prog 43 (TypeDesc.tuple #[33, 41]) := ⟨Try.underlying43⟩
instance : SzT Try.prog 43 1 := ⟨by kernel_rfl⟩
instance : ByT Try.prog 43 0 := ⟨by kernel_rfl⟩
instance : FlT Try.prog 43 := ⟨by kernel_rfl⟩
instance : UT Try.prog 44 (TypeDesc.func #[3] #[33, 41] false) := ⟨Try.underlying44⟩
instance : SzT Try.prog 44 1 := ⟨by kernel_rfl⟩
instance : ByT Try.prog 44 8 := ⟨by kernel_rfl⟩
instance : ZrT Try.prog 44 (#[Value.nilFunc]) := ⟨by kernel_rfl⟩
instance : FlT Try.prog 44 := ⟨by kernel_rfl⟩
instance : UT Try.prog 45 (TypeDesc.func #[33] #[4] false) := ⟨Try.underlying45⟩
instance : SzT Try.prog 45 1 := ⟨by kernel_rfl⟩
instance : ByT Try.prog 45 8 := ⟨by kernel_rfl⟩
instance : ZrT Try.prog 45 (#[Value.nilFunc]) := ⟨by kernel_rfl⟩
instance : FlT Try.prog 45 := ⟨by kernel_rfl⟩
instance : UT Try.prog 46 (TypeDesc.slice 52) := ⟨Try.underlying46⟩
instance : SzT Try.prog 46 1 := ⟨by kernel_rfl⟩
instance : ByT Try.prog 46 24 := ⟨by kernel_rfl⟩
instance : ZrT Try.prog 46 (#[Value.slice none 0 0]) := ⟨by kernel_rfl⟩
instance : FlT Try.prog 46 := ⟨by kernel_rfl⟩
instance : UT Try.prog 47 (TypeDesc.func #[46] #[4] false) := ⟨Try.underlying47⟩
instance : SzT Try.prog 47 1 := ⟨by kernel_rfl⟩
instance : ByT Try.prog 47 8 := ⟨by kernel_rfl⟩
instance : ZrT Try.prog 47 (#[Value.nilFunc]) := ⟨by kernel_rfl⟩
instance : FlT Try.prog 47 := ⟨by kernel_rfl⟩
instance : UT Try.prog 48 (TypeDesc.pointer 81) := ⟨Try.underlying48⟩
instance : SzT Try.prog 48 1 := ⟨by kernel_rfl⟩
instance : ByT Try.prog 48 8 := ⟨by kernel_rfl⟩
instance : ZrT Try.prog 48 (#[Value.pointer none]) := ⟨by kernel_rfl⟩
instance : FlT Try.prog 48 := ⟨by kernel_rfl⟩
instance : UT Try.prog 49 (TypeDesc.func #[3] #[48] false) := ⟨Try.underlying49⟩
instance : SzT Try.prog 49 1 := ⟨by kernel_rfl⟩
instance : ByT Try.prog 49 8 := ⟨by kernel_rfl⟩
instance : ZrT Try.prog 49 (#[Value.nilFunc]) := ⟨by kernel_rfl⟩
instance : FlT Try.prog 49 := ⟨by kernel_rfl⟩
instance : UT Try.prog 50 (TypeDesc.func #[38, 48, 52] #[4] false) := ⟨Try.underlying50⟩
instance : SzT Try.prog 50 1 := ⟨by kernel_rfl⟩
instance : ByT Try.prog 50 8 := ⟨by kernel_rfl⟩
instance : ZrT Try.prog 50 (#[Value.nilFunc]) := ⟨by kernel_rfl⟩
instance : FlT Try.prog 50 := ⟨by kernel_rfl⟩
instance : UT Try.prog 51 (TypeDesc.struct #[{ name := "Kind", type := 5, offset := 0, embedded := false, tag := "", pkgPath := "", byteOffset := 0 }, { name := "I", type := 3, offset := 1, embedded := false, tag := "", pkgPath := "", byteOffset := 8 }, { name := "X", type := 5, offset := 2, embedded := false, tag := "", pkgPath := "", byteOffset := 16 }, { name := "B", type := 33, offset := 3, embedded := false, tag := "", pkgPath := "", byteOffset := 24 }]) := ⟨Try.underlying51⟩
instance : SzT Try.prog 51 4 := ⟨by kernel_rfl⟩
instance : ByT Try.prog 51 48 := ⟨by kernel_rfl⟩
instance : ZrT Try.prog 51 (#[Value.int .u8 0, Value.int .i64 0, Value.int .u8 0, Value.slice none 0 0]) := ⟨by kernel_rfl⟩
instance : RwT Try.prog 51 4 := ⟨by kernel_rfl⟩
instance : PlT Try.prog 51 [(0, 1), (1, 1), (2, 1), (3, 1)] := ⟨by kernel_rfl⟩
instance : UT Try.prog 52 (TypeDesc.struct #[{ name := "Kind", type := 5, offset := 0, embedded := false, tag := "", pkgPath := "", byteOffset := 0 }, { name := "I", type := 3, offset := 1, embedded := false, tag := "", pkgPath := "", byteOffset := 8 }, { name := "X", type := 5, offset := 2, embedded := false, tag := "", pkgPath := "", byteOffset := 16 }, { name := "B", type := 33, offset := 3, embedded := false, tag := "", pkgPath := "", byteOffset := 24 }]) := ⟨Try.underlying52⟩
instance : SzT Try.prog 52 4 := ⟨by kernel_rfl⟩
instance : ByT Try.prog 52 48 := ⟨by kernel_rfl⟩
instance : ZrT Try.prog 52 (#[Value.int .u8 0, Value.int .i64 0, Value.int .u8 0, Value.slice none 0 0]) := ⟨by kernel_rfl⟩
instance : RwT Try.prog 52 4 := ⟨by kernel_rfl⟩
instance : PlT Try.prog 52 [(0, 1), (1, 1), (2, 1), (3, 1)] := ⟨by kernel_rfl⟩
instance : UT Try.prog 53 (TypeDesc.func #[38, 48] #[4] false) := ⟨Try.underlying53⟩
instance : SzT Try.prog 53 1 := ⟨by kernel_rfl⟩
instance : ByT Try.prog 53 8 := ⟨by kernel_rfl⟩
instance : ZrT Try.prog 53 (#[Value.nilFunc]) := ⟨by kernel_rfl⟩
instance : FlT Try.prog 53 := ⟨by kernel_rfl⟩
instance : UT Try.prog 54 (TypeDesc.func #[5, 46] #[4] false) := ⟨Try.underlying54⟩
instance : SzT Try.prog 54 1 := ⟨by kernel_rfl⟩
instance : ByT Try.prog 54 8 := ⟨by kernel_rfl⟩
instance : ZrT Try.prog 54 (#[Value.nilFunc]) := ⟨by kernel_rfl⟩
instance : FlT Try.prog 54 := ⟨by kernel_rfl⟩
instance : UT Try.prog 55 (TypeDesc.func #[] #[41] false) := ⟨Try.underlying55⟩
instance : SzT Try.prog 55 1 := ⟨by kernel_rfl⟩
instance : ByT Try.prog 55 8 := ⟨by kernel_rfl⟩
instance : ZrT Try.prog 55 (#[Value.nilFunc]) := ⟨by kernel_rfl⟩
instance : FlT Try.prog 55 := ⟨by kernel_rfl⟩
instance : UT Try.prog 56 (TypeDesc.func #[33] #[] false) := ⟨Try.underlying56⟩
instance : SzT Try.prog 56 1 := ⟨by kernel_rfl⟩
instance : ByT Try.prog 56 8 := ⟨by kernel_rfl⟩
instance : ZrT Try.prog 56 (#[Value.nilFunc]) := ⟨by kernel_rfl⟩
instance : FlT Try.prog 56 := ⟨by kernel_rfl⟩
instance : UT Try.prog 57 (TypeDesc.func #[33, 33, 33] #[4] false) := ⟨Try.underlying57⟩
instance : SzT Try.prog 57 1 := ⟨by kernel_rfl⟩
instance : ByT Try.prog 57 8 := ⟨by kernel_rfl⟩
instance : ZrT Try.prog 57 (#[Value.nilFunc]) := ⟨by kernel_rfl⟩
instance : FlT Try.prog 57 := ⟨by kernel_rfl⟩
instance : UT Try.prog 58 (TypeDesc.func #[] #[3] false) := ⟨Try.underlying58⟩
instance : SzT Try.prog 58 1 := ⟨by kernel_rfl⟩
instance : ByT Try.prog 58 8 := ⟨by kernel_rfl⟩
instance : ZrT Try.prog 58 (#[Value.nilFunc]) := ⟨by kernel_rfl⟩
instance : FlT Try.prog 58 := ⟨by kernel_rfl⟩
instance : UT Try.prog 59 (TypeDesc.func #[33, 5, 33] #[4] false) := ⟨Try.underlying59⟩
instance : SzT Try.prog 59 1 := ⟨by kernel_rfl⟩
instance : ByT Try.prog 59 8 := ⟨by kernel_rfl⟩
instance : ZrT Try.prog 59 (#[Value.nilFunc]) := ⟨by kernel_rfl⟩
instance : FlT Try.prog 59 := ⟨by kernel_rfl⟩
instance : UT Try.prog 60 (TypeDesc.func #[3] #[] false) := ⟨Try.underlying60⟩
instance : SzT Try.prog 60 1 := ⟨by kernel_rfl⟩
instance : ByT Try.prog 60 8 := ⟨by kernel_rfl⟩
instance : ZrT Try.prog 60 (#[Value.nilFunc]) := ⟨by kernel_rfl⟩
instance : FlT Try.prog 60 := ⟨by kernel_rfl⟩
instance : UT Try.prog 61 (TypeDesc.func #[5, 5] #[4] false) := ⟨Try.underlying61⟩
instance : SzT Try.prog 61 1 := ⟨by kernel_rfl⟩
instance : ByT Try.prog 61 8 := ⟨by kernel_rfl⟩
instance : ZrT Try.prog 61 (#[Value.nilFunc]) := ⟨by kernel_rfl⟩
instance : FlT Try.prog 61 := ⟨by kernel_rfl⟩
instance : UT Try.prog 62 (TypeDesc.func #[32, 26, 22, 33] #[33] false) := ⟨Try.underlying62⟩
instance : SzT Try.prog 62 1 := ⟨by kernel_rfl⟩
instance : ByT Try.prog 62 8 := ⟨by kernel_rfl⟩
instance : ZrT Try.prog 62 (#[Value.nilFunc]) := ⟨by kernel_rfl⟩
instance : FlT Try.prog 62 := ⟨by kernel_rfl⟩
instance : UT Try.prog 63 (TypeDesc.array 16 5) := ⟨Try.underlying63⟩
instance : SzT Try.prog 63 16 := ⟨by kernel_rfl⟩
instance : ByT Try.prog 63 16 := ⟨by kernel_rfl⟩
instance : ZrT Try.prog 63 (#[Value.int .u8 0, Value.int .u8 0, Value.int .u8 0, Value.int .u8 0, Value.int .u8 0, Value.int .u8 0, Value.int .u8 0, Value.int .u8 0, Value.int .u8 0, Value.int .u8 0, Value.int .u8 0, Value.int .u8 0, Value.int .u8 0, Value.int .u8 0, Value.int .u8 0, Value.int .u8 0]) := ⟨by kernel_rfl⟩
instance : RwT Try.prog 63 16 := ⟨by kernel_rfl⟩
instance : UT Try.prog 64 (TypeDesc.func #[32, 26, 33, 33] #[63] false) := ⟨Try.underlying64⟩
instance : SzT Try.prog 64 1 := ⟨by kernel_rfl⟩
instance : ByT Try.prog 64 8 := ⟨by kernel_rfl⟩
instance : ZrT Try.prog 64 (#[Value.nilFunc]) := ⟨by kernel_rfl⟩
instance : FlT Try.prog 64 := ⟨by kernel_rfl⟩
instance : UT Try.prog 65 (TypeDesc.func #[31, 26, 22, 33] #[33] false) := ⟨Try.underlying65⟩
instance : SzT Try.prog 65 1 := ⟨by kernel_rfl⟩
instance : ByT Try.prog 65 8 := ⟨by kernel_rfl⟩
instance : ZrT Try.prog 65 (#[Value.nilFunc]) := ⟨by kernel_rfl⟩
instance : FlT Try.prog 65 := ⟨by kernel_rfl⟩
instance : UT Try.prog 66 (TypeDesc.array 64 5) := ⟨Try.underlying66⟩
instance : SzT Try.prog 66 64 := ⟨by kernel_rfl⟩
instance : ByT Try.prog 66 64 := ⟨by kernel_rfl⟩
instance : ZrT Try.prog 66 ((List.replicate 64 (Value.int .u8 0)).toArray) := ⟨by kernel_rfl⟩
instance : RwT Try.prog 66 64 := ⟨by kernel_rfl⟩
instance : UT Try.prog 67 (TypeDesc.func #[31, 26, 22] #[66] false) := ⟨Try.underlying67⟩
instance : SzT Try.prog 67 1 := ⟨by kernel_rfl⟩
instance : ByT Try.prog 67 8 := ⟨by kernel_rfl⟩
instance : ZrT Try.prog 67 (#[Value.nilFunc]) := ⟨by kernel_rfl⟩
instance : FlT Try.prog 67 := ⟨by kernel_rfl⟩
instance : UT Try.prog 68 (TypeDesc.func #[33] #[33] false) := ⟨Try.underlying68⟩
instance : SzT Try.prog 68 1 := ⟨by kernel_rfl⟩
instance : ByT Try.prog 68 8 := ⟨by kernel_rfl⟩
instance : ZrT Try.prog 68 (#[Value.nilFunc]) := ⟨by kernel_rfl⟩
instance : FlT Try.prog 68 := ⟨by kernel_rfl⟩
instance : UT Try.prog 69 (TypeDesc.func #[3] #[33] false) := ⟨Try.underlying69⟩
instance : SzT Try.prog 69 1 := ⟨by kernel_rfl⟩
instance : ByT Try.prog 69 8 := ⟨by kernel_rfl⟩
instance : ZrT Try.prog 69 (#[Value.nilFunc]) := ⟨by kernel_rfl⟩
instance : FlT Try.prog 69 := ⟨by kernel_rfl⟩
instance : UT Try.prog 70 (TypeDesc.func #[31, 33] #[63] false) := ⟨Try.underlying70⟩
instance : SzT Try.prog 70 1 := ⟨by kernel_rfl⟩
instance : ByT Try.prog 70 8 := ⟨by kernel_rfl⟩
instance : ZrT Try.prog 70 (#[Value.nilFunc]) := ⟨by kernel_rfl⟩
instance : FlT Try.prog 70 := ⟨by kernel_rfl⟩
instance : UT Try.prog 71 (TypeDesc.slice 76) := ⟨Try.underlying71⟩
instance : SzT Try.prog 71 1 := ⟨by kernel_rfl⟩
instance : ByT Try.prog 71 24 := ⟨by kernel_rfl⟩
instance : ZrT Try.prog 71 (#[Value.slice none 0 0]) := ⟨by kernel_rfl⟩
instance : FlT Try.prog 71 := ⟨by kernel_rfl⟩
instance : UT Try.prog 72 (TypeDesc.map 3 76) := ⟨Try.underlying72⟩
instance : SzT Try.prog 72 1 := ⟨by kernel_rfl⟩
instance : ByT Try.prog 72 8 := ⟨by kernel_rfl⟩
instance : ZrT Try.prog 72 (#[Value.map none]) := ⟨by kernel_rfl⟩
instance : FlT Try.prog 72 := ⟨by kernel_rfl⟩
instance : UT Try.prog 73 (TypeDesc.struct #[{ name := "written", type := 71, offset := 0, embedded := false, tag := "", pkgPath := "jalousie/disk", byteOffset := 0 }, { name := "loose", type := 72, offset := 1, embedded := false, tag := "", pkgPath := "jalousie/disk", byteOffset := 24 }, { name := "fused", type := 4, offset := 2, embedded := false, tag := "", pkgPath := "jalousie/disk", byteOffset := 32 }, { name := "fuse", type := 3, offset := 3, embedded := false, tag := "", pkgPath := "jalousie/disk", byteOffset := 40 }, { name := "gone", type := 4, offset := 4, embedded := false, tag := "", pkgPath := "jalousie/disk", byteOffset := 48 }]) := ⟨Try.underlying73⟩
instance : SzT Try.prog 73 5 := ⟨by kernel_rfl⟩
instance : ByT Try.prog 73 56 := ⟨by kernel_rfl⟩
instance : ZrT Try.prog 73 (#[Value.slice none 0 0, Value.map none, Value.bool false, Value.int .i64 0, Value.bool false]) := ⟨by kernel_rfl⟩
instance : RwT Try.prog 73 5 := ⟨by kernel_rfl⟩
instance : PlT Try.prog 73 [(0, 1), (1, 1), (2, 1), (3, 1), (4, 1)] := ⟨by kernel_rfl⟩
instance : UT Try.prog 74 (TypeDesc.struct #[{ name := "written", type := 71, offset := 0, embedded := false, tag := "", pkgPath := "jalousie/disk", byteOffset := 0 }, { name := "loose", type := 72, offset := 1, embedded := false, tag := "", pkgPath := "jalousie/disk", byteOffset := 24 }, { name := "fused", type := 4, offset := 2, embedded := false, tag := "", pkgPath := "jalousie/disk", byteOffset := 32 }, { name := "fuse", type := 3, offset := 3, embedded := false, tag := "", pkgPath := "jalousie/disk", byteOffset := 40 }, { name := "gone", type := 4, offset := 4, embedded := false, tag := "", pkgPath := "jalousie/disk", byteOffset := 48 }]) := ⟨Try.underlying74⟩
instance : SzT Try.prog 74 5 := ⟨by kernel_rfl⟩
instance : ByT Try.prog 74 56 := ⟨by kernel_rfl⟩
instance : ZrT Try.prog 74 (#[Value.slice none 0 0, Value.map none, Value.bool false, Value.int .i64 0, Value.bool false]) := ⟨by kernel_rfl⟩
instance : RwT Try.prog 74 5 := ⟨by kernel_rfl⟩
instance : PlT Try.prog 74 [(0, 1), (1, 1), (2, 1), (3, 1), (4, 1)] := ⟨by kernel_rfl⟩
instance : UT Try.prog 75 (TypeDesc.func #[3] #[4] false) := ⟨Try.underlying75⟩
instance : SzT Try.prog 75 1 := ⟨by kernel_rfl⟩
instance : ByT Try.prog 75 8 := ⟨by kernel_rfl⟩
instance : ZrT Try.prog 75 (#[Value.nilFunc]) := ⟨by kernel_rfl⟩
instance : FlT Try.prog 75 := ⟨by kernel_rfl⟩
instance : UT Try.prog 76 (TypeDesc.array 64 5) := ⟨Try.underlying76⟩
instance : SzT Try.prog 76 64 := ⟨by kernel_rfl⟩
instance : ByT Try.prog 76 64 := ⟨by kernel_rfl⟩
instance : ZrT Try.prog 76 ((List.replicate 64 (Value.int .u8 0)).toArray) := ⟨by kernel_rfl⟩
instance : RwT Try.prog 76 64 := ⟨by kernel_rfl⟩
instance : UT Try.prog 77 (TypeDesc.tuple #[76, 4]) := ⟨Try.underlying77⟩
instance : SzT Try.prog 77 1 := ⟨by kernel_rfl⟩
instance : ByT Try.prog 77 0 := ⟨by kernel_rfl⟩
instance : FlT Try.prog 77 := ⟨by kernel_rfl⟩
instance : UT Try.prog 78 (TypeDesc.slice 33) := ⟨Try.underlying78⟩
instance : SzT Try.prog 78 1 := ⟨by kernel_rfl⟩
instance : ByT Try.prog 78 24 := ⟨by kernel_rfl⟩
instance : ZrT Try.prog 78 (#[Value.slice none 0 0]) := ⟨by kernel_rfl⟩
instance : FlT Try.prog 78 := ⟨by kernel_rfl⟩
instance : UT Try.prog 79 (TypeDesc.slice 4) := ⟨Try.underlying79⟩
instance : SzT Try.prog 79 1 := ⟨by kernel_rfl⟩
instance : ByT Try.prog 79 24 := ⟨by kernel_rfl⟩
instance : ZrT Try.prog 79 (#[Value.slice none 0 0]) := ⟨by kernel_rfl⟩
instance : FlT Try.prog 79 := ⟨by kernel_rfl⟩
instance : UT Try.prog 80 (TypeDesc.struct #[{ name := "Now", type := 78, offset := 0, embedded := false, tag := "", pkgPath := "", byteOffset := 0 }, { name := "Was", type := 78, offset := 1, embedded := false, tag := "", pkgPath := "", byteOffset := 24 }, { name := "Is", type := 79, offset := 2, embedded := false, tag := "", pkgPath := "", byteOffset := 48 }, { name := "Fuse", type := 3, offset := 3, embedded := false, tag := "", pkgPath := "", byteOffset := 72 }, { name := "Gone", type := 4, offset := 4, embedded := false, tag := "", pkgPath := "", byteOffset := 80 }]) := ⟨Try.underlying80⟩
instance : SzT Try.prog 80 5 := ⟨by kernel_rfl⟩
instance : ByT Try.prog 80 88 := ⟨by kernel_rfl⟩
instance : ZrT Try.prog 80 (#[Value.slice none 0 0, Value.slice none 0 0, Value.slice none 0 0, Value.int .i64 0, Value.bool false]) := ⟨by kernel_rfl⟩
instance : RwT Try.prog 80 5 := ⟨by kernel_rfl⟩
instance : PlT Try.prog 80 [(0, 1), (1, 1), (2, 1), (3, 1), (4, 1)] := ⟨by kernel_rfl⟩
instance : UT Try.prog 81 (TypeDesc.struct #[{ name := "Now", type := 78, offset := 0, embedded := false, tag := "", pkgPath := "", byteOffset := 0 }, { name := "Was", type := 78, offset := 1, embedded := false, tag := "", pkgPath := "", byteOffset := 24 }, { name := "Is", type := 79, offset := 2, embedded := false, tag := "", pkgPath := "", byteOffset := 48 }, { name := "Fuse", type := 3, offset := 3, embedded := false, tag := "", pkgPath := "", byteOffset := 72 }, { name := "Gone", type := 4, offset := 4, embedded := false, tag := "", pkgPath := "", byteOffset := 80 }]) := ⟨Try.underlying81⟩
instance : SzT Try.prog 81 5 := ⟨by kernel_rfl⟩
instance : ByT Try.prog 81 88 := ⟨by kernel_rfl⟩
instance : ZrT Try.prog 81 (#[Value.slice none 0 0, Value.slice none 0 0, Value.slice none 0 0, Value.int .i64 0, Value.bool false]) := ⟨by kernel_rfl⟩
instance : RwT Try.prog 81 5 := ⟨by kernel_rfl⟩
instance : PlT Try.prog 81 [(0, 1), (1, 1), (2, 1), (3, 1), (4, 1)] := ⟨by kernel_rfl⟩
instance : UT Try.prog 82 (TypeDesc.slice 3) := ⟨Try.underlying82⟩
instance : SzT Try.prog 82 1 := ⟨by kernel_rfl⟩
instance : ByT Try.prog 82 24 := ⟨by kernel_rfl⟩
instance : ZrT Try.prog 82 (#[Value.slice none 0 0]) := ⟨by kernel_rfl⟩
instance : FlT Try.prog 82 := ⟨by kernel_rfl⟩
instance : UT Try.prog 83 (TypeDesc.func #[85] #[82] false) := ⟨Try.underlying83⟩
instance : SzT Try.prog 83 1 := ⟨by kernel_rfl⟩
instance : ByT Try.prog 83 8 := ⟨by kernel_rfl⟩
instance : ZrT Try.prog 83 (#[Value.nilFunc]) := ⟨by kernel_rfl⟩
instance : FlT Try.prog 83 := ⟨by kernel_rfl⟩
instance : UT Try.prog 84 (TypeDesc.func #[75] #[] false) := ⟨Try.underlying84⟩
instance : SzT Try.prog 84 1 := ⟨by kernel_rfl⟩
instance : ByT Try.prog 84 8 := ⟨by kernel_rfl⟩
instance : ZrT Try.prog 84 (#[Value.nilFunc]) := ⟨by kernel_rfl⟩
instance : FlT Try.prog 84 := ⟨by kernel_rfl⟩
instance : UT Try.prog 85 (TypeDesc.func #[75] #[] false) := ⟨Try.underlying85⟩
instance : SzT Try.prog 85 1 := ⟨by kernel_rfl⟩
instance : ByT Try.prog 85 8 := ⟨by kernel_rfl⟩
instance : ZrT Try.prog 85 (#[Value.nilFunc]) := ⟨by kernel_rfl⟩
instance : FlT Try.prog 85 := ⟨by kernel_rfl⟩
instance : UT Try.prog 86 (TypeDesc.func #[72] #[85] false) := ⟨Try.underlying86⟩
instance : SzT Try.prog 86 1 := ⟨by kernel_rfl⟩
instance : ByT Try.prog 86 8 := ⟨by kernel_rfl⟩
instance : ZrT Try.prog 86 (#[Value.nilFunc]) := ⟨by kernel_rfl⟩
instance : FlT Try.prog 86 := ⟨by kernel_rfl⟩
instance : UT Try.prog 87 (TypeDesc.func #[76, 76, 5] #[76] false) := ⟨Try.underlying87⟩
instance : SzT Try.prog 87 1 := ⟨by kernel_rfl⟩
instance : ByT Try.prog 87 8 := ⟨by kernel_rfl⟩
instance : ZrT Try.prog 87 (#[Value.nilFunc]) := ⟨by kernel_rfl⟩
instance : FlT Try.prog 87 := ⟨by kernel_rfl⟩
instance : UT Try.prog 88 (TypeDesc.func #[102] #[] false) := ⟨Try.underlying88⟩
instance : SzT Try.prog 88 1 := ⟨by kernel_rfl⟩
instance : ByT Try.prog 88 8 := ⟨by kernel_rfl⟩
instance : ZrT Try.prog 88 (#[Value.nilFunc]) := ⟨by kernel_rfl⟩
instance : FlT Try.prog 88 := ⟨by kernel_rfl⟩
instance : UT Try.prog 89 (TypeDesc.func #[102] #[] false) := ⟨Try.underlying89⟩
instance : SzT Try.prog 89 1 := ⟨by kernel_rfl⟩
instance : ByT Try.prog 89 8 := ⟨by kernel_rfl⟩
instance : ZrT Try.prog 89 (#[Value.nilFunc]) := ⟨by kernel_rfl⟩
instance : FlT Try.prog 89 := ⟨by kernel_rfl⟩
instance : UT Try.prog 90 (TypeDesc.func #[32, 26, 22] #[89] false) := ⟨Try.underlying90⟩
instance : SzT Try.prog 90 1 := ⟨by kernel_rfl⟩
instance : ByT Try.prog 90 8 := ⟨by kernel_rfl⟩
instance : ZrT Try.prog 90 (#[Value.nilFunc]) := ⟨by kernel_rfl⟩
instance : FlT Try.prog 90 := ⟨by kernel_rfl⟩
instance : UT Try.prog 91 (TypeDesc.func #[32, 26, 22] #[66] false) := ⟨Try.underlying91⟩
instance : SzT Try.prog 91 1 := ⟨by kernel_rfl⟩
instance : ByT Try.prog 91 8 := ⟨by kernel_rfl⟩
instance : ZrT Try.prog 91 (#[Value.nilFunc]) := ⟨by kernel_rfl⟩
instance : FlT Try.prog 91 := ⟨by kernel_rfl⟩
instance : UT Try.prog 92 (TypeDesc.func #[32, 78] #[63] true) := ⟨Try.underlying92⟩
instance : SzT Try.prog 92 1 := ⟨by kernel_rfl⟩
instance : ByT Try.prog 92 8 := ⟨by kernel_rfl⟩
instance : ZrT Try.prog 92 (#[Value.nilFunc]) := ⟨by kernel_rfl⟩
instance : FlT Try.prog 92 := ⟨by kernel_rfl⟩
instance : UT Try.prog 93 (TypeDesc.func #[3, 3] #[33] false) := ⟨Try.underlying93⟩
instance : SzT Try.prog 93 1 := ⟨by kernel_rfl⟩
instance : ByT Try.prog 93 8 := ⟨by kernel_rfl⟩
instance : ZrT Try.prog 93 (#[Value.nilFunc]) := ⟨by kernel_rfl⟩
instance : FlT Try.prog 93 := ⟨by kernel_rfl⟩
instance : UT Try.prog 94 (TypeDesc.func #[31, 26, 22, 3] #[33] false) := ⟨Try.underlying94⟩
instance : SzT Try.prog 94 1 := ⟨by kernel_rfl⟩
instance : ByT Try.prog 94 8 := ⟨by kernel_rfl⟩
instance : ZrT Try.prog 94 (#[Value.nilFunc]) := ⟨by kernel_rfl⟩
instance : FlT Try.prog 94 := ⟨by kernel_rfl⟩
instance : UT Try.prog 95 (TypeDesc.array 16 22) := ⟨Try.underlying95⟩
instance : SzT Try.prog 95 16 := ⟨by kernel_rfl⟩
instance : ByT Try.prog 95 64 := ⟨by kernel_rfl⟩
instance : ZrT Try.prog 95 (#[Value.int .u32 0, Value.int .u32 0, Value.int .u32 0, Value.int .u32 0, Value.int .u32 0, Value.int .u32 0, Value.int .u32 0, Value.int .u32 0, Value.int .u32 0, Value.int .u32 0, Value.int .u32 0, Value.int .u32 0, Value.int .u32 0, Value.int .u32 0, Value.int .u32 0, Value.int .u32 0]) := ⟨by kernel_rfl⟩
instance : RwT Try.prog 95 16 := ⟨by kernel_rfl⟩
instance : UT Try.prog 96 (TypeDesc.func #[33] #[22] false) := ⟨Try.underlying96⟩
instance : SzT Try.prog 96 1 := ⟨by kernel_rfl⟩
instance : ByT Try.prog 96 8 := ⟨by kernel_rfl⟩
instance : ZrT Try.prog 96 (#[Value.nilFunc]) := ⟨by kernel_rfl⟩
instance : FlT Try.prog 96 := ⟨by kernel_rfl⟩
instance : UT Try.prog 97 (TypeDesc.func #[95, 3, 3, 3, 3] #[95] false) := ⟨Try.underlying97⟩
instance : SzT Try.prog 97 1 := ⟨by kernel_rfl⟩
instance : ByT Try.prog 97 8 := ⟨by kernel_rfl⟩
instance : ZrT Try.prog 97 (#[Value.nilFunc]) := ⟨by kernel_rfl⟩
instance : FlT Try.prog 97 := ⟨by kernel_rfl⟩
instance : UT Try.prog 98 (TypeDesc.func #[33] #[82] false) := ⟨Try.underlying98⟩
instance : SzT Try.prog 98 1 := ⟨by kernel_rfl⟩
instance : ByT Try.prog 98 8 := ⟨by kernel_rfl⟩
instance : ZrT Try.prog 98 (#[Value.nilFunc]) := ⟨by kernel_rfl⟩
instance : FlT Try.prog 98 := ⟨by kernel_rfl⟩
instance : UT Try.prog 99 (TypeDesc.func #[82] #[82] false) := ⟨Try.underlying99⟩
instance : SzT Try.prog 99 1 := ⟨by kernel_rfl⟩
instance : ByT Try.prog 99 8 := ⟨by kernel_rfl⟩
instance : ZrT Try.prog 99 (#[Value.nilFunc]) := ⟨by kernel_rfl⟩
instance : FlT Try.prog 99 := ⟨by kernel_rfl⟩
instance : UT Try.prog 100 (TypeDesc.func #[82, 82] #[82] false) := ⟨Try.underlying100⟩
instance : SzT Try.prog 100 1 := ⟨by kernel_rfl⟩
instance : ByT Try.prog 100 8 := ⟨by kernel_rfl⟩
instance : ZrT Try.prog 100 (#[Value.nilFunc]) := ⟨by kernel_rfl⟩
instance : FlT Try.prog 100 := ⟨by kernel_rfl⟩
instance : UT Try.prog 101 (TypeDesc.func #[82] #[] false) := ⟨Try.underlying101⟩
instance : SzT Try.prog 101 1 := ⟨by kernel_rfl⟩
instance : ByT Try.prog 101 8 := ⟨by kernel_rfl⟩
instance : ZrT Try.prog 101 (#[Value.nilFunc]) := ⟨by kernel_rfl⟩
instance : FlT Try.prog 101 := ⟨by kernel_rfl⟩
instance : UT Try.prog 102 (TypeDesc.func #[66] #[4] false) := ⟨Try.underlying102⟩
instance : SzT Try.prog 102 1 := ⟨by kernel_rfl⟩
instance : ByT Try.prog 102 8 := ⟨by kernel_rfl⟩
instance : ZrT Try.prog 102 (#[Value.nilFunc]) := ⟨by kernel_rfl⟩
instance : FlT Try.prog 102 := ⟨by kernel_rfl⟩
instance : UT Try.prog 103 (TypeDesc.func #[32, 26, 22] #[95] false) := ⟨Try.underlying103⟩
instance : SzT Try.prog 103 1 := ⟨by kernel_rfl⟩
instance : ByT Try.prog 103 8 := ⟨by kernel_rfl⟩
instance : ZrT Try.prog 103 (#[Value.nilFunc]) := ⟨by kernel_rfl⟩
instance : FlT Try.prog 103 := ⟨by kernel_rfl⟩
instance : UT Try.prog 104 (TypeDesc.func #[105, 105, 105, 105] #[] false) := ⟨Try.underlying104⟩
instance : SzT Try.prog 104 1 := ⟨by kernel_rfl⟩
instance : ByT Try.prog 104 8 := ⟨by kernel_rfl⟩
instance : ZrT Try.prog 104 (#[Value.nilFunc]) := ⟨by kernel_rfl⟩
instance : FlT Try.prog 104 := ⟨by kernel_rfl⟩
instance : UT Try.prog 105 (TypeDesc.pointer 22) := ⟨Try.underlying105⟩
instance : SzT Try.prog 105 1 := ⟨by kernel_rfl⟩
instance : ByT Try.prog 105 8 := ⟨by kernel_rfl⟩
instance : ZrT Try.prog 105 (#[Value.pointer none]) := ⟨by kernel_rfl⟩
instance : FlT Try.prog 105 := ⟨by kernel_rfl⟩
instance : UT Try.prog 106 (TypeDesc.func #[33, 22] #[] false) := ⟨Try.underlying106⟩
instance : SzT Try.prog 106 1 := ⟨by kernel_rfl⟩
instance : ByT Try.prog 106 8 := ⟨by kernel_rfl⟩
instance : ZrT Try.prog 106 (#[Value.nilFunc]) := ⟨by kernel_rfl⟩
instance : FlT Try.prog 106 := ⟨by kernel_rfl⟩
instance : UT Try.prog 107 (TypeDesc.struct #[{ name := "low", type := 24, offset := 0, embedded := false, tag := "", pkgPath := "jalousie/poly", byteOffset := 0 }, { name := "middle", type := 24, offset := 1, embedded := false, tag := "", pkgPath := "jalousie/poly", byteOffset := 8 }, { name := "high", type := 24, offset := 2, embedded := false, tag := "", pkgPath := "jalousie/poly", byteOffset := 16 }, { name := "rLow", type := 24, offset := 3, embedded := false, tag := "", pkgPath := "jalousie/poly", byteOffset := 24 }, { name := "rHigh", type := 24, offset := 4, embedded := false, tag := "", pkgPath := "jalousie/poly", byteOffset := 32 }]) := ⟨Try.underlying107⟩
instance : SzT Try.prog 107 5 := ⟨by kernel_rfl⟩
instance : ByT Try.prog 107 40 := ⟨by kernel_rfl⟩
instance : ZrT Try.prog 107 (#[Value.int .u64 0, Value.int .u64 0, Value.int .u64 0, Value.int .u64 0, Value.int .u64 0]) := ⟨by kernel_rfl⟩
instance : RwT Try.prog 107 5 := ⟨by kernel_rfl⟩
instance : PlT Try.prog 107 [(0, 1), (1, 1), (2, 1), (3, 1), (4, 1)] := ⟨by kernel_rfl⟩
instance : UT Try.prog 108 (TypeDesc.struct #[{ name := "low", type := 24, offset := 0, embedded := false, tag := "", pkgPath := "jalousie/poly", byteOffset := 0 }, { name := "middle", type := 24, offset := 1, embedded := false, tag := "", pkgPath := "jalousie/poly", byteOffset := 8 }, { name := "high", type := 24, offset := 2, embedded := false, tag := "", pkgPath := "jalousie/poly", byteOffset := 16 }, { name := "rLow", type := 24, offset := 3, embedded := false, tag := "", pkgPath := "jalousie/poly", byteOffset := 24 }, { name := "rHigh", type := 24, offset := 4, embedded := false, tag := "", pkgPath := "jalousie/poly", byteOffset := 32 }]) := ⟨Try.underlying108⟩
instance : SzT Try.prog 108 5 := ⟨by kernel_rfl⟩
instance : ByT Try.prog 108 40 := ⟨by kernel_rfl⟩
instance : ZrT Try.prog 108 (#[Value.int .u64 0, Value.int .u64 0, Value.int .u64 0, Value.int .u64 0, Value.int .u64 0]) := ⟨by kernel_rfl⟩
instance : RwT Try.prog 108 5 := ⟨by kernel_rfl⟩
instance : PlT Try.prog 108 [(0, 1), (1, 1), (2, 1), (3, 1), (4, 1)] := ⟨by kernel_rfl⟩
instance : UT Try.prog 109 (TypeDesc.func #[32] #[108] false) := ⟨Try.underlying109⟩
instance : SzT Try.prog 109 1 := ⟨by kernel_rfl⟩
instance : ByT Try.prog 109 8 := ⟨by kernel_rfl⟩
instance : ZrT Try.prog 109 (#[Value.nilFunc]) := ⟨by kernel_rfl⟩
instance : FlT Try.prog 109 := ⟨by kernel_rfl⟩
instance : UT Try.prog 110 (TypeDesc.func #[32] #[63] false) := ⟨Try.underlying110⟩
instance : SzT Try.prog 110 1 := ⟨by kernel_rfl⟩
instance : ByT Try.prog 110 8 := ⟨by kernel_rfl⟩
instance : ZrT Try.prog 110 (#[Value.nilFunc]) := ⟨by kernel_rfl⟩
instance : FlT Try.prog 110 := ⟨by kernel_rfl⟩
instance : UT Try.prog 111 (TypeDesc.func #[22, 3] #[22] false) := ⟨Try.underlying111⟩
instance : SzT Try.prog 111 1 := ⟨by kernel_rfl⟩
instance : ByT Try.prog 111 8 := ⟨by kernel_rfl⟩
instance : ZrT Try.prog 111 (#[Value.nilFunc]) := ⟨by kernel_rfl⟩
instance : FlT Try.prog 111 := ⟨by kernel_rfl⟩
instance : UT Try.prog 112 (TypeDesc.func #[82] #[4] false) := ⟨Try.underlying112⟩
instance : SzT Try.prog 112 1 := ⟨by kernel_rfl⟩
instance : ByT Try.prog 112 8 := ⟨by kernel_rfl⟩
instance : ZrT Try.prog 112 (#[Value.nilFunc]) := ⟨by kernel_rfl⟩
instance : FlT Try.prog 112 := ⟨by kernel_rfl⟩
instance : UT Try.prog 113 (TypeDesc.func #[82, 85] #[82] false) := ⟨Try.underlying113⟩
instance : SzT Try.prog 113 1 := ⟨by kernel_rfl⟩
instance : ByT Try.prog 113 8 := ⟨by kernel_rfl⟩
instance : ZrT Try.prog 113 (#[Value.nilFunc]) := ⟨by kernel_rfl⟩
instance : FlT Try.prog 113 := ⟨by kernel_rfl⟩
instance : UT Try.prog 114 (TypeDesc.func #[82, 3, 3, 3] #[] false) := ⟨Try.underlying114⟩
instance : SzT Try.prog 114 1 := ⟨by kernel_rfl⟩
instance : ByT Try.prog 114 8 := ⟨by kernel_rfl⟩
instance : ZrT Try.prog 114 (#[Value.nilFunc]) := ⟨by kernel_rfl⟩
instance : FlT Try.prog 114 := ⟨by kernel_rfl⟩
instance : UT Try.prog 115 (TypeDesc.func #[116] #[3] false) := ⟨Try.underlying115⟩
instance : SzT Try.prog 115 1 := ⟨by kernel_rfl⟩
instance : ByT Try.prog 115 8 := ⟨by kernel_rfl⟩
instance : ZrT Try.prog 115 (#[Value.nilFunc]) := ⟨by kernel_rfl⟩
instance : FlT Try.prog 115 := ⟨by kernel_rfl⟩
instance : UT Try.prog 116 (TypeDesc.int IntKind.u64) := ⟨Try.underlying116⟩
instance : SzT Try.prog 116 1 := ⟨by kernel_rfl⟩
instance : ByT Try.prog 116 8 := ⟨by kernel_rfl⟩
instance : ZrT Try.prog 116 (#[Value.int .u64 0]) := ⟨by kernel_rfl⟩
instance : FlT Try.prog 116 := ⟨by kernel_rfl⟩
instance : UT Try.prog 117 (TypeDesc.func #[33] #[24] false) := ⟨Try.underlying117⟩
instance : SzT Try.prog 117 1 := ⟨by kernel_rfl⟩
instance : ByT Try.prog 117 8 := ⟨by kernel_rfl⟩
instance : ZrT Try.prog 117 (#[Value.nilFunc]) := ⟨by kernel_rfl⟩
instance : FlT Try.prog 117 := ⟨by kernel_rfl⟩
instance : UT Try.prog 118 (TypeDesc.pointer 108) := ⟨Try.underlying118⟩
instance : SzT Try.prog 118 1 := ⟨by kernel_rfl⟩
instance : ByT Try.prog 118 8 := ⟨by kernel_rfl⟩
instance : ZrT Try.prog 118 (#[Value.pointer none]) := ⟨by kernel_rfl⟩
instance : FlT Try.prog 118 := ⟨by kernel_rfl⟩
instance : UT Try.prog 119 (TypeDesc.tuple #[24, 24]) := ⟨Try.underlying119⟩
instance : SzT Try.prog 119 1 := ⟨by kernel_rfl⟩
instance : ByT Try.prog 119 0 := ⟨by kernel_rfl⟩
instance : FlT Try.prog 119 := ⟨by kernel_rfl⟩
instance : UT Try.prog 120 (TypeDesc.func #[24, 24, 24] #[24, 24] false) := ⟨Try.underlying120⟩
instance : SzT Try.prog 120 1 := ⟨by kernel_rfl⟩
instance : ByT Try.prog 120 8 := ⟨by kernel_rfl⟩
instance : ZrT Try.prog 120 (#[Value.nilFunc]) := ⟨by kernel_rfl⟩
instance : FlT Try.prog 120 := ⟨by kernel_rfl⟩
instance : UT Try.prog 121 (TypeDesc.func #[82, 3, 3] #[] false) := ⟨Try.underlying121⟩
instance : SzT Try.prog 121 1 := ⟨by kernel_rfl⟩
instance : ByT Try.prog 121 8 := ⟨by kernel_rfl⟩
instance : ZrT Try.prog 121 (#[Value.nilFunc]) := ⟨by kernel_rfl⟩
instance : FlT Try.prog 121 := ⟨by kernel_rfl⟩
instance : UT Try.prog 122 (TypeDesc.int IntKind.i64) := ⟨Try.underlying122⟩
instance : SzT Try.prog 122 1 := ⟨by kernel_rfl⟩
instance : ByT Try.prog 122 8 := ⟨by kernel_rfl⟩
instance : ZrT Try.prog 122 (#[Value.int .i64 0]) := ⟨by kernel_rfl⟩
instance : FlT Try.prog 122 := ⟨by kernel_rfl⟩
instance : UT Try.prog 123 (TypeDesc.tuple #[3, 122]) := ⟨Try.underlying123⟩
instance : SzT Try.prog 123 1 := ⟨by kernel_rfl⟩
instance : ByT Try.prog 123 0 := ⟨by kernel_rfl⟩
instance : FlT Try.prog 123 := ⟨by kernel_rfl⟩
instance : UT Try.prog 124 (TypeDesc.func #[82, 3, 3] #[3, 122] false) := ⟨Try.underlying124⟩
instance : SzT Try.prog 124 1 := ⟨by kernel_rfl⟩
instance : ByT Try.prog 124 8 := ⟨by kernel_rfl⟩
instance : ZrT Try.prog 124 (#[Value.nilFunc]) := ⟨by kernel_rfl⟩
instance : FlT Try.prog 124 := ⟨by kernel_rfl⟩
instance : UT Try.prog 125 (TypeDesc.func #[82, 3, 3] #[4] false) := ⟨Try.underlying125⟩
instance : SzT Try.prog 125 1 := ⟨by kernel_rfl⟩
instance : ByT Try.prog 125 8 := ⟨by kernel_rfl⟩
instance : ZrT Try.prog 125 (#[Value.nilFunc]) := ⟨by kernel_rfl⟩
instance : FlT Try.prog 125 := ⟨by kernel_rfl⟩
instance : UT Try.prog 126 (TypeDesc.func #[3, 3] #[4] false) := ⟨Try.underlying126⟩
instance : SzT Try.prog 126 1 := ⟨by kernel_rfl⟩
instance : ByT Try.prog 126 8 := ⟨by kernel_rfl⟩
instance : ZrT Try.prog 126 (#[Value.nilFunc]) := ⟨by kernel_rfl⟩
instance : FlT Try.prog 126 := ⟨by kernel_rfl⟩
instance : UT Try.prog 127 (TypeDesc.func #[82, 3, 3, 3] #[3] false) := ⟨Try.underlying127⟩
instance : SzT Try.prog 127 1 := ⟨by kernel_rfl⟩
instance : ByT Try.prog 127 8 := ⟨by kernel_rfl⟩
instance : ZrT Try.prog 127 (#[Value.nilFunc]) := ⟨by kernel_rfl⟩
instance : FlT Try.prog 127 := ⟨by kernel_rfl⟩
instance : UT Try.prog 128 (TypeDesc.tuple #[3, 4]) := ⟨Try.underlying128⟩
instance : SzT Try.prog 128 1 := ⟨by kernel_rfl⟩
instance : ByT Try.prog 128 0 := ⟨by kernel_rfl⟩
instance : FlT Try.prog 128 := ⟨by kernel_rfl⟩
instance : UT Try.prog 129 (TypeDesc.func #[82, 3, 3, 3] #[3, 4] false) := ⟨Try.underlying129⟩
instance : SzT Try.prog 129 1 := ⟨by kernel_rfl⟩
instance : ByT Try.prog 129 8 := ⟨by kernel_rfl⟩
instance : ZrT Try.prog 129 (#[Value.nilFunc]) := ⟨by kernel_rfl⟩
instance : FlT Try.prog 129 := ⟨by kernel_rfl⟩
instance : UT Try.prog 130 (TypeDesc.func #[22] #[3] false) := ⟨Try.underlying130⟩
instance : SzT Try.prog 130 1 := ⟨by kernel_rfl⟩
instance : ByT Try.prog 130 8 := ⟨by kernel_rfl⟩
instance : ZrT Try.prog 130 (#[Value.nilFunc]) := ⟨by kernel_rfl⟩
instance : FlT Try.prog 130 := ⟨by kernel_rfl⟩
instance : UT Try.prog 131 (TypeDesc.func #[24] #[3] false) := ⟨Try.underlying131⟩
instance : SzT Try.prog 131 1 := ⟨by kernel_rfl⟩
instance : ByT Try.prog 131 8 := ⟨by kernel_rfl⟩
instance : ZrT Try.prog 131 (#[Value.nilFunc]) := ⟨by kernel_rfl⟩
instance : FlT Try.prog 131 := ⟨by kernel_rfl⟩
instance : UT Try.prog 132 (TypeDesc.func #[24, 24] #[24, 24] false) := ⟨Try.underlying132⟩
instance : SzT Try.prog 132 1 := ⟨by kernel_rfl⟩
instance : ByT Try.prog 132 8 := ⟨by kernel_rfl⟩
instance : ZrT Try.prog 132 (#[Value.nilFunc]) := ⟨by kernel_rfl⟩
instance : FlT Try.prog 132 := ⟨by kernel_rfl⟩
instance : UT Try.prog 133 (TypeDesc.func #[24, 24] #[] false) := ⟨Try.underlying133⟩
instance : SzT Try.prog 133 1 := ⟨by kernel_rfl⟩
instance : ByT Try.prog 133 8 := ⟨by kernel_rfl⟩
instance : ZrT Try.prog 133 (#[Value.nilFunc]) := ⟨by kernel_rfl⟩
instance : FlT Try.prog 133 := ⟨by kernel_rfl⟩
instance : UT Try.prog 134 (TypeDesc.int IntKind.u64) := ⟨Try.underlying134⟩
instance : SzT Try.prog 134 1 := ⟨by kernel_rfl⟩
instance : ByT Try.prog 134 8 := ⟨by kernel_rfl⟩
instance : ZrT Try.prog 134 (#[Value.int .u64 0]) := ⟨by kernel_rfl⟩
instance : FlT Try.prog 134 := ⟨by kernel_rfl⟩
instance : UT Try.prog 135 (TypeDesc.func #[3] #[116] false) := ⟨Try.underlying135⟩
instance : SzT Try.prog 135 1 := ⟨by kernel_rfl⟩
instance : ByT Try.prog 135 8 := ⟨by kernel_rfl⟩
instance : ZrT Try.prog 135 (#[Value.nilFunc]) := ⟨by kernel_rfl⟩
instance : FlT Try.prog 135 := ⟨by kernel_rfl⟩
instance : UT Try.prog 136 (TypeDesc.func #[] #[24] false) := ⟨Try.underlying136⟩
instance : SzT Try.prog 136 1 := ⟨by kernel_rfl⟩
instance : ByT Try.prog 136 8 := ⟨by kernel_rfl⟩
instance : ZrT Try.prog 136 (#[Value.nilFunc]) := ⟨by kernel_rfl⟩
instance : FlT Try.prog 136 := ⟨by kernel_rfl⟩
instance : UT Try.prog 137 (TypeDesc.func #[82, 3, 138] #[3] false) := ⟨Try.underlying137⟩
instance : SzT Try.prog 137 1 := ⟨by kernel_rfl⟩
instance : ByT Try.prog 137 8 := ⟨by kernel_rfl⟩
instance : ZrT Try.prog 137 (#[Value.nilFunc]) := ⟨by kernel_rfl⟩
instance : FlT Try.prog 137 := ⟨by kernel_rfl⟩
instance : UT Try.prog 138 (TypeDesc.pointer 3) := ⟨Try.underlying138⟩
instance : SzT Try.prog 138 1 := ⟨by kernel_rfl⟩
instance : ByT Try.prog 138 8 := ⟨by kernel_rfl⟩
instance : ZrT Try.prog 138 (#[Value.pointer none]) := ⟨by kernel_rfl⟩
instance : FlT Try.prog 138 := ⟨by kernel_rfl⟩
instance : UT Try.prog 139 (TypeDesc.func #[82, 3, 3, 3, 138] #[3] false) := ⟨Try.underlying139⟩
instance : SzT Try.prog 139 1 := ⟨by kernel_rfl⟩
instance : ByT Try.prog 139 8 := ⟨by kernel_rfl⟩
instance : ZrT Try.prog 139 (#[Value.nilFunc]) := ⟨by kernel_rfl⟩
instance : FlT Try.prog 139 := ⟨by kernel_rfl⟩
instance : UT Try.prog 140 (TypeDesc.pointer 134) := ⟨Try.underlying140⟩
instance : SzT Try.prog 140 1 := ⟨by kernel_rfl⟩
instance : ByT Try.prog 140 8 := ⟨by kernel_rfl⟩
instance : ZrT Try.prog 140 (#[Value.pointer none]) := ⟨by kernel_rfl⟩
instance : FlT Try.prog 140 := ⟨by kernel_rfl⟩
instance : UT Try.prog 141 (TypeDesc.tuple #[3, 3]) := ⟨Try.underlying141⟩
instance : SzT Try.prog 141 1 := ⟨by kernel_rfl⟩
instance : ByT Try.prog 141 0 := ⟨by kernel_rfl⟩
instance : FlT Try.prog 141 := ⟨by kernel_rfl⟩
instance : UT Try.prog 142 (TypeDesc.func #[82, 3, 3, 138] #[3, 3] false) := ⟨Try.underlying142⟩
instance : SzT Try.prog 142 1 := ⟨by kernel_rfl⟩
instance : ByT Try.prog 142 8 := ⟨by kernel_rfl⟩
instance : ZrT Try.prog 142 (#[Value.nilFunc]) := ⟨by kernel_rfl⟩
instance : FlT Try.prog 142 := ⟨by kernel_rfl⟩
instance : UT Try.prog 143 (TypeDesc.func #[] #[9] false) := ⟨Try.underlying143⟩
instance : SzT Try.prog 143 1 := ⟨by kernel_rfl⟩
instance : ByT Try.prog 143 8 := ⟨by kernel_rfl⟩
instance : ZrT Try.prog 143 (#[Value.nilFunc]) := ⟨by kernel_rfl⟩
instance : FlT Try.prog 143 := ⟨by kernel_rfl⟩
instance : UT Try.prog 144 (TypeDesc.struct #[{ name := "_interface", type := 17, offset := 0, embedded := false, tag := "", pkgPath := "runtime", byteOffset := 0 }, { name := "concrete", type := 17, offset := 1, embedded := false, tag := "", pkgPath := "runtime", byteOffset := 8 }, { name := "asserted", type := 17, offset := 2, embedded := false, tag := "", pkgPath := "runtime", byteOffset := 16 }, { name := "missingMethod", type := 9, offset := 3, embedded := false, tag := "", pkgPath := "runtime", byteOffset := 24 }]) := ⟨Try.underlying144⟩
instance : SzT Try.prog 144 4 := ⟨by kernel_rfl⟩
instance : ByT Try.prog 144 40 := ⟨by kernel_rfl⟩
instance : ZrT Try.prog 144 (#[Value.pointer none, Value.pointer none, Value.pointer none, Value.string ByteArray.empty]) := ⟨by kernel_rfl⟩
instance : RwT Try.prog 144 4 := ⟨by kernel_rfl⟩
instance : PlT Try.prog 144 [(0, 1), (1, 1), (2, 1), (3, 1)] := ⟨by kernel_rfl⟩
instance : UT Try.prog 145 (TypeDesc.struct #[{ name := "_interface", type := 17, offset := 0, embedded := false, tag := "", pkgPath := "runtime", byteOffset := 0 }, { name := "concrete", type := 17, offset := 1, embedded := false, tag := "", pkgPath := "runtime", byteOffset := 8 }, { name := "asserted", type := 17, offset := 2, embedded := false, tag := "", pkgPath := "runtime", byteOffset := 16 }, { name := "missingMethod", type := 9, offset := 3, embedded := false, tag := "", pkgPath := "runtime", byteOffset := 24 }]) := ⟨Try.underlying145⟩
instance : SzT Try.prog 145 4 := ⟨by kernel_rfl⟩
instance : ByT Try.prog 145 40 := ⟨by kernel_rfl⟩
instance : ZrT Try.prog 145 (#[Value.pointer none, Value.pointer none, Value.pointer none, Value.string ByteArray.empty]) := ⟨by kernel_rfl⟩
instance : RwT Try.prog 145 4 := ⟨by kernel_rfl⟩
instance : PlT Try.prog 145 [(0, 1), (1, 1), (2, 1), (3, 1)] := ⟨by kernel_rfl⟩
instance : UT Try.prog 146 (TypeDesc.array 0 16) := ⟨Try.underlying146⟩
instance : SzT Try.prog 146 0 := ⟨by kernel_rfl⟩
instance : ByT Try.prog 146 0 := ⟨by kernel_rfl⟩
instance : ZrT Try.prog 146 (#[]) := ⟨by kernel_rfl⟩
instance : RwT Try.prog 146 0 := ⟨by kernel_rfl⟩
instance : UT Try.prog 147 (TypeDesc.struct #[{ name := "_", type := 146, offset := 0, embedded := false, tag := "", pkgPath := "runtime", byteOffset := 0 }]) := ⟨Try.underlying147⟩
instance : SzT Try.prog 147 0 := ⟨by kernel_rfl⟩
instance : ByT Try.prog 147 0 := ⟨by kernel_rfl⟩
instance : ZrT Try.prog 147 (#[]) := ⟨by kernel_rfl⟩
instance : RwT Try.prog 147 0 := ⟨by kernel_rfl⟩
instance : PlT Try.prog 147 [(0, 0)] := ⟨by kernel_rfl⟩
instance : UT Try.prog 148 (TypeDesc.struct #[{ name := "_", type := 146, offset := 0, embedded := false, tag := "", pkgPath := "runtime", byteOffset := 0 }]) := ⟨Try.underlying148⟩
instance : SzT Try.prog 148 0 := ⟨by kernel_rfl⟩
instance : ByT Try.prog 148 0 := ⟨by kernel_rfl⟩
instance : ZrT Try.prog 148 (#[]) := ⟨by kernel_rfl⟩
instance : RwT Try.prog 148 0 := ⟨by kernel_rfl⟩
instance : PlT Try.prog 148 [(0, 0)] := ⟨by kernel_rfl⟩
instance : UT Try.prog 149 (TypeDesc.int IntKind.u8) := ⟨Try.underlying149⟩
instance : SzT Try.prog 149 1 := ⟨by kernel_rfl⟩
instance : ByT Try.prog 149 1 := ⟨by kernel_rfl⟩
instance : ZrT Try.prog 149 (#[Value.int .u8 0]) := ⟨by kernel_rfl⟩
instance : FlT Try.prog 149 := ⟨by kernel_rfl⟩
instance : UT Try.prog 150 (TypeDesc.int IntKind.u8) := ⟨Try.underlying150⟩
instance : SzT Try.prog 150 1 := ⟨by kernel_rfl⟩
instance : ByT Try.prog 150 1 := ⟨by kernel_rfl⟩
instance : ZrT Try.prog 150 (#[Value.int .u8 0]) := ⟨by kernel_rfl⟩
instance : FlT Try.prog 150 := ⟨by kernel_rfl⟩
instance : UT Try.prog 151 (TypeDesc.func #[157, 157] #[4] false) := ⟨Try.underlying151⟩
instance : SzT Try.prog 151 1 := ⟨by kernel_rfl⟩
instance : ByT Try.prog 151 8 := ⟨by kernel_rfl⟩
instance : ZrT Try.prog 151 (#[Value.nilFunc]) := ⟨by kernel_rfl⟩
instance : FlT Try.prog 151 := ⟨by kernel_rfl⟩
instance : UT Try.prog 152 (TypeDesc.pointer 5) := ⟨Try.underlying152⟩
instance : SzT Try.prog 152 1 := ⟨by kernel_rfl⟩
instance : ByT Try.prog 152 8 := ⟨by kernel_rfl⟩
instance : ZrT Try.prog 152 (#[Value.pointer none]) := ⟨by kernel_rfl⟩
instance : FlT Try.prog 152 := ⟨by kernel_rfl⟩
instance : UT Try.prog 153 (TypeDesc.int IntKind.i32) := ⟨Try.underlying153⟩
instance : SzT Try.prog 153 1 := ⟨by kernel_rfl⟩
instance : ByT Try.prog 153 4 := ⟨by kernel_rfl⟩
instance : ZrT Try.prog 153 (#[Value.int .i32 0]) := ⟨by kernel_rfl⟩
instance : FlT Try.prog 153 := ⟨by kernel_rfl⟩
instance : UT Try.prog 154 (TypeDesc.int IntKind.i32) := ⟨Try.underlying154⟩
instance : SzT Try.prog 154 1 := ⟨by kernel_rfl⟩
instance : ByT Try.prog 154 4 := ⟨by kernel_rfl⟩
instance : ZrT Try.prog 154 (#[Value.int .i32 0]) := ⟨by kernel_rfl⟩
instance : FlT Try.prog 154 := ⟨by kernel_rfl⟩
instance : UT Try.prog 155 (TypeDesc.struct #[{ name := "Size_", type := 12, offset := 0, embedded := false, tag := "", pkgPath := "", byteOffset := 0 }, { name := "PtrBytes", type := 12, offset := 1, embedded := false, tag := "", pkgPath := "", byteOffset := 8 }, { name := "Hash", type := 22, offset := 2, embedded := false, tag := "", pkgPath := "", byteOffset := 16 }, { name := "TFlag", type := 149, offset := 3, embedded := false, tag := "", pkgPath := "", byteOffset := 20 }, { name := "Align_", type := 5, offset := 4, embedded := false, tag := "", pkgPath := "", byteOffset := 21 }, { name := "FieldAlign_", type := 5, offset := 5, embedded := false, tag := "", pkgPath := "", byteOffset := 22 }, { name := "Kind_", type := 150, offset := 6, embedded := false, tag := "", pkgPath := "", byteOffset := 23 }, { name := "Equal", type := 151, offset := 7, embedded := false, tag := "", pkgPath := "", byteOffset := 24 }, { name := "GCData", type := 152, offset := 8, embedded := false, tag := "", pkgPath := "", byteOffset := 32 }, { name := "Str", type := 153, offset := 9, embedded := false, tag := "", pkgPath := "", byteOffset := 40 }, { name := "PtrToThis", type := 154, offset := 10, embedded := false, tag := "", pkgPath := "", byteOffset := 44 }]) := ⟨Try.underlying155⟩
instance : SzT Try.prog 155 11 := ⟨by kernel_rfl⟩
instance : ByT Try.prog 155 48 := ⟨by kernel_rfl⟩
instance : ZrT Try.prog 155 (#[Value.int .u64 0, Value.int .u64 0, Value.int .u32 0, Value.int .u8 0, Value.int .u8 0, Value.int .u8 0, Value.int .u8 0, Value.nilFunc, Value.pointer none, Value.int .i32 0, Value.int .i32 0]) := ⟨by kernel_rfl⟩
instance : RwT Try.prog 155 11 := ⟨by kernel_rfl⟩
instance : PlT Try.prog 155 [(0, 1), (1, 1), (2, 1), (3, 1), (4, 1), (5, 1), (6, 1), (7, 1), (8, 1), (9, 1), (10, 1)] := ⟨by kernel_rfl⟩
instance : UT Try.prog 156 (TypeDesc.struct #[{ name := "Size_", type := 12, offset := 0, embedded := false, tag := "", pkgPath := "", byteOffset := 0 }, { name := "PtrBytes", type := 12, offset := 1, embedded := false, tag := "", pkgPath := "", byteOffset := 8 }, { name := "Hash", type := 22, offset := 2, embedded := false, tag := "", pkgPath := "", byteOffset := 16 }, { name := "TFlag", type := 149, offset := 3, embedded := false, tag := "", pkgPath := "", byteOffset := 20 }, { name := "Align_", type := 5, offset := 4, embedded := false, tag := "", pkgPath := "", byteOffset := 21 }, { name := "FieldAlign_", type := 5, offset := 5, embedded := false, tag := "", pkgPath := "", byteOffset := 22 }, { name := "Kind_", type := 150, offset := 6, embedded := false, tag := "", pkgPath := "", byteOffset := 23 }, { name := "Equal", type := 151, offset := 7, embedded := false, tag := "", pkgPath := "", byteOffset := 24 }, { name := "GCData", type := 152, offset := 8, embedded := false, tag := "", pkgPath := "", byteOffset := 32 }, { name := "Str", type := 153, offset := 9, embedded := false, tag := "", pkgPath := "", byteOffset := 40 }, { name := "PtrToThis", type := 154, offset := 10, embedded := false, tag := "", pkgPath := "", byteOffset := 44 }]) := ⟨Try.underlying156⟩
instance : SzT Try.prog 156 11 := ⟨by kernel_rfl⟩
instance : ByT Try.prog 156 48 := ⟨by kernel_rfl⟩
instance : ZrT Try.prog 156 (#[Value.int .u64 0, Value.int .u64 0, Value.int .u32 0, Value.int .u8 0, Value.int .u8 0, Value.int .u8 0, Value.int .u8 0, Value.nilFunc, Value.pointer none, Value.int .i32 0, Value.int .i32 0]) := ⟨by kernel_rfl⟩
instance : RwT Try.prog 156 11 := ⟨by kernel_rfl⟩
instance : PlT Try.prog 156 [(0, 1), (1, 1), (2, 1), (3, 1), (4, 1), (5, 1), (6, 1), (7, 1), (8, 1), (9, 1), (10, 1)] := ⟨by kernel_rfl⟩
instance : UT Try.prog 157 TypeDesc.unsafePointer := ⟨Try.underlying157⟩
instance : SzT Try.prog 157 1 := ⟨by kernel_rfl⟩
instance : ByT Try.prog 157 8 := ⟨by kernel_rfl⟩
instance : ZrT Try.prog 157 (#[Value.pointer none]) := ⟨by kernel_rfl⟩
instance : FlT Try.prog 157 := ⟨by kernel_rfl⟩
theorem mixed : Try.prog.follows .mixedOrders = true := by kernel_rfl
end Go.Proofs.Yteopejjlhmghbaa
namespace Go.Proofs.Yteopejjlhmghbaa
open Go Go.RowKit
set_option linter.unusedVariables false
set_option linter.unusedSimpArgs false
def secE (f : Nat → Int) : List Value := (List.range 64).map fun j => .int .u8 (f j)
def secV (f : Nat → Int) : Value := .agg (secE f).toArray
theorem secE_len (f : Nat → Int) : (secE f).length = 64 := by simp [secE]
theorem secE_one (f : Nat → Int) : allOne (secE f) = true := by
  unfold secE
  generalize List.range 64 = l
  induction l with
  | nil => rfl
  | cons x l ih => simpa [allOne, Value.oneCell'] using ih
structure Dk where
  secs : List (Nat → Int)
  M : List (ME (Nat → Int))
  cl : Nat
  fused : Bool
  fuse : Int
  gone : Bool
def Dk.new (n : Nat) : Dk := ⟨List.replicate n (fun _ => 0), [], 0, false, 0, false⟩
def Dk.pgone (D : Dk) : Bool := D.gone || (D.fused && D.fuse == 0)
abbrev DskL (gd gw gm : Nat) (D : Dk) : List Chunk := [.blk gd (.cells #[.slice (some ⟨gw, 0, none⟩) D.secs.length D.secs.length, .map (some gm), .bool D.fused, .int .i64 D.fuse, .bool D.gone] 74 (0, 0)), .blk gw (.cells (D.secs.flatMap secE).toArray 76 (0, 0)), .blk gm (.map (mEs secV D.M) D.cl)]
theorem feetD {gd gw gm : Nat} {D : Dk} : feet (DskL gd gw gm D) = [gd, gw, gm] := rfl
set_option maxRecDepth 100000 in
set_option maxHeartbeats 4000000 in
theorem has_t (gd : Nat) (n : Nat) (s : Option Addr) (c : Nat) (vs : List Value) (i : Int) (w : World) (hO : Old w gd 0 (.slice s n c :: vs)) (hi : 0 ≤ i ∧ i < n) : CA Try.prog 37 [.pointer (some ⟨gd, 0, none⟩), .int .i64 i] w (RV (.bool true) w) := by
  refine enter (L := []) (X := []) Try.func37 rfl Try.ntmps37 rfl rfl (Has.nil _) ?_
  repeat (first | refine c_seq ?_ | (refine c_region (id := 0) ?_; refine sq qa ?_; refine l_nil ?_) | (refine c_region (id := 1) ?_; refine sq qm ?_; refine sq (by first | exact dgeqt | exact dgeqf) ?_; refine sq qm ?_; (first | refine sk ?_ | refine skv ?_ | (refine st_want rfl rfl ?_; refine sq qm ?_)); (first | refine sk ?_ | refine skv ?_ | (refine st_want rfl rfl ?_; refine sq qm ?_)); (first | refine sk ?_ | refine skv ?_ | (refine st_want rfl rfl ?_; refine sq qn ?_)); (first | refine sk ?_ | refine skv ?_ | (refine st_want rfl rfl ?_; refine sq qf ?_)); (first | refine sk ?_ | refine skv ?_ | (refine st_want rfl rfl ?_; refine sq (by exact ql (hr := Rd.oldn (j := 0) hO (by rfl) (by simp))) ?_)); (first | refine sk ?_ | refine skv ?_ | (refine st_want rfl rfl ?_; refine sq qls ?_)); (first | refine sk ?_ | refine skv ?_ | (refine st_want rfl rfl ?_; refine sq (by first | exact dlsst | exact dlssf) ?_)); refine sq (by first | exact qpt | exact qpf) ?_; refine sq qa ?_; refine l_nil ?_) | refine n_then ?_ | refine c_block ?_ | refine c_skip ?_ | refine n_block ?_ | refine c_exit ?_ | refine n_then_exit ?_ | refine n_block_eq ?_ | refine n_block_ne rfl ?_ | refine c_ret ?_ | refine n_then_ret ?_ | refine n_block_ret ?_ | refine c_cond_t rfl ?_ | refine c_cond_f rfl ?_ | refine r_succ ?_ )
  (first | apply r_ret () | apply r_end ()); exact rfl; exact rfl; exact (.tmp rfl .nil); exact rfl; exact (List.nil_sublist _); exact new_nil; exact trivial
set_option maxRecDepth 100000 in
set_option maxHeartbeats 4000000 in
theorem pow_c (gd gm : Nat) (s : Value) (fu go : Bool) (fz : Int) (hf : 0 ≤ fz ∧ fz ≤ 9223372036854775807) (w : World) (hL0 : Has [.blk gd (.cells #[s, .map (some gm), .bool fu, .int .i64 fz, .bool go] 74 (0, 0))] w) :
    CA Try.prog 38 [.pointer (some ⟨gd, 0, none⟩)] w (RU (.bool (!(go || (fu && fz == 0)))) gd (.cells #[s, .map (some gm), .bool fu, .int .i64 (if go || (fu && fz == 0) then fz else if fu then fz - 1 else fz), .bool (go || (fu && fz == 0))] 74 (0, 0)) w) := by
  cases fu with
  | false =>
    simp only [Bool.false_and, Bool.or_false, Bool.false_eq_true, if_false, ite_self]
    cases go with
    | true =>
      refine enter (L := [.blk gd (.cells #[s, .map (some gm), .bool false, .int .i64 fz, .bool true] 74 (0, 0))]) (X := [gd]) Try.func38 rfl Try.ntmps38 rfl rfl hL0 ?_
      repeat (first | refine c_seq ?_ | (refine c_region (id := 0) ?_; refine sq qa ?_; refine l_nil ?_) | (refine c_region (id := 1) ?_; refine sq qm ?_; refine sq qn ?_; refine sq qf ?_; refine sq ql ?_; refine sq qm ?_; (first | refine sk ?_ | refine skv ?_ | (refine st_want rfl rfl ?_; refine sq qm ?_)); (first | refine sk ?_ | refine skv ?_ | (refine st_want rfl rfl ?_; refine sq qn ?_)); (first | refine sk ?_ | refine skv ?_ | (refine st_want rfl rfl ?_; refine sq qf ?_)); (first | refine sk ?_ | refine skv ?_ | (refine st_want rfl rfl ?_; refine sq ql ?_)); (first | refine sk ?_ | refine skv ?_ | (refine st_want rfl rfl ?_; refine sq (by first | exact deqlt | exact deqlf) ?_)); refine sq (by first | exact qpt | exact qpf) ?_; refine l_nil ?_) | (refine c_region (id := 3) ?_; refine sq qm ?_; refine sq qn ?_; refine sq qf ?_; refine sq ql ?_; refine l_nil ?_) | (refine c_region (id := 4) ?_; refine sq qa ?_; refine l_nil ?_) | refine n_then ?_ | refine c_block ?_ | refine c_skip ?_ | refine n_block ?_ | refine c_exit ?_ | refine n_then_exit ?_ | refine n_block_eq ?_ | refine n_block_ne rfl ?_ | refine c_ret ?_ | refine n_then_ret ?_ | refine n_block_ret ?_ | refine c_cond_t rfl ?_ | refine c_cond_f rfl ?_ | refine r_succ ?_ )
      (first | apply r_ret () | apply r_end ()); exact rfl; exact rfl; exact (.tmp rfl .nil); exact rfl; exact (by exact (by (repeat (first | exact List.nil_sublist _ | exact List.Sublist.slnil | apply List.Sublist.cons_cons | exact List.Sublist.refl _ | apply List.Sublist.cons)))); exact (by intro g hg; simp [feet, Chunk.foot] at hg; exact .inl (by simp [hg])); exact trivial
    | false =>
      refine enter (L := [.blk gd (.cells #[s, .map (some gm), .bool false, .int .i64 fz, .bool false] 74 (0, 0))]) (X := [gd]) Try.func38 rfl Try.ntmps38 rfl rfl hL0 ?_
      repeat (first | refine c_seq ?_ | (refine c_region (id := 0) ?_; refine sq qa ?_; refine l_nil ?_) | (refine c_region (id := 1) ?_; refine sq qm ?_; refine sq qn ?_; refine sq qf ?_; refine sq ql ?_; refine sq qm ?_; (first | refine sk ?_ | refine skv ?_ | (refine st_want rfl rfl ?_; refine sq qm ?_)); (first | refine sk ?_ | refine skv ?_ | (refine st_want rfl rfl ?_; refine sq qn ?_)); (first | refine sk ?_ | refine skv ?_ | (refine st_want rfl rfl ?_; refine sq qf ?_)); (first | refine sk ?_ | refine skv ?_ | (refine st_want rfl rfl ?_; refine sq ql ?_)); (first | refine sk ?_ | refine skv ?_ | (refine st_want rfl rfl ?_; refine sq (by first | exact deqlt | exact deqlf) ?_)); refine sq (by first | exact qpt | exact qpf) ?_; refine l_nil ?_) | (refine c_region (id := 3) ?_; refine sq qm ?_; refine sq qn ?_; refine sq qf ?_; refine sq ql ?_; refine l_nil ?_) | (refine c_region (id := 5) ?_; refine sq qm ?_; refine sq qn ?_; refine sq qf ?_; refine sq ql ?_; refine l_nil ?_) | (refine c_region (id := 7) ?_; refine sq qa ?_; refine l_nil ?_) | refine n_then ?_ | refine c_block ?_ | refine c_skip ?_ | refine n_block ?_ | refine c_exit ?_ | refine n_then_exit ?_ | refine n_block_eq ?_ | refine n_block_ne rfl ?_ | refine c_ret ?_ | refine n_then_ret ?_ | refine n_block_ret ?_ | refine c_cond_t rfl ?_ | refine c_cond_f rfl ?_ | refine r_succ ?_ )
      (first | apply r_ret () | apply r_end ()); exact rfl; exact rfl; exact (.tmp rfl .nil); exact rfl; exact (by exact (by (repeat (first | exact List.nil_sublist _ | exact List.Sublist.slnil | apply List.Sublist.cons_cons | exact List.Sublist.refl _ | apply List.Sublist.cons)))); exact (by intro g hg; simp [feet, Chunk.foot] at hg; exact .inl (by simp [hg])); exact trivial
  | true =>
    simp only [Bool.true_and, if_true]
    by_cases hz : fz = 0
    · have e : (fz == 0) = true := by simpa using hz
      rw [e]
      simp only [Bool.or_true, if_true, Bool.not_true]
      cases go with
      | true =>
        refine enter (L := [.blk gd (.cells #[s, .map (some gm), .bool true, .int .i64 fz, .bool true] 74 (0, 0))]) (X := [gd]) Try.func38 rfl Try.ntmps38 rfl rfl hL0 ?_
        repeat (first | refine c_seq ?_ | (refine c_region (id := 0) ?_; refine sq qa ?_; refine l_nil ?_) | (refine c_region (id := 1) ?_; refine sq qm ?_; refine sq qn ?_; refine sq qf ?_; refine sq ql ?_; refine sq qm ?_; (first | refine sk ?_ | refine skv ?_ | (refine st_want rfl rfl ?_; refine sq qm ?_)); (first | refine sk ?_ | refine skv ?_ | (refine st_want rfl rfl ?_; refine sq qn ?_)); (first | refine sk ?_ | refine skv ?_ | (refine st_want rfl rfl ?_; refine sq qf ?_)); (first | refine sk ?_ | refine skv ?_ | (refine st_want rfl rfl ?_; refine sq ql ?_)); (first | refine sk ?_ | refine skv ?_ | (refine st_want rfl rfl ?_; refine sq (by first | exact deqlt | exact deqlf) ?_)); refine sq (by first | exact qpt | exact qpf) ?_; refine l_nil ?_) | (refine c_region (id := 2) ?_; refine sq qm ?_; refine sq qn ?_; refine sq qf ?_; refine se ?_; refine es1 ?_ (hg := .inl (by simp)); refine l_nil ?_) | (refine c_region (id := 3) ?_; refine sq qm ?_; refine sq qn ?_; refine sq qf ?_; refine sq ql ?_; refine l_nil ?_) | (refine c_region (id := 4) ?_; refine sq qa ?_; refine l_nil ?_) | refine n_then ?_ | refine c_block ?_ | refine c_skip ?_ | refine n_block ?_ | refine c_exit ?_ | refine n_then_exit ?_ | refine n_block_eq ?_ | refine n_block_ne rfl ?_ | refine c_ret ?_ | refine n_then_ret ?_ | refine n_block_ret ?_ | refine c_cond_t rfl ?_ | refine c_cond_f rfl ?_ | refine r_succ ?_ )
        (first | apply r_ret () | apply r_end ()); exact rfl; exact rfl; exact (.tmp rfl .nil); exact rfl; exact (by exact (by (repeat (first | exact List.nil_sublist _ | exact List.Sublist.slnil | apply List.Sublist.cons_cons | exact List.Sublist.refl _ | apply List.Sublist.cons)))); exact (by intro g hg; simp [feet, Chunk.foot] at hg; exact .inl (by simp [hg])); exact trivial
      | false =>
        refine enter (L := [.blk gd (.cells #[s, .map (some gm), .bool true, .int .i64 fz, .bool false] 74 (0, 0))]) (X := [gd]) Try.func38 rfl Try.ntmps38 rfl rfl hL0 ?_
        repeat (first | refine c_seq ?_ | (refine c_region (id := 0) ?_; refine sq qa ?_; refine l_nil ?_) | (refine c_region (id := 1) ?_; refine sq qm ?_; refine sq qn ?_; refine sq qf ?_; refine sq ql ?_; refine sq qm ?_; (first | refine sk ?_ | refine skv ?_ | (refine st_want rfl rfl ?_; refine sq qm ?_)); (first | refine sk ?_ | refine skv ?_ | (refine st_want rfl rfl ?_; refine sq qn ?_)); (first | refine sk ?_ | refine skv ?_ | (refine st_want rfl rfl ?_; refine sq qf ?_)); (first | refine sk ?_ | refine skv ?_ | (refine st_want rfl rfl ?_; refine sq ql ?_)); (first | refine sk ?_ | refine skv ?_ | (refine st_want rfl rfl ?_; refine sq (by first | exact deqlt | exact deqlf) ?_)); refine sq (by first | exact qpt | exact qpf) ?_; refine l_nil ?_) | (refine c_region (id := 2) ?_; refine sq qm ?_; refine sq qn ?_; refine sq qf ?_; refine se ?_; refine es1 ?_ (hg := .inl (by simp)); refine l_nil ?_) | (refine c_region (id := 3) ?_; refine sq qm ?_; refine sq qn ?_; refine sq qf ?_; refine sq ql ?_; refine l_nil ?_) | (refine c_region (id := 4) ?_; refine sq qa ?_; refine l_nil ?_) | refine n_then ?_ | refine c_block ?_ | refine c_skip ?_ | refine n_block ?_ | refine c_exit ?_ | refine n_then_exit ?_ | refine n_block_eq ?_ | refine n_block_ne rfl ?_ | refine c_ret ?_ | refine n_then_ret ?_ | refine n_block_ret ?_ | refine c_cond_t rfl ?_ | refine c_cond_f rfl ?_ | refine r_succ ?_ )
        (first | apply r_ret () | apply r_end ()); exact rfl; exact rfl; exact (.tmp rfl .nil); exact rfl; exact (by exact (by (repeat (first | exact List.nil_sublist _ | exact List.Sublist.slnil | apply List.Sublist.cons_cons | exact List.Sublist.refl _ | apply List.Sublist.cons)))); exact (by intro g hg; simp [feet, Chunk.foot] at hg; exact .inl (by simp [hg])); exact trivial
    · have e : (fz == 0) = false := by simpa using hz
      rw [e]
      simp only [Bool.or_false]
      cases go with
      | true =>
        simp only [if_true, Bool.not_true]
        refine enter (L := [.blk gd (.cells #[s, .map (some gm), .bool true, .int .i64 fz, .bool true] 74 (0, 0))]) (X := [gd]) Try.func38 rfl Try.ntmps38 rfl rfl hL0 ?_
        repeat (first | refine c_seq ?_ | (refine c_region (id := 0) ?_; refine sq qa ?_; refine l_nil ?_) | (refine c_region (id := 1) ?_; refine sq qm ?_; refine sq qn ?_; refine sq qf ?_; refine sq ql ?_; refine sq qm ?_; (first | refine sk ?_ | refine skv ?_ | (refine st_want rfl rfl ?_; refine sq qm ?_)); (first | refine sk ?_ | refine skv ?_ | (refine st_want rfl rfl ?_; refine sq qn ?_)); (first | refine sk ?_ | refine skv ?_ | (refine st_want rfl rfl ?_; refine sq qf ?_)); (first | refine sk ?_ | refine skv ?_ | (refine st_want rfl rfl ?_; refine sq ql ?_)); (first | refine sk ?_ | refine skv ?_ | (refine st_want rfl rfl ?_; refine sq (by first | exact deqlt | exact deqlf) ?_)); refine sq (by first | exact qpt | exact qpf) ?_; refine l_nil ?_) | (refine c_region (id := 3) ?_; refine sq qm ?_; refine sq qn ?_; refine sq qf ?_; refine sq ql ?_; refine l_nil ?_) | (refine c_region (id := 4) ?_; refine sq qa ?_; refine l_nil ?_) | refine n_then ?_ | refine c_block ?_ | refine c_skip ?_ | refine n_block ?_ | refine c_exit ?_ | refine n_then_exit ?_ | refine n_block_eq ?_ | refine n_block_ne rfl ?_ | refine c_ret ?_ | refine n_then_ret ?_ | refine n_block_ret ?_ | refine c_cond_t rfl ?_ | refine c_cond_f rfl ?_ | refine r_succ ?_ )
        (first | apply r_ret () | apply r_end ()); exact rfl; exact rfl; exact (.tmp rfl .nil); exact rfl; exact (by exact (by (repeat (first | exact List.nil_sublist _ | exact List.Sublist.slnil | apply List.Sublist.cons_cons | exact List.Sublist.refl _ | apply List.Sublist.cons)))); exact (by intro g hg; simp [feet, Chunk.foot] at hg; exact .inl (by simp [hg])); exact trivial
      | false =>
        simp only [Bool.false_eq_true, if_false, Bool.not_false]
        refine enter (L := [.blk gd (.cells #[s, .map (some gm), .bool true, .int .i64 fz, .bool false] 74 (0, 0))]) (X := [gd]) Try.func38 rfl Try.ntmps38 rfl rfl hL0 ?_
        repeat (first | refine c_seq ?_ | (refine c_region (id := 0) ?_; refine sq qa ?_; refine l_nil ?_) | (refine c_region (id := 1) ?_; refine sq qm ?_; refine sq qn ?_; refine sq qf ?_; refine sq ql ?_; refine sq qm ?_; (first | refine sk ?_ | refine skv ?_ | (refine st_want rfl rfl ?_; refine sq qm ?_)); (first | refine sk ?_ | refine skv ?_ | (refine st_want rfl rfl ?_; refine sq qn ?_)); (first | refine sk ?_ | refine skv ?_ | (refine st_want rfl rfl ?_; refine sq qf ?_)); (first | refine sk ?_ | refine skv ?_ | (refine st_want rfl rfl ?_; refine sq ql ?_)); (first | refine sk ?_ | refine skv ?_ | (refine st_want rfl rfl ?_; refine sq (by first | exact deqlt | exact deqlf) ?_)); refine sq (by first | exact qpt | exact qpf) ?_; refine l_nil ?_) | (refine c_region (id := 3) ?_; refine sq qm ?_; refine sq qn ?_; refine sq qf ?_; refine sq ql ?_; refine l_nil ?_) | (refine c_region (id := 5) ?_; refine sq qm ?_; refine sq qn ?_; refine sq qf ?_; refine sq ql ?_; refine l_nil ?_) | (refine c_region (id := 6) ?_; refine sq qm ?_; refine sq qn ?_; refine sq qf ?_; refine sq ql ?_; refine sq qsub64 ?_; refine sq qn ?_; refine sq qf ?_; refine se ?_; refine es1 ?_ (hg := .inl (by simp)); refine l_nil ?_) | (refine c_region (id := 7) ?_; refine sq qa ?_; refine l_nil ?_) | refine n_then ?_ | refine c_block ?_ | refine c_skip ?_ | refine n_block ?_ | refine c_exit ?_ | refine n_then_exit ?_ | refine n_block_eq ?_ | refine n_block_ne rfl ?_ | refine c_ret ?_ | refine n_then_ret ?_ | refine n_block_ret ?_ | refine c_cond_t rfl ?_ | refine c_cond_f rfl ?_ | refine r_succ ?_ )
        (first | apply r_ret () | apply r_end ()); exact rfl; exact rfl; exact (.tmp rfl .nil); exact rfl; exact (by exact (by (repeat (first | exact List.nil_sublist _ | exact List.Sublist.slnil | apply List.Sublist.cons_cons | exact List.Sublist.refl _ | apply List.Sublist.cons)))); exact (by intro g hg; simp [feet, Chunk.foot] at hg; exact .inl (by simp [hg])); exact trivial
theorem slblkZ {n m : Nat} {T : List (Nat × Value)} {X : List Nat} {w0 : World} {L L' : List Chunk} {F : Act → World → Prop} {e : TypeId} {g cap sz : Nat} {xs : List Value} (hc : xs.length = cap * sz) (hp : Pl (.sl (some ⟨g, 0, none⟩) cap e sz xs) (.blk g (.cells xs.toArray e (0, 0))) L L') (h : ∀ a w, SS n T X w0 m L' a w → F a w) : ∀ a w, SS n T X w0 m L a w → F a w := by
  intro a w hs
  have hk := hs.has.ok _ hp.mem
  refine h a w ⟨hs.agr, hs.ch, hs.size, Has.repl hp hs.has (fun g hg => .inl (by simpa [Chunk.foot] using hg)) ?_ (fun _ _ _ => rfl)⟩
  simp only [Chunk.ok] at hk ⊢
  rcases hk with ⟨h1, _⟩ | ⟨g', cs, h1, h2, h3, h4⟩
  · cases h1
  · simp only [Option.some.injEq, Addr.mk.injEq, and_true] at h1
    subst h1
    rw [h2]
    congr 2
    have h5 : cs.toList = xs := by
      rw [← h4, List.take_of_length_le (by simp; omega)]
    rw [← h5, Array.toArray_toList]
theorem zsec : secE (fun _ => 0) = List.replicate 64 (.int .u8 0) := rfl
theorem madeSec (n : Nat) : (madeCells (List.replicate 64 (Value.int .u8 0)).toArray (n * 64)).toList = (List.replicate n (fun _ : Nat => (0 : Int))).flatMap secE := by
  have h1 : (madeCells (List.replicate 64 (Value.int .u8 0)).toArray (n * 64)).toList = List.replicate (n * 64) (.int .u8 0) := by
    rw [List.eq_replicate_iff]
    refine ⟨by simp [madeCells], fun b hb => ?_⟩
    simp only [madeCells, Array.toList_map, List.mem_map] at hb
    obtain ⟨i, _, rfl⟩ := hb
    have hlt : i % (List.replicate 64 (Value.int .u8 0)).toArray.size < (List.replicate 64 (Value.int .u8 0)).toArray.size := Nat.mod_lt _ (by simp)
    rw [getElem!_pos (List.replicate 64 (Value.int .u8 0)).toArray (i % _) hlt]
    simp only [List.getElem_toArray, List.getElem_replicate]
  rw [h1]
  symm
  rw [List.eq_replicate_iff]
  refine ⟨by rw [flat_len secE_len]; simp, fun b hb => ?_⟩
  obtain ⟨f, hf, hb⟩ := List.mem_flatMap.1 hb
  rw [List.eq_of_mem_replicate hf, zsec] at hb
  exact List.eq_of_mem_replicate hb
set_option maxRecDepth 100000 in
set_option maxHeartbeats 4000000 in
theorem newd_c (n : Nat) (hn : n ≤ 16384) (w : World) :
    CA Try.prog 15 [.int .i64 (n : Int)] w (Ret (fun z : Nat × Nat × Nat => .pointer (some ⟨z.1, 0, none⟩)) [] (fun z => DskL z.1 z.2.1 z.2.2 (Dk.new n)) (fun _ => True) w) := by
  refine enter (L := []) (X := []) Try.func15 rfl Try.ntmps15 rfl rfl (Has.nil _) ?_
  repeat (first | refine c_seq ?_ | (refine c_region (id := 0) ?_; refine sq qa ?_; refine l_nil ?_) | (refine c_region (id := 1) ?_; refine sq qm ?_; refine sq (by exact Qt.cast (v' := .int .i64 ((n : Nat) : Int)) (congrArg (Value.int .i64) (by split <;> omega)) (q_max rfl rfl)) ?_; refine sq (by exact Qt.cast (v' := .int .i64 ((n : Nat) : Int)) (congrArg (Value.int .i64) (by split <;> omega)) (q_min rfl rfl)) ?_; refine se ?_; refine e_make (zs := (List.replicate 64 (Value.int .u8 0)).toArray) rfl rfl rfl (by omega) (by omega) (by omega) (by omega) ?_; refine se ?_; refine e_makeMap secV rfl ?_; refine sq qbs ?_; refine se ?_; refine eb ?_; refine sq qa ?_; refine l_nil ?_) | refine n_then ?_ | refine c_block ?_ | refine c_skip ?_ | refine n_block ?_ | refine c_exit ?_ | refine n_then_exit ?_ | refine n_block_eq ?_ | refine n_block_ne rfl ?_ | refine c_ret ?_ | refine n_then_ret ?_ | refine n_block_ret ?_ | refine c_cond_t rfl ?_ | refine c_cond_f rfl ?_ | refine r_succ ?_ )
  refine chg (L' := [.blk (w.heap.size + 1 + 1) (.cells #[.slice (some ⟨w.heap.size, 0, none⟩) n n, .map (some (w.heap.size + 1)), .bool false, .int .i64 0, .bool false] 74 (0, 0)), .blk (w.heap.size + 1) (.map (mEs secV []) 0), .sl (some ⟨w.heap.size, 0, none⟩) n 76 64 ((List.replicate n (fun _ : Nat => (0 : Int))).flatMap secE)]) (by rw [← madeSec]; rfl) ?_
  refine slblkZ (g := w.heap.size) (cap := n) (sz := 64) (xs := (List.replicate n (fun _ : Nat => (0 : Int))).flatMap secE) (by rw [flat_len secE_len]; simp) (by (repeat (first | exact Pl.here | apply Pl.there))) ?_
  refine fgs (A := DskL (w.heap.size + 1 + 1) w.heap.size (w.heap.size + 1) (Dk.new n)) (R := []) (by unfold Dk.new DskL; simp only [List.length_replicate]; exact Sp.cons (by (repeat (first | exact Rm.here | apply Rm.there))) (Sp.cons (by (repeat (first | exact Rm.here | apply Rm.there))) (Sp.cons (by (repeat (first | exact Rm.here | apply Rm.there))) Sp.nil))) ?_
  (first | apply r_ret (w.heap.size + 1 + 1, w.heap.size, w.heap.size + 1) | apply r_end (w.heap.size + 1 + 1, w.heap.size, w.heap.size + 1)); exact rfl; exact rfl; exact (.tmp rfl .nil); exact rfl; exact (List.Sublist.refl _); exact (by intro g hg; rw [feetD] at hg; simp at hg; rcases hg with hg | hg | hg <;> exact .inr (by omega)); exact trivial
end Go.Proofs.Yteopejjlhmghbaa
namespace Go.Proofs.Yteopejjlhmghbaa
open Go Go.RowKit
set_option linter.unusedVariables false
set_option linter.unusedSimpArgs false
def fulS (x : Int) (xs : List Int) (j : Nat) : Int := (xs[j]?).getD x
def secL (f : Nat → Int) (i : Nat) : List Int := (List.range i).map f
theorem secL_succ (f : Nat → Int) (i : Nat) : secL f (i + 1) = secL f i ++ [f i] := by
  unfold secL; rw [List.range_succ, List.map_append]; rfl
theorem secL_len (f : Nat → Int) (i : Nat) : (secL f i).length = i := by simp [secL]
theorem secE_eq (f : Nat → Int) : secE f = (secL f 64).map (Value.int .u8) := by simp [secE, secL]
set_option maxRecDepth 100000 in
set_option maxHeartbeats 4000000 in
theorem full_c (x : Int) (a : Option Addr) (len cap0 : Nat) (xs : List Int) (hxl : xs.length = len) (w : World) (hs : SlE (Value.int .u8) w a xs) :
    CA Try.prog 17 [.int .u8 x, .slice a len cap0] w (RLe (Value.int .u8) 5 (fun zs => zs = secL (fulS x xs) 64) w) := by
  obtain ⟨F, hF⟩ : ∃ F, F = fulS x xs := ⟨_, rfl⟩
  rw [← hF]
  refine enter (L := []) (X := []) Try.func17 rfl Try.ntmps17 rfl rfl (Has.nil _) ?_
  repeat (first | refine c_seq ?_ | (refine c_region (id := 0) ?_; refine sq qa ?_; refine l_nil ?_) | (refine c_region (id := 1) ?_; refine sq qa ?_; refine l_nil ?_) | (refine c_region (id := 2) ?_; refine sq qa ?_; refine l_nil ?_) | refine n_then ?_ | refine c_block ?_ | refine c_skip ?_ | refine n_block ?_ | refine c_exit ?_ | refine n_then_exit ?_ | refine n_block_eq ?_ | refine n_block_ne rfl ?_ | refine c_ret ?_ | refine n_then_ret ?_ | refine n_block_ret ?_ | refine c_cond_t rfl ?_ | refine c_cond_f rfl ?_ | refine r_succ ?_ )
  refine add_nil 5 1 ?_
  refine c_loop (γ := Nat × Option Addr × Nat × Nat) (fun z => [(6, .int .i64 z.1), (5, .slice z.2.1 z.1 z.2.2.1), (0, .int .u8 x), (1, .slice a len cap0)]) (fun z => z.2.2.2) (fun z => [.sl z.2.1 z.2.2.1 5 1 ((secL F z.1).map (Value.int .u8))]) (fun z => z.1 ≤ 64 ∧ OS [] w.heap.size z.2.1 z.2.2.1 z.1 ∧ w.heap.size ≤ z.2.2.2) (fun z => 64 - z.1) ⟨0, none, 0, w.heap.size⟩ ⟨by simp, OS.nil _ _, by simp⟩ ⟨rfl, rfl, rfl, rfl, trivial⟩ rfl (by (repeat (first | exact List.nil_sublist _ | exact List.Sublist.slnil | apply List.Sublist.cons_cons | exact List.Sublist.refl _ | apply List.Sublist.cons))) ?_
  rintro ⟨i, b, cap, mm⟩ ⟨hi, ho, hmm⟩
  dsimp only at hi ho hmm ⊢
  have hll : (secL F i).length = i := secL_len _ _
  by_cases h8 : i < 64
  · by_cases hb : i < len
    · obtain ⟨v, hv⟩ : ∃ v, xs[i]? = some v := ⟨_, List.getElem?_eq_getElem (by omega)⟩
      have hFv : F i = v := by rw [hF]; simp [fulS, hv]
      have hn := nth_map (enc := (Value.int .u8)) hv
      obtain ⟨g, o, rfl, hO⟩ := hs.get (i := i) (by omega)
      repeat (first | refine c_seq ?_ | (refine c_region (id := 3) ?_; refine sq qm ?_; refine sq (by first | exact dlsst | exact dlssf) ?_; refine l_nil ?_) | (refine c_region (id := 4) ?_; refine sq qm ?_; refine sq qadd64 ?_; refine sq qa ?_; refine l_nil ?_) | (refine c_region (id := 5) ?_; refine sq qm ?_; refine sq qa ?_; refine l_nil ?_) | (refine c_region (id := 6) ?_; refine sq qm ?_; refine sq qm ?_; refine sq qls ?_; refine sq (by first | exact dlsst | exact dlssf) ?_; refine l_nil ?_) | (refine c_region (id := 7) ?_; refine sq qm ?_; refine sq qm ?_; refine sq qis ?_; refine sq (by exact ql (hr := Rd.oldn hO (by exact hn) (by simp))) ?_; refine sq qa ?_; refine l_nil ?_) | (refine c_region (id := 8) ?_; refine sq qm ?_; refine sq qm ?_; refine se ?_; refine ebs ?_; refine se ?_; refine e_appM (Value.int .u8) (secL F i) v rfl rfl rfl (by (repeat (first | exact Rm.here | apply Rm.there))) (by (repeat (first | exact List.Mem.head _ | apply List.Mem.tail))) hll ho (by rfl) (by omega) (by omega) ?_; intro b2 cap2 m2 ho2 hm2; refine sq qa ?_; refine l_nil ?_) | refine n_then ?_ | refine c_block ?_ | refine c_skip ?_ | refine n_block ?_ | refine c_exit ?_ | refine n_then_exit ?_ | refine n_block_eq ?_ | refine n_block_ne rfl ?_ | refine c_ret ?_ | refine n_then_ret ?_ | refine n_block_ret ?_ | refine c_cond_t rfl ?_ | refine c_cond_f rfl ?_ | refine r_succ ?_ )
      refine c_round ⟨i + 1, b2, cap2, m2⟩ ⟨by dsimp only; omega, ho2, by dsimp only; omega⟩ (by dsimp only; omega) ⟨rfl, rfl, rfl, rfl, trivial⟩ (by rfl) (by rw [secL_succ, hFv]; exact (by (repeat (first | exact List.nil_sublist _ | exact List.Sublist.slnil | apply List.Sublist.cons_cons | exact List.Sublist.refl _ | apply List.Sublist.cons))))
    · have hFv : F i = x := by
        have h1 : xs[i]? = none := List.getElem?_eq_none (by omega)
        rw [hF]; simp [fulS, h1]
      repeat (first | refine c_seq ?_ | (refine c_region (id := 3) ?_; refine sq qm ?_; refine sq (by first | exact dlsst | exact dlssf) ?_; refine l_nil ?_) | (refine c_region (id := 4) ?_; refine sq qm ?_; refine sq qadd64 ?_; refine sq qa ?_; refine l_nil ?_) | (refine c_region (id := 5) ?_; refine sq qm ?_; refine sq qa ?_; refine l_nil ?_) | (refine c_region (id := 6) ?_; refine sq qm ?_; refine sq qm ?_; refine sq qls ?_; refine sq (by first | exact dlsst | exact dlssf) ?_; refine l_nil ?_) | (refine c_region (id := 8) ?_; refine sq qm ?_; refine sq qm ?_; refine se ?_; refine ebs ?_; refine se ?_; refine e_appM (Value.int .u8) (secL F i) x rfl rfl rfl (by (repeat (first | exact Rm.here | apply Rm.there))) (by (repeat (first | exact List.Mem.head _ | apply List.Mem.tail))) hll ho (by rfl) (by omega) (by omega) ?_; intro b2 cap2 m2 ho2 hm2; refine sq qa ?_; refine l_nil ?_) | refine n_then ?_ | refine c_block ?_ | refine c_skip ?_ | refine n_block ?_ | refine c_exit ?_ | refine n_then_exit ?_ | refine n_block_eq ?_ | refine n_block_ne rfl ?_ | refine c_ret ?_ | refine n_then_ret ?_ | refine n_block_ret ?_ | refine c_cond_t rfl ?_ | refine c_cond_f rfl ?_ | refine r_succ ?_ )
      refine c_round ⟨i + 1, b2, cap2, m2⟩ ⟨by dsimp only; omega, ho2, by dsimp only; omega⟩ (by dsimp only; omega) ⟨rfl, rfl, rfl, rfl, trivial⟩ (by rfl) (by rw [secL_succ, hFv]; exact (by (repeat (first | exact List.nil_sublist _ | exact List.Sublist.slnil | apply List.Sublist.cons_cons | exact List.Sublist.refl _ | apply List.Sublist.cons))))
  · obtain rfl : i = 64 := by omega
    repeat (first | refine c_seq ?_ | (refine c_region (id := 3) ?_; refine sq qm ?_; refine sq (by first | exact dlsst | exact dlssf) ?_; refine l_nil ?_) | (refine c_region (id := 9) ?_; refine sq qm ?_; refine sq qa ?_; refine l_nil ?_) | refine n_then ?_ | refine c_block ?_ | refine c_skip ?_ | refine n_block ?_ | refine c_exit ?_ | refine n_then_exit ?_ | refine n_block_eq ?_ | refine n_block_ne rfl ?_ | refine c_ret ?_ | refine n_then_ret ?_ | refine n_block_ret ?_ | refine c_cond_t rfl ?_ | refine c_cond_f rfl ?_ | refine r_succ ?_ )
    (first | apply r_ret (b, cap, secL F 64) | apply r_end (b, cap, secL F 64)); exact rfl; exact rfl; exact (.tmp rfl .nil); exact rfl; exact (by exact (by (repeat (first | exact List.nil_sublist _ | exact List.Sublist.slnil | apply List.Sublist.cons_cons | exact List.Sublist.refl _ | apply List.Sublist.cons)))); exact (new_sl ho.newc new_nil); exact ⟨by have h9 := ho.ret; exact h9, rfl⟩
end Go.Proofs.Yteopejjlhmghbaa
namespace Go.Proofs.Yteopejjlhmghbaa
open Go Go.RowKit
set_option linter.unusedVariables false
section
variable {P : Program} {n m d : Nat} {T : List (Nat × Value)} {X : List Nat} {w0 : World} {L L' : List Chunk} {K : Act → World → Prop} {Q : Exit → Act → World → Prop} {x y : Operand} {ty t e src : TypeId} {pos : String} {af : Array Edge} {gu : Option (Nat × Bool)}
theorem q_s2ap {k : Nat} {b : Option Addr} {len cap : Nat} {dst : Option Tmp} (hx : ev T x = some (.slice b len cap)) [hu : UT P t (.array k e)] (hk : k ≤ len) : Qt P X w0 ⟨dst, .sliceToArrayPointer t x, ty, pos, af, gu⟩ T L (.pointer b) := by
  refine ⟨?_⟩
  intro n a w hA hC hL
  simp [execOp, hA.eval hx, run_arrayAt (P := P) w t e k b len cap hu.h hk]
end
end Go.Proofs.Yteopejjlhmghbaa
namespace Go.Proofs.Yteopejjlhmghbaa
open Go Go.RowKit
set_option linter.unusedVariables false
set_option linter.unusedSimpArgs false
def Dk.dead (D : Dk) : Dk := { D with gone := true }
def Dk.lit (D : Dk) : Dk := { D with fuse := if D.fused then D.fuse - 1 else D.fuse, gone := false }
def Dk.put (D : Dk) (i : Nat) (f : Nat → Int) : Dk := match mFind D.M i with
  | none => { D with secs := D.secs.set i f, M := D.M ++ [((i : Int), (D.secs[i]?).getD (fun _ => 0), D.cl)], cl := D.cl + 1 }
  | some _ => { D with secs := D.secs.set i f }
theorem setSec (f : Nat → Int) {secs : List (Nat → Int)} {i : Nat} {g : Nat → Int} (h : secs[i]? = some g) : setA (secs.flatMap secE).toArray (i * 64) (secE f) = ((secs.set i f).flatMap secE).toArray := by
  have hi := (List.getElem?_eq_some_iff.1 h).1
  apply Array.ext'
  rw [setA_toList _ _ _ (by simp only [List.size_toArray, secE_len, flat_len secE_len]; omega)]
  simp only [secE_len]
  rw [List.set_eq_take_append_cons_drop, if_pos hi, List.flatMap_append, List.flatMap_cons, flat_take secE_len, flat_drop secE_len]
  simp only [Nat.add_mul, Nat.one_mul, List.append_assoc]
theorem pow_no (gd gw gm : Nat) (D : Dk) (hf : 0 ≤ D.fuse ∧ D.fuse ≤ 9223372036854775807) (hp : D.pgone = true) (w : World) (h : Has [.blk gd (.cells #[.slice (some ⟨gw, 0, none⟩) D.secs.length D.secs.length, .map (some gm), .bool D.fused, .int .i64 D.fuse, .bool D.gone] 74 (0, 0))] w) :
    CA Try.prog 38 [.pointer (some ⟨gd, 0, none⟩)] w (RU (.bool false) gd (.cells #[.slice (some ⟨gw, 0, none⟩) D.secs.length D.secs.length, .map (some gm), .bool D.fused, .int .i64 D.fuse, .bool true] 74 (0, 0)) w) := by
  have h1 := pow_c gd gm (.slice (some ⟨gw, 0, none⟩) D.secs.length D.secs.length) D.fused D.gone D.fuse hf w h
  unfold Dk.pgone at hp
  rw [hp] at h1
  exact h1
theorem pow_yes (gd gw gm : Nat) (D : Dk) (hf : 0 ≤ D.fuse ∧ D.fuse ≤ 9223372036854775807) (hp : D.pgone = false) (w : World) (h : Has [.blk gd (.cells #[.slice (some ⟨gw, 0, none⟩) D.secs.length D.secs.length, .map (some gm), .bool D.fused, .int .i64 D.fuse, .bool D.gone] 74 (0, 0))] w) :
    CA Try.prog 38 [.pointer (some ⟨gd, 0, none⟩)] w (RU (.bool true) gd (.cells #[.slice (some ⟨gw, 0, none⟩) D.secs.length D.secs.length, .map (some gm), .bool D.fused, .int .i64 (if D.fused then D.fuse - 1 else D.fuse), .bool false] 74 (0, 0)) w) := by
  have h1 := pow_c gd gm (.slice (some ⟨gw, 0, none⟩) D.secs.length D.secs.length) D.fused D.gone D.fuse hf w h
  unfold Dk.pgone at hp
  rw [hp] at h1
  exact h1
set_option maxRecDepth 100000 in
set_option maxHeartbeats 4000000 in
theorem wr_lost (gd gw gm : Nat) (D : Dk) (hf : 0 ≤ D.fuse ∧ D.fuse ≤ 9223372036854775807) (hp : D.pgone = true) (i : Int) (hi : 0 ≤ i ∧ i < D.secs.length) (a : Option Addr) (cap : Nat) (w : World) (hD : Has (DskL gd gw gm D) w) :
    CA Try.prog 18 [.pointer (some ⟨gd, 0, none⟩), .int .i64 i, .slice a 64 cap] w (Ret (fun _ : Unit => .int .i64 5) [gd, gw, gm] (fun _ => DskL gd gw gm D.dead) (fun _ => True) w) := by
  refine enter (L := DskL gd gw gm D) (X := [gd, gw, gm]) Try.func18 rfl Try.ntmps18 rfl rfl hD ?_
  repeat (first | refine c_seq ?_ | (refine c_region (id := 0) ?_; refine sq qa ?_; refine l_nil ?_) | (refine c_region (id := 1) ?_; refine sq qm ?_; refine sq qm ?_; refine se ?_; refine ecp rfl rfl (fun w hC hm hL => by exact has_t gd D.secs.length _ _ _ i w (hL.old (k := 5) (by (repeat (first | exact List.Mem.head _ | apply List.Mem.tail))) (o := 0) rfl) ⟨by omega, by omega⟩) ?_; intro m' hm'; refine sq qnt ?_; refine sq qm ?_; (first | refine sk ?_ | refine skv ?_ | (refine st_want rfl rfl ?_; refine sq qm ?_)); (first | refine sk ?_ | refine skv ?_ | (refine st_want rfl rfl ?_; refine sq qls ?_)); (first | refine sk ?_ | refine skv ?_ | (refine st_want rfl rfl ?_; refine sq (by first | exact dneqt | exact dneqf) ?_)); refine sq (by first | exact qpt | exact qpf) ?_; refine l_nil ?_) | (refine c_region (id := 3) ?_; refine sq qm ?_; refine se ?_; refine e_call_upd rfl rfl (by kernel_rfl) rfl (fun w hC hm hL => by exact pow_no gd gw gm D hf hp w (hL.sub (by (repeat (first | exact List.nil_sublist _ | exact List.Sublist.slnil | apply List.Sublist.cons_cons | exact List.Sublist.refl _ | apply List.Sublist.cons))))) (by (repeat (first | exact Pl.here | apply Pl.there))) (.inl (by simp)) ?_; intro m' hm'; refine sq qnt ?_; refine l_nil ?_) | (refine c_region (id := 4) ?_; refine sq qa ?_; refine l_nil ?_) | refine n_then ?_ | refine c_block ?_ | refine c_skip ?_ | refine n_block ?_ | refine c_exit ?_ | refine n_then_exit ?_ | refine n_block_eq ?_ | refine n_block_ne rfl ?_ | refine c_ret ?_ | refine n_then_ret ?_ | refine n_block_ret ?_ | refine c_cond_t rfl ?_ | refine c_cond_f rfl ?_ | refine r_succ ?_ )
  (first | apply r_ret () | apply r_end ()); exact rfl; exact rfl; exact (.tmp rfl .nil); exact rfl; exact (List.Sublist.refl _); exact (by intro g hg; rw [feetD] at hg; exact .inl hg); exact trivial
set_option maxRecDepth 100000 in
set_option maxHeartbeats 4000000 in
theorem wr_ok (gd gw gm : Nat) (D : Dk) (hf : 0 ≤ D.fuse ∧ D.fuse ≤ 9223372036854775807) (hp : D.pgone = false) (hn : D.secs.length ≤ 16384) (i : Nat) (hi : i < D.secs.length) (f : Nat → Int) (a : Option Addr) (cap : Nat) (w : World) (hb : SlE (Value.int .u8) w a (secL f 64)) (hx : ∀ g o, a = some ⟨g, o, none⟩ → g ∉ [gd, gw, gm]) (hD : Has (DskL gd gw gm D) w) :
    CA Try.prog 18 [.pointer (some ⟨gd, 0, none⟩), .int .i64 (i : Int), .slice a 64 cap] w (Ret (fun _ : Unit => .int .i64 0) [gd, gw, gm] (fun _ => DskL gd gw gm (D.lit.put i f)) (fun _ => True) w) := by
  obtain ⟨s0, hs⟩ : ∃ s0, D.secs[i]? = some s0 := ⟨_, List.getElem?_eq_getElem hi⟩
  obtain ⟨g, o, rfl, hO⟩ := hb.get (i := 0) (by rw [secL_len]; omega)
  replace hx := hx g o rfl
  rw [← secE_eq] at hO
  have hl2 : (secE f).length = 64 := secE_len f
  have hl0 : (secE s0).length = 64 := secE_len s0
  have hat := flat_at secE_len hs
  cases hm : mFind D.M (i : Int) with
  | none =>
    have hq : D.lit.put i f = { D.lit with secs := D.secs.set i f, M := D.M ++ [((i : Int), s0, D.cl)], cl := D.cl + 1 } := by
      show (match mFind D.M (i : Int) with | none => _ | some _ => _) = _
      rw [hm]
      simp only [Dk.lit, hs, Option.getD_some]
    rw [hq]
    refine enter (L := DskL gd gw gm D) (X := [gd, gw, gm]) Try.func18 rfl Try.ntmps18 rfl rfl hD ?_
    repeat (first | refine c_seq ?_ | (refine c_region (id := 0) ?_; refine sq qa ?_; refine l_nil ?_) | (refine c_region (id := 1) ?_; refine sq qm ?_; refine sq qm ?_; refine se ?_; refine ecp rfl rfl (fun w hC hm hL => by exact has_t gd D.secs.length _ _ _ (i : Int) w (hL.old (k := 5) (by (repeat (first | exact List.Mem.head _ | apply List.Mem.tail))) (o := 0) rfl) ⟨by omega, by omega⟩) ?_; intro m' hm'; refine sq qnt ?_; refine sq qm ?_; (first | refine sk ?_ | refine skv ?_ | (refine st_want rfl rfl ?_; refine sq qm ?_)); (first | refine sk ?_ | refine skv ?_ | (refine st_want rfl rfl ?_; refine sq qls ?_)); (first | refine sk ?_ | refine skv ?_ | (refine st_want rfl rfl ?_; refine sq (by first | exact dneqt | exact dneqf) ?_)); refine sq (by first | exact qpt | exact qpf) ?_; refine l_nil ?_) | (refine c_region (id := 3) ?_; refine sq qm ?_; refine se ?_; refine e_call_upd rfl rfl (by kernel_rfl) rfl (fun w hC hm hL => by exact pow_yes gd gw gm D hf hp w (hL.sub (by (repeat (first | exact List.nil_sublist _ | exact List.Sublist.slnil | apply List.Sublist.cons_cons | exact List.Sublist.refl _ | apply List.Sublist.cons))))) (by (repeat (first | exact Pl.here | apply Pl.there))) (.inl (by simp)) ?_; intro m' hm'; refine sq qnt ?_; refine l_nil ?_) | (refine c_region (id := 5) ?_; refine sq qm ?_; refine sq qn ?_; refine sq qf ?_; refine sq ql ?_; refine sq qm ?_; refine sq (by exact q_lookup_ok (v := .tuple #[.agg (secE (fun _ => 0)).toArray, .bool false]) secV D.M rfl rfl (zs := (secE (fun _ => 0)).toArray) (by simp [secE]) (by (repeat (first | exact List.Mem.head _ | apply List.Mem.tail))) hm rfl) ?_; refine sq qm ?_; refine sq qe ?_; refine sq qe ?_; refine se ?_; refine ea ?_; refine se ?_; refine esa ?_; refine sq qa ?_; refine l_nil ?_) | (refine c_region (id := 6) ?_; refine sq qm ?_; refine sq qnt ?_; refine l_nil ?_) | (refine x_region (id := 7) none [(0, .n), (1, .n), (2, .n), (3, .q), (4, .n), (5, .n), (6, .n), (7, .n), (8, .q), (9, .n), (10, .n), (11, .q), (12, .e)] (List.eraseIdx _ 3) mixed (by kernel_rfl) (List.eraseIdx_sublist _ _) ?_; refine xn rfl qm ?_; refine xn rfl qn ?_; refine xn rfl qf ?_; refine xq rfl ql ?_; refine xn rfl qm ?_; refine xn rfl qm ?_; refine xn rfl qn ?_; refine xn rfl qf ?_; refine xq rfl ql ?_; refine xn rfl qm ?_; refine xn rfl qis ?_; refine xq rfl (by exact qlr (vs := secE s0) (by rfl) (RdN.blk (by (repeat (first | exact List.Mem.head _ | apply List.Mem.tail))) (by rw [hl0]; exact hat)) hl0) ?_; refine x_e rfl ?_; refine e_mapNew secV D.M s0 rfl rfl rfl hm (by (repeat (first | exact Pl.here | apply Pl.there))) (.inl (by simp)) ?_; refine xk ?_; refine x_nil ?_) | (refine x_region (id := 8) (some 9) [(0, .n), (1, .n), (2, .n), (3, .q), (4, .n), (5, .n), (6, .n), (7, .q), (8, .n), (9, .b)] (List.eraseIdx _ 2) mixed (by kernel_rfl) (List.eraseIdx_sublist _ _) ?_; refine xn rfl qm ?_; refine xn rfl qn ?_; refine xn rfl qf ?_; refine xq rfl ql ?_; refine xn rfl qm ?_; refine xn rfl qm ?_; refine xn rfl (by exact q_s2ap rfl (by decide)) ?_; refine xq rfl (by exact qlr (vs := secE f) (by rfl) (RdN.old hO hx) hl2) ?_; refine xn rfl qis ?_; refine x_b rfl ?_; refine e_store_row (vs := (secE f).toArray) rfl rfl (by simp [secE_len]) (secE_one f) (by rw [setSec f hs]; (repeat (first | exact Pl.here | apply Pl.there))) (by simp [flat_len secE_len]; omega) (.inl (by simp)) ?_; refine x_k (List.nil_sublist _) ?_; refine x_nil ?_) | (refine c_region (id := 9) ?_; refine sq qa ?_; refine l_nil ?_) | refine n_then ?_ | refine c_block ?_ | refine c_skip ?_ | refine n_block ?_ | refine c_exit ?_ | refine n_then_exit ?_ | refine n_block_eq ?_ | refine n_block_ne rfl ?_ | refine c_ret ?_ | refine n_then_ret ?_ | refine n_block_ret ?_ | refine c_cond_t rfl ?_ | refine c_cond_f rfl ?_ | refine r_succ ?_ )
    (first | apply r_ret () | apply r_end ()); exact rfl; exact rfl; exact (.tmp rfl .nil); exact rfl; exact (by have e9 : (D.secs.set i f).length = D.secs.length := List.length_set; refine List.Sublist.trans (l₂ := [.blk gd (.cells #[.slice (some ⟨gw, 0, none⟩) D.secs.length D.secs.length, .map (some gm), .bool D.fused, .int .i64 (if D.fused then D.fuse - 1 else D.fuse), .bool false] 74 (0, 0)), .blk gw (.cells ((D.secs.set i f).flatMap secE).toArray 76 (0, 0)), .blk gm (.map (mEs secV (D.M ++ [((i : Int), s0, D.cl)])) (D.cl + 1))]) (by unfold DskL; simp only [e9]; exact List.Sublist.refl _) (by exact (by (repeat (first | exact List.nil_sublist _ | exact List.Sublist.slnil | apply List.Sublist.cons_cons | exact List.Sublist.refl _ | apply List.Sublist.cons))))); exact (by intro g hg; rw [feetD] at hg; exact .inl hg); exact trivial
  | some s9 =>
    have hq : D.lit.put i f = { D.lit with secs := D.secs.set i f } := by
      show (match mFind D.M (i : Int) with | none => _ | some _ => _) = _
      rw [hm]
      rfl
    rw [hq]
    refine enter (L := DskL gd gw gm D) (X := [gd, gw, gm]) Try.func18 rfl Try.ntmps18 rfl rfl hD ?_
    repeat (first | refine c_seq ?_ | (refine c_region (id := 0) ?_; refine sq qa ?_; refine l_nil ?_) | (refine c_region (id := 1) ?_; refine sq qm ?_; refine sq qm ?_; refine se ?_; refine ecp rfl rfl (fun w hC hm hL => by exact has_t gd D.secs.length _ _ _ (i : Int) w (hL.old (k := 5) (by (repeat (first | exact List.Mem.head _ | apply List.Mem.tail))) (o := 0) rfl) ⟨by omega, by omega⟩) ?_; intro m' hm'; refine sq qnt ?_; refine sq qm ?_; (first | refine sk ?_ | refine skv ?_ | (refine st_want rfl rfl ?_; refine sq qm ?_)); (first | refine sk ?_ | refine skv ?_ | (refine st_want rfl rfl ?_; refine sq qls ?_)); (first | refine sk ?_ | refine skv ?_ | (refine st_want rfl rfl ?_; refine sq (by first | exact dneqt | exact dneqf) ?_)); refine sq (by first | exact qpt | exact qpf) ?_; refine l_nil ?_) | (refine c_region (id := 3) ?_; refine sq qm ?_; refine se ?_; refine e_call_upd rfl rfl (by kernel_rfl) rfl (fun w hC hm hL => by exact pow_yes gd gw gm D hf hp w (hL.sub (by (repeat (first | exact List.nil_sublist _ | exact List.Sublist.slnil | apply List.Sublist.cons_cons | exact List.Sublist.refl _ | apply List.Sublist.cons))))) (by (repeat (first | exact Pl.here | apply Pl.there))) (.inl (by simp)) ?_; intro m' hm'; refine sq qnt ?_; refine l_nil ?_) | (refine c_region (id := 5) ?_; refine sq qm ?_; refine sq qn ?_; refine sq qf ?_; refine sq ql ?_; refine sq qm ?_; refine sq (by exact q_lookup_ok (v := .tuple #[secV s9, .bool true]) secV D.M rfl rfl (zs := (secE (fun _ => 0)).toArray) (by simp [secE]) (by (repeat (first | exact List.Mem.head _ | apply List.Mem.tail))) hm rfl) ?_; refine sq qm ?_; refine sq qe ?_; refine sq qe ?_; refine se ?_; refine ea ?_; refine se ?_; refine esa ?_; refine sq qa ?_; refine l_nil ?_) | (refine c_region (id := 6) ?_; refine sq qm ?_; refine sq qnt ?_; refine l_nil ?_) | (refine x_region (id := 8) (some 9) [(0, .n), (1, .n), (2, .n), (3, .q), (4, .n), (5, .n), (6, .n), (7, .q), (8, .n), (9, .b)] (List.eraseIdx _ 2) mixed (by kernel_rfl) (List.eraseIdx_sublist _ _) ?_; refine xn rfl qm ?_; refine xn rfl qn ?_; refine xn rfl qf ?_; refine xq rfl ql ?_; refine xn rfl qm ?_; refine xn rfl qm ?_; refine xn rfl (by exact q_s2ap rfl (by decide)) ?_; refine xq rfl (by exact qlr (vs := secE f) (by rfl) (RdN.old hO hx) hl2) ?_; refine xn rfl qis ?_; refine x_b rfl ?_; refine e_store_row (vs := (secE f).toArray) rfl rfl (by simp [secE_len]) (secE_one f) (by rw [setSec f hs]; (repeat (first | exact Pl.here | apply Pl.there))) (by simp [flat_len secE_len]; omega) (.inl (by simp)) ?_; refine x_k (List.nil_sublist _) ?_; refine x_nil ?_) | (refine c_region (id := 9) ?_; refine sq qa ?_; refine l_nil ?_) | refine n_then ?_ | refine c_block ?_ | refine c_skip ?_ | refine n_block ?_ | refine c_exit ?_ | refine n_then_exit ?_ | refine n_block_eq ?_ | refine n_block_ne rfl ?_ | refine c_ret ?_ | refine n_then_ret ?_ | refine n_block_ret ?_ | refine c_cond_t rfl ?_ | refine c_cond_f rfl ?_ | refine r_succ ?_ )
    (first | apply r_ret () | apply r_end ()); exact rfl; exact rfl; exact (.tmp rfl .nil); exact rfl; exact (by have e9 : (D.secs.set i f).length = D.secs.length := List.length_set; refine List.Sublist.trans (l₂ := [.blk gd (.cells #[.slice (some ⟨gw, 0, none⟩) D.secs.length D.secs.length, .map (some gm), .bool D.fused, .int .i64 (if D.fused then D.fuse - 1 else D.fuse), .bool false] 74 (0, 0)), .blk gw (.cells ((D.secs.set i f).flatMap secE).toArray 76 (0, 0)), .blk gm (.map (mEs secV D.M) D.cl)]) (by unfold DskL; simp only [e9]; exact List.Sublist.refl _) (by exact (by (repeat (first | exact List.nil_sublist _ | exact List.Sublist.slnil | apply List.Sublist.cons_cons | exact List.Sublist.refl _ | apply List.Sublist.cons))))); exact (by intro g hg; rw [feetD] at hg; exact .inl hg); exact trivial
end Go.Proofs.Yteopejjlhmghbaa
namespace Go.Proofs.Yteopejjlhmghbaa
open Go Go.RowKit
set_option linter.unusedVariables false
set_option linter.unusedSimpArgs false
def tornF (a b : Nat → Int) (k : Int) (j : Nat) : Int := if k < 128 then (if j < (min k 64).toNat then b j else a j) else (if j < (64 - min (k - 128) 64).toNat then a j else b j)
theorem secE_get (f : Nat → Int) (q : Nat) (h : q < 64) : (secE f)[q]? = some ((Value.int .u8) (f q)) := by
  simp [secE, h]
theorem torn_lo (a b : Nat → Int) (k : Int) (n : Nat) (hk : k < 128) (hn : (n : Int) = min k 64) : setA (secE a).toArray 0 ((secE b).take n) = (secE (tornF a b k)).toArray := by
  have hn6 : n ≤ 64 := by omega
  have ha := secE_len a
  have hb := secE_len b
  apply Array.ext'
  rw [setA_toList _ _ _ (by simp only [List.length_take, List.size_toArray]; omega)]
  apply List.ext_getElem?
  intro q
  simp only [List.take_zero, List.nil_append, Nat.zero_add, List.length_take]
  by_cases h : q < n
  · rw [List.getElem?_append_left (by simp only [List.length_take]; omega), List.getElem?_take, if_pos h, secE_get _ _ (by omega), secE_get _ _ (by omega)]
    simp only [tornF, if_pos hk]
    rw [if_pos (by omega)]
  · rw [List.getElem?_append_right (by simp only [List.length_take]; omega), List.length_take, List.getElem?_drop]
    by_cases h6 : q < 64
    · rw [show min n (secE b).length + (q - min n (secE b).length) = q by omega, secE_get _ _ h6, secE_get _ _ h6]
      simp only [tornF, if_pos hk]
      rw [if_neg (by omega)]
    · rw [List.getElem?_eq_none (by omega), List.getElem?_eq_none (by rw [secE_len]; omega)]
theorem torn_hi (a b : Nat → Int) (k : Int) (n : Nat) (hk : ¬ k < 128) (hn : (n : Int) = 64 - min (k - 128) 64) : setA (secE a).toArray n ((secE b).drop n) = (secE (tornF a b k)).toArray := by
  have hn6 : n ≤ 64 := by omega
  have ha := secE_len a
  have hb := secE_len b
  apply Array.ext'
  rw [setA_toList _ _ _ (by simp only [List.length_drop, List.size_toArray]; omega)]
  apply List.ext_getElem?
  intro q
  simp only [List.length_drop]
  rw [show (secE a).drop (n + ((secE b).length - n)) = [] by rw [List.drop_eq_nil_iff]; omega, List.append_nil]
  by_cases h : q < n
  · rw [List.getElem?_append_left (by simp only [List.length_take]; omega), List.getElem?_take, if_pos h, secE_get _ _ (by omega), secE_get _ _ (by omega)]
    simp only [tornF, if_neg hk]
    rw [if_pos (by omega)]
  · rw [List.getElem?_append_right (by simp only [List.length_take]; omega), List.length_take, List.getElem?_drop, ha]
    by_cases h6 : q < 64
    · rw [show n + (q - min n 64) = q by omega, secE_get _ _ h6, secE_get _ _ h6]
      simp only [tornF, if_neg hk]
      rw [if_neg (by omega)]
    · rw [List.getElem?_eq_none (by omega), List.getElem?_eq_none (by rw [secE_len]; omega)]
theorem allOne_sub {l l' : List Value} (hs : l'.Sublist l) (h : allOne l = true) : allOne l' = true := by
  induction hs with
  | slnil => rfl
  | cons x _ ih => simp only [allOne, Bool.and_eq_true] at h; exact ih h.2
  | cons_cons x _ ih => simp only [allOne, Bool.and_eq_true] at h ⊢; exact ⟨h.1, ih h.2⟩
theorem allOne_part (f : Nat → Int) (l : List Value) (h : l.Sublist (secE f)) : allOne l = true := allOne_sub h (secE_one f)
set_option maxRecDepth 100000 in
set_option maxHeartbeats 4000000 in
theorem torn_c (a b : Nat → Int) (kv : Int) (hk : 0 ≤ kv ∧ kv ≤ 255) (w : World) :
    CA Try.prog 46 [secV a, secV b, .int .u8 kv] w (RV (secV (tornF a b kv)) w) := by
  unfold secV
  have ha := secE_len a
  have hb := secE_len b
  by_cases h1 : kv < 128
  · obtain ⟨n, hn⟩ : ∃ n : Nat, (n : Int) = min kv 64 := ⟨(min kv 64).toNat, by omega⟩
    refine enter (L := []) (X := []) Try.func46 rfl Try.ntmps46 rfl rfl (Has.nil _) ?_
    repeat (first | refine c_seq ?_ | (refine c_region (id := 0) ?_; refine se ?_; refine eb ?_; refine se ?_; refine eb ?_; refine se ?_; refine ea ?_; refine l_nil ?_) | (refine c_region (id := 1) ?_; refine sq qm ?_; refine sq (by first | exact dlsst | exact dlssf) ?_; refine l_nil ?_) | (refine x_region (id := 2) (some 5) [(0, .n), (1, .n), (2, .n), (3, .n), (4, .n), (5, .b)] _ mixed (by kernel_rfl) (List.Sublist.refl _) ?_; refine xn rfl qsa ?_; refine xn rfl qm ?_; refine xn rfl qci ?_; refine xn rfl (by exact Qt.cast (v' := .int .i64 ((n : Nat) : Int)) (congrArg (Value.int .i64) (by split <;> omega)) (q_min rfl rfl)) ?_; refine xn rfl qsa ?_; refine x_b rfl ?_; refine e_copy (cs := (secE a).toArray) (news := (secE b).take n) (k := n) rfl rfl rfl (RdN.blk (cs := (secE b).toArray) (by (repeat (first | exact List.Mem.head _ | apply List.Mem.tail))) (by simp only [List.drop_zero, List.length_take]; rw [← List.take_take]; simp)) (by simp only [List.length_take]; omega) (allOne_part b _ (List.take_sublist _ _)) (by rw [torn_lo a b kv n h1 hn]; (repeat (first | exact Pl.here | apply Pl.there))) (by simp only [List.length_take, List.size_toArray]; omega) (by first | (left; simp; done) | (right; omega)) (by simp only [List.length_take]; omega) ?_; refine x_k (List.nil_sublist _) ?_; refine x_nil ?_) | (refine c_region (id := 5) ?_; refine sq (by exact qlb (hl := by simp [secE_len])) ?_; refine se ?_; refine esa ?_ (hk := by simp [secE_len]) (ho := secE_one _) (hoff := by rfl); refine l_nil ?_) | refine n_then ?_ | refine c_block ?_ | refine c_skip ?_ | refine n_block ?_ | refine c_exit ?_ | refine n_then_exit ?_ | refine n_block_eq ?_ | refine n_block_ne rfl ?_ | refine c_ret ?_ | refine n_then_ret ?_ | refine n_block_ret ?_ | refine c_cond_t rfl ?_ | refine c_cond_f rfl ?_ | refine r_succ ?_ )
    (first | apply r_ret () | apply r_end ()); exact rfl; exact rfl; exact (.row rfl (by (repeat (first | exact List.Mem.head _ | apply List.Mem.tail))) (by simp [secE_len]) .nil); exact rfl; exact (List.nil_sublist _); exact new_nil; exact trivial
  · obtain ⟨n, hn⟩ : ∃ n : Nat, (n : Int) = 64 - min (kv - 128) 64 := ⟨(64 - min (kv - 128) 64).toNat, by omega⟩
    have OVM : True := trivial
    by_cases h6 : n = 64
    · have e9 : (secE a).toArray = (secE (tornF a b kv)).toArray := by
        rw [← torn_hi a b kv n h1 hn, h6, show (secE b).drop 64 = [] by rw [List.drop_eq_nil_iff]; omega]
        rfl
      refine enter (L := []) (X := []) Try.func46 rfl Try.ntmps46 rfl rfl (Has.nil _) ?_
      repeat (first | refine c_seq ?_ | (refine c_region (id := 0) ?_; refine se ?_; refine eb ?_; refine se ?_; refine eb ?_; refine se ?_; refine ea ?_; refine l_nil ?_) | (refine c_region (id := 1) ?_; refine sq qm ?_; refine sq (by first | exact dlsst | exact dlssf) ?_; refine l_nil ?_) | (refine c_region (id := 3) ?_; refine sq qm ?_; refine sq qci ?_; refine sq qsub64 ?_; refine sq (by exact Qt.cast (v' := .int .i64 ((64 : Int) - (n : Int))) (congrArg (Value.int .i64) (by split <;> omega)) (q_min rfl rfl)) ?_; refine sq (by exact Qt.cast (v' := .int .i64 ((n : Nat) : Int)) (congrArg (Value.int .i64) (by omega)) (q_sub64 rfl rfl ⟨by omega, by omega⟩ rfl)) ?_; refine sq qa ?_; refine l_nil ?_) | (refine x_region (id := 4) (some 4) [(0, .n), (1, .n), (2, .n), (3, .n), (4, .b)] _ mixed (by kernel_rfl) (List.Sublist.refl _) ?_; refine xn rfl qm ?_; refine xn rfl qsa ?_; refine xn rfl qm ?_; refine xn rfl qsa ?_; refine x_b rfl ?_; refine e_copy_none rfl rfl rfl (by omega) ?_; refine x_k (List.nil_sublist _) ?_; refine x_nil ?_) | refine n_then ?_ | refine c_block ?_ | refine c_skip ?_ | refine n_block ?_ | refine c_exit ?_ | refine n_then_exit ?_ | refine n_block_eq ?_ | refine n_block_ne rfl ?_ | refine c_ret ?_ | refine n_then_ret ?_ | refine n_block_ret ?_ | refine c_cond_t rfl ?_ | refine c_cond_f rfl ?_ | refine r_succ ?_ )
      rw [e9]
      repeat (first | refine c_seq ?_ | (refine c_region (id := 5) ?_; refine sq (by exact qlb (hl := by simp [secE_len])) ?_; refine se ?_; refine esa ?_ (hk := by simp [secE_len]) (ho := secE_one _) (hoff := by rfl); refine l_nil ?_) | refine n_then ?_ | refine c_block ?_ | refine c_skip ?_ | refine n_block ?_ | refine c_exit ?_ | refine n_then_exit ?_ | refine n_block_eq ?_ | refine n_block_ne rfl ?_ | refine c_ret ?_ | refine n_then_ret ?_ | refine n_block_ret ?_ | refine c_cond_t rfl ?_ | refine c_cond_f rfl ?_ | refine r_succ ?_ )
      (first | apply r_ret () | apply r_end ()); exact rfl; exact rfl; exact (.row rfl (by (repeat (first | exact List.Mem.head _ | apply List.Mem.tail))) (by simp [secE_len]) .nil); exact rfl; exact (List.nil_sublist _); exact new_nil; exact trivial
    · have e64 : (if 64 = n then 0 else n) = n := if_neg (by omega)
      refine enter (L := []) (X := []) Try.func46 rfl Try.ntmps46 rfl rfl (Has.nil _) ?_
      repeat (first | refine c_seq ?_ | (refine c_region (id := 0) ?_; refine se ?_; refine eb ?_; refine se ?_; refine eb ?_; refine se ?_; refine ea ?_; refine l_nil ?_) | (refine c_region (id := 1) ?_; refine sq qm ?_; refine sq (by first | exact dlsst | exact dlssf) ?_; refine l_nil ?_) | (refine c_region (id := 3) ?_; refine sq qm ?_; refine sq qci ?_; refine sq qsub64 ?_; refine sq (by exact Qt.cast (v' := .int .i64 ((64 : Int) - (n : Int))) (congrArg (Value.int .i64) (by split <;> omega)) (q_min rfl rfl)) ?_; refine sq (by exact Qt.cast (v' := .int .i64 ((n : Nat) : Int)) (congrArg (Value.int .i64) (by omega)) (q_sub64 rfl rfl ⟨by omega, by omega⟩ rfl)) ?_; refine sq qa ?_; refine l_nil ?_) | (refine x_region (id := 4) (some 4) [(0, .n), (1, .n), (2, .n), (3, .n), (4, .b)] _ mixed (by kernel_rfl) (List.Sublist.refl _) ?_; refine xn rfl qm ?_; refine xn rfl qsa ?_; refine xn rfl qm ?_; refine xn rfl qsa ?_; refine x_b rfl ?_; refine e_copy (g := w.heap.size) (o := n) (p := ⟨w.heap.size + 1, n, none⟩) (dl := 64 - n) (dc := 64 - n) (sl := 64 - n) (sc := 64 - n) (cs := (secE a).toArray) (news := (secE b).drop n) (k := 64 - n) (by simp only [e64]; rfl) (by simp only [e64]; rfl) rfl (RdN.blk (cs := (secE b).toArray) (by (repeat (first | exact List.Mem.head _ | apply List.Mem.tail))) List.take_length) (by simp only [List.length_drop]; omega) (allOne_part b _ (List.drop_sublist _ _)) (by rw [torn_hi a b kv n h1 hn]; (repeat (first | exact Pl.here | apply Pl.there))) (by simp only [List.length_drop, List.size_toArray]; omega) (by first | (left; simp; done) | (right; omega)) (by simp only [List.length_drop]; omega) ?_; refine x_k (List.nil_sublist _) ?_; refine x_nil ?_) | (refine c_region (id := 5) ?_; refine sq (by exact qlb (hl := by simp [secE_len])) ?_; refine se ?_; refine esa ?_ (hk := by simp [secE_len]) (ho := secE_one _) (hoff := by rfl); refine l_nil ?_) | refine n_then ?_ | refine c_block ?_ | refine c_skip ?_ | refine n_block ?_ | refine c_exit ?_ | refine n_then_exit ?_ | refine n_block_eq ?_ | refine n_block_ne rfl ?_ | refine c_ret ?_ | refine n_then_ret ?_ | refine n_block_ret ?_ | refine c_cond_t rfl ?_ | refine c_cond_f rfl ?_ | refine r_succ ?_ )
      (first | apply r_ret () | apply r_end ()); exact rfl; exact rfl; exact (.row rfl (by (repeat (first | exact List.Mem.head _ | apply List.Mem.tail))) (by simp [secE_len]) .nil); exact rfl; exact (List.nil_sublist _); exact new_nil; exact trivial
end Go.Proofs.Yteopejjlhmghbaa
namespace Go.Proofs.Yteopejjlhmghbaa
open Go Go.RowKit
set_option linter.unusedVariables false
set_option linter.unusedSimpArgs false
def Dk.still (D : Dk) : Dk := { D with M := [] }
set_option maxRecDepth 100000 in
set_option maxHeartbeats 4000000 in
theorem fuse_c (gd gw gm n : Nat) (fu go : Bool) (fz : Int) (k : Int) (w : World) (hL0 : Has [.blk gd (.cells #[.slice (some ⟨gw, 0, none⟩) n n, .map (some gm), .bool fu, .int .i64 fz, .bool go] 74 (0, 0))] w) :
    CA Try.prog 28 [.pointer (some ⟨gd, 0, none⟩), .int .i64 k] w (RU (.tuple #[]) gd (.cells #[.slice (some ⟨gw, 0, none⟩) n n, .map (some gm), .bool (decide (0 ≤ k)), .int .i64 (max k 0), .bool go] 74 (0, 0)) w) := by
  refine enter (L := [.blk gd (.cells #[.slice (some ⟨gw, 0, none⟩) n n, .map (some gm), .bool fu, .int .i64 fz, .bool go] 74 (0, 0))]) (X := [gd]) Try.func28 rfl Try.ntmps28 rfl rfl hL0 ?_
  repeat (first | refine c_seq ?_ | (refine c_region (id := 0) ?_; refine sq qm ?_; refine sq qm ?_; refine sq (by exact q_geq rfl rfl) ?_; refine sq qn ?_; refine sq qf ?_; refine se ?_; refine es1 ?_ (hg := .inl (by simp)); refine l_nil ?_) | (refine c_region (id := 1) ?_; refine sq qm ?_; refine sq qm ?_; refine sq (by exact Qt.cast (v' := .int .i64 (max k 0)) (congrArg (Value.int .i64) (by split <;> omega)) (q_max rfl rfl)) ?_; refine sq qn ?_; refine sq qf ?_; refine se ?_; refine es1 ?_ (hg := .inl (by simp)); refine l_nil ?_) | refine n_then ?_ | refine c_block ?_ | refine c_skip ?_ | refine n_block ?_ | refine c_exit ?_ | refine n_then_exit ?_ | refine n_block_eq ?_ | refine n_block_ne rfl ?_ | refine c_ret ?_ | refine n_then_ret ?_ | refine n_block_ret ?_ | refine c_cond_t rfl ?_ | refine c_cond_f rfl ?_ | refine r_succ ?_ )
  (first | apply r_ret () | apply r_end ()); exact rfl; exact rfl; exact .nil; exact rfl; exact (by exact (by (repeat (first | exact List.nil_sublist _ | exact List.Sublist.slnil | apply List.Sublist.cons_cons | exact List.Sublist.refl _ | apply List.Sublist.cons)))); exact (by intro g hg; simp [feet, Chunk.foot] at hg; exact .inl (by simp [hg])); exact trivial
set_option maxRecDepth 100000 in
set_option maxHeartbeats 4000000 in
theorem sync_ok (gd gw gm : Nat) (D : Dk) (hf : 0 ≤ D.fuse ∧ D.fuse ≤ 9223372036854775807) (hp : D.pgone = false) (w : World) (hD : Has (DskL gd gw gm D) w) :
    CA Try.prog 24 [.pointer (some ⟨gd, 0, none⟩)] w (Ret (fun _ : Unit => .int .i64 0) [gd, gw, gm] (fun _ => DskL gd gw gm D.lit.still) (fun _ => True) w) := by
  refine enter (L := DskL gd gw gm D) (X := [gd, gw, gm]) Try.func24 rfl Try.ntmps24 rfl rfl hD ?_
  repeat (first | refine c_seq ?_ | (refine c_region (id := 0) ?_; refine sq qa ?_; refine l_nil ?_) | (refine c_region (id := 1) ?_; refine sq qm ?_; refine se ?_; refine e_call_upd rfl rfl (by kernel_rfl) rfl (fun w hC hm hL => by exact pow_yes gd gw gm D hf hp w (hL.sub (by (repeat (first | exact List.nil_sublist _ | exact List.Sublist.slnil | apply List.Sublist.cons_cons | exact List.Sublist.refl _ | apply List.Sublist.cons))))) (by (repeat (first | exact Pl.here | apply Pl.there))) (.inl (by simp)) ?_; intro m' hm'; refine sq qnt ?_; refine l_nil ?_) | (refine c_region (id := 3) ?_; refine sq qm ?_; refine sq qn ?_; refine sq qf ?_; refine sq ql ?_; refine se ?_; refine e_clearMap secV D.M rfl (by (repeat (first | exact Pl.here | apply Pl.there))) (.inl (by simp)) ?_; refine l_nil ?_) | (refine c_region (id := 4) ?_; refine sq qa ?_; refine l_nil ?_) | refine n_then ?_ | refine c_block ?_ | refine c_skip ?_ | refine n_block ?_ | refine c_exit ?_ | refine n_then_exit ?_ | refine n_block_eq ?_ | refine n_block_ne rfl ?_ | refine c_ret ?_ | refine n_then_ret ?_ | refine n_block_ret ?_ | refine c_cond_t rfl ?_ | refine c_cond_f rfl ?_ | refine r_succ ?_ )
  (first | apply r_ret () | apply r_end ()); exact rfl; exact rfl; exact (.tmp rfl .nil); exact rfl; exact (List.Sublist.refl _); exact (by intro g hg; rw [feetD] at hg; exact .inl hg); exact trivial
set_option maxRecDepth 100000 in
set_option maxHeartbeats 4000000 in
theorem keys_c (gm : Nat) (w : World) :
    CA Try.prog 45 [.map (some gm)] w (Ret (fun z : Nat => .func (.func 62) #[] #[.pointer (some ⟨z, 0, none⟩)]) [] (fun z => [.blk z (.cells #[.map (some gm)] 72 (0, 0))]) (fun _ => True) w) := by
  refine enter (L := []) (X := []) Try.func45 rfl Try.ntmps45 rfl rfl (Has.nil _) ?_
  repeat (first | refine c_seq ?_ | (refine c_region (id := 0) ?_; refine se ?_; refine eb1 ?_; refine sq qa ?_; refine l_nil ?_) | (refine c_region (id := 1) ?_; refine sq (by exact q_makeFunc rfl rfl) ?_; refine sq qa ?_; refine l_nil ?_) | refine n_then ?_ | refine c_block ?_ | refine c_skip ?_ | refine n_block ?_ | refine c_exit ?_ | refine n_then_exit ?_ | refine n_block_eq ?_ | refine n_block_ne rfl ?_ | refine c_ret ?_ | refine n_then_ret ?_ | refine n_block_ret ?_ | refine c_cond_t rfl ?_ | refine c_cond_f rfl ?_ | refine r_succ ?_ )
  (first | apply r_ret w.heap.size | apply r_end w.heap.size); exact rfl; exact rfl; exact (.tmp rfl .nil); exact rfl; exact (List.Sublist.refl _); exact (by intro g hg; simp [feet, Chunk.foot] at hg; exact .inr (by omega)); exact trivial
def keysOf (M : List (ME (Nat → Int))) : List Int := (M.map (·.1)).mergeSort fun x y => decide (x ≤ y)
def SortOK : Prop := ∀ (gm z cl : Nat) (M : List (ME (Nat → Int))) (w : World), (M.map (·.1)).Nodup → (∀ e ∈ M, 0 ≤ e.1 ∧ e.1 < 16384) → M.length ≤ 16384 → (∀ e ∈ M, e.2.2 < cl) → (M.map (·.2.2)).Nodup → Has [.blk z (.cells #[.map (some gm)] 72 (0, 0)), .blk gm (.map (mEs secV M) cl)] w →
  CA Try.prog 44 [.func (.func 62) #[] #[.pointer (some ⟨z, 0, none⟩)]] w (RLe (Value.int .i64) 3 (fun zs => zs = keysOf M) w)
theorem mFind_mem {M : List (ME (Nat → Int))} {e : ME (Nat → Int)} (he : e ∈ M) {i : Int} (hi : e.1 = i) : ∃ f, mFind M i = some f := by
  unfold mFind
  cases h : M.find? fun e => e.1 == i with
  | none => rw [List.find?_eq_none] at h; exact absurd (by simp [hi]) (h e he)
  | some x => exact ⟨x.2.1, rfl⟩
def fateN (fate : List Int) (t : Nat) : Int := if fate.length = 0 then 0 else (fate[t % fate.length]?).getD 0
def crashK (M : List (ME (Nat → Int))) (fate : List Int) : Nat → List Int → List (Nat → Int) → List (Nat → Int)
  | _, [], secs => secs
  | t, i :: is, secs => crashK M fate (t + 1) is (secs.set i.toNat (tornF ((mFind M i).getD fun _ => 0) ((secs[i.toNat]?).getD fun _ => 0) (fateN fate t)))
def Dk.crash (D : Dk) (fate : List Int) : Dk := ⟨crashK D.M fate 0 (keysOf D.M) D.secs, [], D.cl, false, 0, false⟩
set_option maxRecDepth 100000 in
set_option maxHeartbeats 4000000 in
theorem crash_c (hSK : SortOK) (gd gw gm : Nat) (D : Dk) (hn : D.secs.length ≤ 16384) (hnd : (D.M.map (·.1)).Nodup) (hbd : ∀ e ∈ D.M, 0 ≤ e.1 ∧ e.1 < D.secs.length) (hcl : ∀ e ∈ D.M, e.2.2 < D.cl) (hml : D.M.length ≤ 16384) (hbn : (D.M.map (·.2.2)).Nodup) (a : Option Addr) (fl cap0 : Nat) (fate : List Int) (hfl : fate.length = fl) (hfr : ∀ x ∈ fate, 0 ≤ x ∧ x ≤ 255) (hfc : fl ≤ 9223372036854775807) (w : World) (hs : SlE (Value.int .u8) w a fate) (hx : ∀ g o, a = some ⟨g, o, none⟩ → g ∉ [gd, gw, gm]) (hD : Has (DskL gd gw gm D) w) :
    CA Try.prog 25 [.pointer (some ⟨gd, 0, none⟩), .slice a fl cap0] w (Ret (fun _ : Unit => .tuple #[]) [gd, gw, gm] (fun _ => DskL gd gw gm (D.crash fate)) (fun _ => True) w) := by
  have hkp : (keysOf D.M).Perm (D.M.map (·.1)) := List.mergeSort_perm _ _
  have hkl : (keysOf D.M).length ≤ 16384 := by rw [hkp.length_eq]; simpa using hml
  refine enter (L := DskL gd gw gm D) (X := [gd, gw, gm]) Try.func25 rfl Try.ntmps25 rfl rfl hD ?_
  repeat (first | refine c_seq ?_ | (refine c_region (id := 0) ?_; refine sq qm ?_; refine sq qn ?_; refine sq qf ?_; refine sq ql ?_; refine se ?_; refine ecl rfl rfl (fun w hC hm hL => by exact keys_c gm w) ?_; intro z m1 _ hn1 hm1; refine se ?_; refine e_callL (enc := (Value.int .i64)) (e := 3) rfl rfl (by kernel_rfl) rfl (fun w hC hm hL => by exact hSK gm z D.cl D.M w hnd (fun e he => ⟨(hbd e he).1, by have := (hbd e he).2; omega⟩) hml hcl hbn (hL.sub (by (repeat (first | exact List.nil_sublist _ | exact List.Sublist.slnil | apply List.Sublist.cons_cons | exact List.Sublist.refl _ | apply List.Sublist.cons))))) ?_; intro b cap zs m2 hz ho hm2; subst hz; refine sq qls ?_; refine sq qm ?_; refine l_nil ?_) | refine n_then ?_ | refine c_block ?_ | refine c_skip ?_ | refine n_block ?_ | refine c_exit ?_ | refine n_then_exit ?_ | refine n_block_eq ?_ | refine n_block_ne rfl ?_ | refine c_ret ?_ | refine n_then_ret ?_ | refine n_block_ret ?_ | refine c_cond_t rfl ?_ | refine c_cond_f rfl ?_ | refine r_succ ?_ )
  refine fgs (A := [.blk gd (.cells #[.slice (some ⟨gw, 0, none⟩) D.secs.length D.secs.length, .map (some gm), .bool D.fused, .int .i64 D.fuse, .bool D.gone] 74 (0, 0)), .blk gw (.cells ((D.secs).flatMap secE).toArray 76 (0, 0)), .blk gm (.map (mEs secV D.M) D.cl), .sl b cap 3 1 ((keysOf D.M).map (Value.int .i64))]) (R := [.blk z (.cells #[.map (some gm)] 72 (0, 0))]) (by exact Sp.cons (by (repeat (first | exact Rm.here | apply Rm.there))) (Sp.cons (by (repeat (first | exact Rm.here | apply Rm.there))) (Sp.cons (by (repeat (first | exact Rm.here | apply Rm.there))) (Sp.cons (by (repeat (first | exact Rm.here | apply Rm.there))) Sp.nil)))) ?_
  refine c_loop (γ := Nat × List (Nat → Int) × Nat) (fun z => [(14, .int .i64 z.1), (13, .int .i64 (keysOf D.M).length), (12, .slice b (keysOf D.M).length cap), (0, .pointer (some ⟨gd, 0, none⟩)), (1, .slice a fl cap0)]) (fun z => z.2.2) (fun z => [.blk gd (.cells #[.slice (some ⟨gw, 0, none⟩) D.secs.length D.secs.length, .map (some gm), .bool D.fused, .int .i64 D.fuse, .bool D.gone] 74 (0, 0)), .blk gw (.cells ((z.2.1).flatMap secE).toArray 76 (0, 0)), .blk gm (.map (mEs secV D.M) D.cl), .sl b cap 3 1 ((keysOf D.M).map (Value.int .i64))]) (fun z => z.1 ≤ (keysOf D.M).length ∧ z.2.1.length = D.secs.length ∧ crashK D.M fate z.1 ((keysOf D.M).drop z.1) z.2.1 = crashK D.M fate 0 (keysOf D.M) D.secs ∧ m2 ≤ z.2.2) (fun z => (keysOf D.M).length - z.1) ⟨0, D.secs, m2⟩ ⟨by simp, rfl, by simp, Nat.le_refl _⟩ ⟨rfl, rfl, rfl, rfl, rfl, trivial⟩ rfl (List.Sublist.refl _) ?_
  rintro ⟨j, secs, mm⟩ ⟨hj, hsl, hR, hmm⟩
  dsimp only at hj hsl hR hmm ⊢
  by_cases hjl : j < (keysOf D.M).length
  · obtain ⟨gs, rfl⟩ := ho.some (by omega)
    obtain ⟨i, hi⟩ : ∃ i, (keysOf D.M)[j]? = some i := ⟨_, List.getElem?_eq_getElem hjl⟩
    have hn9 := nth_map (enc := (Value.int .i64)) hi
    have him : i ∈ D.M.map (·.1) := hkp.mem_iff.1 (List.mem_of_getElem? hi)
    obtain ⟨e9, he9, hei⟩ := List.mem_map.1 him
    have hib := hbd e9 he9
    rw [hei] at hib
    obtain ⟨i0, rfl⟩ : ∃ i0 : Nat, i = (i0 : Int) := ⟨i.toNat, by omega⟩
    have hi0 : i0 < secs.length := by omega
    obtain ⟨si, hsi⟩ : ∃ si, secs[i0]? = some si := ⟨_, List.getElem?_eq_getElem hi0⟩
    obtain ⟨fi, hfi⟩ : ∃ fi, mFind D.M (i0 : Int) = some fi := mFind_mem he9 hei
    have hat := flat_at secE_len hsi
    have hstep : crashK D.M fate (j + 1) ((keysOf D.M).drop (j + 1)) (secs.set i0 (tornF fi si (fateN fate j))) = crashK D.M fate 0 (keysOf D.M) D.secs := by
      rw [← hR, List.drop_eq_getElem_cons hjl]
      have h9 : (keysOf D.M)[j] = (i0 : Int) := by rw [List.getElem?_eq_getElem hjl] at hi; exact Option.some.inj hi
      rw [h9, crashK, hfi, Int.toNat_natCast, hsi]
      rfl
    have hfb : 0 ≤ fateN fate j ∧ fateN fate j ≤ 255 := by
      unfold fateN
      by_cases hz : fate.length = 0
      · rw [if_pos hz]; omega
      · rw [if_neg hz, List.getElem?_eq_getElem (Nat.mod_lt _ (by omega))]
        exact hfr _ (List.getElem_mem _)
    by_cases hz : fl = 0
    · have hf0 : fateN fate j = 0 := by unfold fateN; rw [if_pos (by omega)]
      rw [hf0] at hfb hstep
      repeat (first | refine c_seq ?_ | (refine c_region (id := 1) ?_; refine sq (by first | exact dlsst | exact dlssf) ?_; refine l_nil ?_) | (refine c_region (id := 2) ?_; refine sq qm ?_; refine sq (by exact qis (h1 := by exact_mod_cast hjl)) ?_; refine sq (by exact ql (hr := Rd.sln (by (repeat (first | exact List.Mem.head _ | apply List.Mem.tail))) hn9)) ?_; refine sq qa ?_; refine sq qa ?_; refine l_nil ?_) | (refine c_region (id := 3) ?_; refine sq qa ?_; refine l_nil ?_) | (refine c_region (id := 4) ?_; refine sq qm ?_; refine sq qls ?_; refine sq (by first | exact dgtrt | exact dgtrf) ?_; refine l_nil ?_) | (refine x_region (id := 6) (some 21) [(0, .n), (1, .n), (2, .n), (3, .q), (4, .n), (5, .n), (6, .n), (7, .n), (8, .q), (9, .n), (10, .q), (11, .n), (12, .n), (13, .n), (14, .q), (15, .n), (16, .n), (17, .q), (18, .n), (19, .e), (20, .n), (21, .b)] _ mixed (by kernel_rfl) (List.Sublist.refl _) ?_; refine xn rfl qm ?_; refine xn rfl qn ?_; refine xn rfl qf ?_; refine xq rfl ql ?_; refine xn rfl qm ?_; refine xn rfl qm ?_; refine xn rfl qn ?_; refine xn rfl qf ?_; refine xq rfl ql ?_; refine xn rfl qm ?_; refine xq rfl (by exact q_lookup_at secV D.M rfl rfl (by (repeat (first | exact List.Mem.head _ | apply List.Mem.tail))) hfi) ?_; refine xn rfl qm ?_; refine xn rfl qn ?_; refine xn rfl qf ?_; refine xq rfl ql ?_; refine xn rfl qm ?_; refine xn rfl qis ?_; refine xq rfl (by exact qlr (vs := secE si) (by rfl) (RdN.blk (by (repeat (first | exact List.Mem.head _ | apply List.Mem.tail))) (by rw [secE_len]; exact hat)) (secE_len si)) ?_; refine xn rfl qm ?_; refine x_e rfl ?_; refine ecp rfl rfl (fun w hC hm hL => by exact torn_c fi si 0 hfb w) ?_; intro m' hm'; refine xk ?_; refine xn rfl qis ?_; refine x_b rfl ?_; refine e_store_row (vs := (secE (tornF fi si 0)).toArray) rfl rfl (by simp [secE_len]) (secE_one _) (by rw [setSec _ hsi]; (repeat (first | exact Pl.here | apply Pl.there))) (by simp [flat_len secE_len]; omega) (.inl (by simp)) ?_; refine x_k (List.nil_sublist _) ?_; refine x_nil ?_) | (refine c_region (id := 7) ?_; refine sq qadd64 ?_; refine sq qm ?_; refine l_nil ?_) | refine n_then ?_ | refine c_block ?_ | refine c_skip ?_ | refine n_block ?_ | refine c_exit ?_ | refine n_then_exit ?_ | refine n_block_eq ?_ | refine n_block_ne rfl ?_ | refine c_ret ?_ | refine n_then_ret ?_ | refine n_block_ret ?_ | refine c_cond_t rfl ?_ | refine c_cond_f rfl ?_ | refine r_succ ?_ )
      refine c_round ⟨j + 1, secs.set i0 (tornF fi si 0), m'⟩ ⟨by dsimp only; omega, by dsimp only; rw [List.length_set]; exact hsl, by dsimp only; exact hstep, by dsimp only; omega⟩ (by dsimp only; omega) ⟨rfl, rfl, rfl, rfl, rfl, trivial⟩ (by rfl) (by (repeat (first | exact List.nil_sublist _ | exact List.Sublist.slnil | apply List.Sublist.cons_cons | exact List.Sublist.refl _ | apply List.Sublist.cons)))
    · obtain ⟨kv, hkv⟩ : ∃ kv, fate[j % fl]? = some kv := ⟨_, List.getElem?_eq_getElem (by rw [hfl]; exact Nat.mod_lt _ (by omega))⟩
      have hf0 : fateN fate j = kv := by unfold fateN; rw [if_neg (by omega), hfl, hkv]; rfl
      rw [hf0] at hfb hstep
      obtain ⟨gf, of, rfl, hO⟩ := hs.get (i := j % fl) (by rw [hfl]; exact Nat.mod_lt _ (by omega))
      have hx2 := hx gf of rfl
      have hnk := nth_map (enc := (Value.int .u8)) hkv
      obtain ⟨q, hq⟩ : ∃ q, q = j % fl := ⟨_, rfl⟩
      have hql : q < fl := by rw [hq]; exact Nat.mod_lt _ (by omega)
      have hqi : (j : Int) % (fl : Int) = (q : Int) := by rw [hq]; rfl
      rw [← hq] at hnk
      repeat (first | refine c_seq ?_ | (refine c_region (id := 1) ?_; refine sq (by first | exact dlsst | exact dlssf) ?_; refine l_nil ?_) | (refine c_region (id := 2) ?_; refine sq qm ?_; refine sq (by exact qis (h1 := by exact_mod_cast hjl)) ?_; refine sq (by exact ql (hr := Rd.sln (by (repeat (first | exact List.Mem.head _ | apply List.Mem.tail))) hn9)) ?_; refine sq qa ?_; refine sq qa ?_; refine l_nil ?_) | (refine c_region (id := 3) ?_; refine sq qa ?_; refine l_nil ?_) | (refine c_region (id := 4) ?_; refine sq qm ?_; refine sq qls ?_; refine sq (by first | exact dgtrt | exact dgtrf) ?_; refine l_nil ?_) | (refine c_region (id := 5) ?_; refine sq qm ?_; refine sq qm ?_; refine sq qm ?_; refine sq qls ?_; refine sq (by exact Qt.cast (congrArg (Value.int .i64) hqi) (q_rem rfl rfl (by omega) (by omega))) ?_; refine sq qis ?_; refine sq (by exact ql (hr := Rd.oldn hO hnk hx2)) ?_; refine sq qa ?_; refine l_nil ?_) | (refine x_region (id := 6) (some 21) [(0, .n), (1, .n), (2, .n), (3, .q), (4, .n), (5, .n), (6, .n), (7, .n), (8, .q), (9, .n), (10, .q), (11, .n), (12, .n), (13, .n), (14, .q), (15, .n), (16, .n), (17, .q), (18, .n), (19, .e), (20, .n), (21, .b)] _ mixed (by kernel_rfl) (List.Sublist.refl _) ?_; refine xn rfl qm ?_; refine xn rfl qn ?_; refine xn rfl qf ?_; refine xq rfl ql ?_; refine xn rfl qm ?_; refine xn rfl qm ?_; refine xn rfl qn ?_; refine xn rfl qf ?_; refine xq rfl ql ?_; refine xn rfl qm ?_; refine xq rfl (by exact q_lookup_at secV D.M rfl rfl (by (repeat (first | exact List.Mem.head _ | apply List.Mem.tail))) hfi) ?_; refine xn rfl qm ?_; refine xn rfl qn ?_; refine xn rfl qf ?_; refine xq rfl ql ?_; refine xn rfl qm ?_; refine xn rfl qis ?_; refine xq rfl (by exact qlr (vs := secE si) (by rfl) (RdN.blk (by (repeat (first | exact List.Mem.head _ | apply List.Mem.tail))) (by rw [secE_len]; exact hat)) (secE_len si)) ?_; refine xn rfl qm ?_; refine x_e rfl ?_; refine ecp rfl rfl (fun w hC hm hL => by exact torn_c fi si kv hfb w) ?_; intro m' hm'; refine xk ?_; refine xn rfl qis ?_; refine x_b rfl ?_; refine e_store_row (vs := (secE (tornF fi si kv)).toArray) rfl rfl (by simp [secE_len]) (secE_one _) (by rw [setSec _ hsi]; (repeat (first | exact Pl.here | apply Pl.there))) (by simp [flat_len secE_len]; omega) (.inl (by simp)) ?_; refine x_k (List.nil_sublist _) ?_; refine x_nil ?_) | (refine c_region (id := 7) ?_; refine sq qadd64 ?_; refine sq qm ?_; refine l_nil ?_) | refine n_then ?_ | refine c_block ?_ | refine c_skip ?_ | refine n_block ?_ | refine c_exit ?_ | refine n_then_exit ?_ | refine n_block_eq ?_ | refine n_block_ne rfl ?_ | refine c_ret ?_ | refine n_then_ret ?_ | refine n_block_ret ?_ | refine c_cond_t rfl ?_ | refine c_cond_f rfl ?_ | refine r_succ ?_ )
      refine c_round ⟨j + 1, secs.set i0 (tornF fi si kv), m'⟩ ⟨by dsimp only; omega, by dsimp only; rw [List.length_set]; exact hsl, by dsimp only; exact hstep, by dsimp only; omega⟩ (by dsimp only; omega) ⟨rfl, rfl, rfl, rfl, rfl, trivial⟩ (by rfl) (by (repeat (first | exact List.nil_sublist _ | exact List.Sublist.slnil | apply List.Sublist.cons_cons | exact List.Sublist.refl _ | apply List.Sublist.cons)))
  · obtain rfl : j = (keysOf D.M).length := by omega
    rw [List.drop_eq_nil_of_le (Nat.le_refl _), crashK] at hR
    have hq : D.crash fate = ⟨secs, [], D.cl, false, 0, false⟩ := by unfold Dk.crash; rw [← hR]
    rw [hq]
    repeat (first | refine c_seq ?_ | (refine c_region (id := 1) ?_; refine sq (by first | exact dlsst | exact dlssf) ?_; refine l_nil ?_) | (refine c_region (id := 8) ?_; refine sq qm ?_; refine sq qn ?_; refine sq qf ?_; refine sq ql ?_; refine se ?_; refine e_clearMap secV D.M rfl (by (repeat (first | exact Pl.here | apply Pl.there))) (.inl (by simp)) ?_; refine l_nil ?_) | (refine c_region (id := 9) ?_; refine sq qm ?_; refine sq qn ?_; refine sq qf ?_; refine se ?_; refine es1 ?_ (hg := .inl (by simp)); refine l_nil ?_) | (refine c_region (id := 10) ?_; refine sq qm ?_; refine se ?_; refine e_call_upd rfl rfl (by kernel_rfl) rfl (fun w hC hm hL => by have h9 := fuse_c gd gw gm D.secs.length D.fused false D.fuse (-1) w (hL.sub (by (repeat (first | exact List.nil_sublist _ | exact List.Sublist.slnil | apply List.Sublist.cons_cons | exact List.Sublist.refl _ | apply List.Sublist.cons)))); exact h9) (by (repeat (first | exact Pl.here | apply Pl.there))) (.inl (by simp)) ?_; intro m' hm'; refine l_nil ?_) | refine n_then ?_ | refine c_block ?_ | refine c_skip ?_ | refine n_block ?_ | refine c_exit ?_ | refine n_then_exit ?_ | refine n_block_eq ?_ | refine n_block_ne rfl ?_ | refine c_ret ?_ | refine n_then_ret ?_ | refine n_block_ret ?_ | refine c_cond_t rfl ?_ | refine c_cond_f rfl ?_ | refine r_succ ?_ )
    (first | apply r_ret () | apply r_end ()); exact rfl; exact rfl; exact .nil; exact rfl; exact (by unfold DskL; simp only [hsl]; exact (by (repeat (first | exact List.nil_sublist _ | exact List.Sublist.slnil | apply List.Sublist.cons_cons | exact List.Sublist.refl _ | apply List.Sublist.cons)))); exact (by intro g hg; rw [feetD] at hg; exact .inl hg); exact trivial
end Go.Proofs.Yteopejjlhmghbaa
namespace Go.Proofs.Yteopejjlhmghbaa
open Go Go.RowKit Go.Shelf Go.Maps Go.Sort Go.WideElems Go.MapKept Go.WideShapes
set_option linter.unusedVariables false
set_option linter.unusedSimpArgs false
def skKeys_ren : Go.Shelf.Ren := ⟨fun | 7 => 45 | 10 => 62 | n => n, fun | 23 => 72 | 26 => 3 | 3 => 76 | 28 => 85 | 0 => 0 | 27 => 84 | 33 => 75 | 4 => 4 | n => n, fun | n => n⟩
theorem skKeys : Go.Proofs.SlLaysZI.n7 Try.prog skKeys_ren := {
  mixed := by kernel_rfl
  f7 := ⟨Try.f45.name, by decide, Try.func45.trans (congrArg some (by kernel_rfl))⟩
  f10 := ⟨Try.f62.name, by decide, Try.func62.trans (congrArg some (by kernel_rfl))⟩
  t0 := Try.underlying0
  a0 := Try.isAgg0
  z0 := Try.sizeOf0
  v0 := Try.zeroValue0
  t4 := Try.underlying4
  a4 := Try.isAgg4
  z4 := Try.sizeOf4
  v4 := Try.zeroValue4
  t23 := Try.underlying72
  a23 := Try.isAgg72
  z23 := Try.sizeOf72
  v23 := Try.zeroValue72
  t26 := Try.underlying3
  a26 := Try.isAgg3
  z26 := Try.sizeOf3
  v26 := Try.zeroValue3
  t27 := Try.underlying84
  a27 := Try.isAgg84
  z27 := Try.sizeOf84
  v27 := Try.zeroValue84
  t28 := Try.underlying85
  a28 := Try.isAgg85
  z28 := Try.sizeOf85
  v28 := Try.zeroValue85
  t33 := Try.underlying75
  a33 := Try.isAgg75
  z33 := Try.sizeOf75
  v33 := Try.zeroValue75 }
def skSorted_ren : Go.Shelf.Ren := ⟨fun | 6 => 44 | 8 => 60 | 9 => 61 | 11 => 72 | 13 => 74 | 12 => 73 | 23 => 90 | 24 => 91 | 14 => 81 | 15 => 82 | 16 => 83 | 17 => 84 | 18 => 85 | 19 => 86 | 20 => 87 | 21 => 88 | 22 => 89 | 25 => 94 | 26 => 95 | 27 => 96 | 28 => 97 | 29 => 98 | 30 => 99 | 31 => 100 | n => n, fun | 26 => 3 | 28 => 85 | 24 => 82 | 0 => 0 | 3 => 3 | 37 => 116 | 48 => 22 | 50 => 24 | 4 => 4 | 40 => 123 | 39 => 122 | 45 => 128 | 5 => 5 | 9 => 9 | 51 => 134 | 55 => 138 | 57 => 140 | 58 => 141 | 33 => 75 | n => n, fun | n => n⟩
theorem skSorted : Go.Proofs.SlLaysZI.n6 Try.prog skSorted_ren := {
  mixed := by kernel_rfl
  f6 := ⟨Try.f44.name, by decide, Try.func44.trans (congrArg some (by kernel_rfl))⟩
  f8 := ⟨Try.f60.name, by decide, Try.func60.trans (congrArg some (by kernel_rfl))⟩
  f11 := ⟨Try.f72.name, by decide, Try.func72.trans (congrArg some (by kernel_rfl))⟩
  t0 := Try.underlying0
  a0 := Try.isAgg0
  z0 := Try.sizeOf0
  v0 := Try.zeroValue0
  t24 := Try.underlying82
  a24 := Try.isAgg82
  z24 := Try.sizeOf82
  v24 := Try.zeroValue82
  t26 := Try.underlying3
  a26 := Try.isAgg3
  z26 := Try.sizeOf3
  v26 := Try.zeroValue3
  t28 := Try.underlying85
  a28 := Try.isAgg85
  z28 := Try.sizeOf85
  v28 := Try.zeroValue85
  i26 := by kernel_rfl }
def skSort_ren : Go.Shelf.Ren := ⟨fun | 5 => 61 | 8 => 74 | 7 => 73 | 19 => 90 | 20 => 91 | 10 => 81 | 11 => 82 | 12 => 83 | 13 => 84 | 14 => 85 | 15 => 86 | 16 => 87 | 17 => 88 | 18 => 89 | 30 => 94 | 31 => 95 | 32 => 96 | 33 => 97 | 34 => 98 | 35 => 99 | 40 => 100 | n => n, fun | 23 => 82 | 25 => 3 | 3 => 3 | 32 => 116 | 22 => 82 | 0 => 0 | 44 => 22 | 46 => 24 | 4 => 4 | 36 => 123 | 35 => 122 | 41 => 128 | 5 => 5 | 9 => 9 | 53 => 134 | 57 => 138 | 63 => 140 | 64 => 141 | n => n, fun | n => n⟩
theorem skSort : Go.Proofs.SlLaysM.n5 Try.prog skSort_ren := {
  mixed := by kernel_rfl
  f5 := ⟨Try.f61.name, by decide, Try.func61.trans (congrArg some (by kernel_rfl))⟩
  f7 := ⟨Try.f73.name, by decide, Try.func73.trans (congrArg some (by kernel_rfl))⟩
  f8 := Try.func74.trans (congrArg some (by kernel_rfl))
  f10 := ⟨Try.f81.name, by decide, Try.func81.trans (congrArg some (by kernel_rfl))⟩
  f11 := ⟨Try.f82.name, by decide, Try.func82.trans (congrArg some (by kernel_rfl))⟩
  f12 := ⟨Try.f83.name, by decide, Try.func83.trans (congrArg some (by kernel_rfl))⟩
  f13 := ⟨Try.f84.name, by decide, Try.func84.trans (congrArg some (by kernel_rfl))⟩
  f14 := ⟨Try.f85.name, by decide, Try.func85.trans (congrArg some (by kernel_rfl))⟩
  f15 := ⟨Try.f86.name, by decide, Try.func86.trans (congrArg some (by kernel_rfl))⟩
  f16 := ⟨Try.f87.name, by decide, Try.func87.trans (congrArg some (by kernel_rfl))⟩
  f17 := ⟨Try.f88.name, by decide, Try.func88.trans (congrArg some (by kernel_rfl))⟩
  f18 := ⟨Try.f89.name, by decide, Try.func89.trans (congrArg some (by kernel_rfl))⟩
  f19 := Try.func90.trans (congrArg some (by kernel_rfl))
  f20 := Try.func91.trans (congrArg some (by kernel_rfl))
  f30 := ⟨Try.f94.name, by decide, Try.func94.trans (congrArg some (by kernel_rfl))⟩
  f31 := Try.func95.trans (congrArg some (by kernel_rfl))
  f32 := Try.func96.trans (congrArg some (by kernel_rfl))
  f33 := ⟨Try.f97.name, by decide, Try.func97.trans (congrArg some (by kernel_rfl))⟩
  f34 := ⟨Try.f98.name, by decide, Try.func98.trans (congrArg some (by kernel_rfl))⟩
  f35 := ⟨Try.f99.name, by decide, Try.func99.trans (congrArg some (by kernel_rfl))⟩
  f40 := ⟨Try.f100.name, by decide, Try.func100.trans (congrArg some (by kernel_rfl))⟩
  t0 := Try.underlying0
  a0 := Try.isAgg0
  z0 := Try.sizeOf0
  v0 := Try.zeroValue0
  t3 := Try.underlying3
  a3 := Try.isAgg3
  z3 := Try.sizeOf3
  v3 := Try.zeroValue3
  t4 := Try.underlying4
  a4 := Try.isAgg4
  z4 := Try.sizeOf4
  v4 := Try.zeroValue4
  t5 := Try.underlying5
  a5 := Try.isAgg5
  z5 := Try.sizeOf5
  v5 := Try.zeroValue5
  t9 := Try.underlying9
  a9 := Try.isAgg9
  z9 := Try.sizeOf9
  v9 := Try.zeroValue9
  t22 := Try.underlying82
  a22 := Try.isAgg82
  z22 := Try.sizeOf82
  v22 := Try.zeroValue82
  t23 := Try.underlying82
  a23 := Try.isAgg82
  z23 := Try.sizeOf82
  v23 := Try.zeroValue82
  t25 := Try.underlying3
  a25 := Try.isAgg3
  z25 := Try.sizeOf3
  v25 := Try.zeroValue3
  t32 := Try.underlying116
  a32 := Try.isAgg116
  z32 := Try.sizeOf116
  v32 := Try.zeroValue116
  t35 := Try.underlying122
  a35 := Try.isAgg122
  z35 := Try.sizeOf122
  v35 := Try.zeroValue122
  t36 := Try.underlying123
  a36 := Try.isAgg123
  z36 := Try.sizeOf123
  v36 := Try.zeroValue123
  t41 := Try.underlying128
  a41 := Try.isAgg128
  z41 := Try.sizeOf128
  v41 := Try.zeroValue128
  t44 := Try.underlying22
  a44 := Try.isAgg22
  z44 := Try.sizeOf22
  v44 := Try.zeroValue22
  t46 := Try.underlying24
  a46 := Try.isAgg24
  z46 := Try.sizeOf24
  v46 := Try.zeroValue24
  t53 := Try.underlying134
  a53 := Try.isAgg134
  z53 := Try.sizeOf134
  v53 := Try.zeroValue134
  t57 := Try.underlying138
  a57 := Try.isAgg138
  z57 := Try.sizeOf138
  v57 := Try.zeroValue138
  t63 := Try.underlying140
  a63 := Try.isAgg140
  z63 := Try.sizeOf140
  v63 := Try.zeroValue140
  t64 := Try.underlying141
  a64 := Try.isAgg141
  z64 := Try.sizeOf141
  v64 := Try.zeroValue141 }
theorem sk_sorts (m : Nat) : AnyZI.SortsIn Try.prog skSorted_ren Fence.wide m :=
  ⟨fun blk off cap ss W hH hblk hsz => callsIn_wide.2 (AnyM.slices_Sort_int skSort blk off cap ss W hH hblk hsz),
   fun p cap W => callsIn_wide.2 (AnyM.slices_Sort_int_none skSort p cap W)⟩
def skR (_ : Value) : Option (DataW Unit × List MemPlace) := some (.nil, [])
abbrev skE (e : ME (Nat → Int)) : Lit × DataW Unit := (.int .i64 e.1, .nil)
theorem sk_rd {P : Program} {kt : TypeId} (hk : P.underlying kt = some (.int .i64)) (e : ME (Nat → Int)) (hb : 0 ≤ e.1 ∧ e.1 < 16384) : Go.WideElems.rd P kt skR (mEnt secV e) = some (skE e) := by
  have hw : (Lit.int .i64 e.1).wf = true := by
    simp [Lit.wf, IntKind.min, IntKind.max, IntKind.bits, IntKind.signed]
    omega
  simp [Go.WideElems.rd, keyOf, hk, mapKey, mEnt, hw, skR]
abbrev skD (M : List (ME (Nat → Int))) : DataW Unit := .map ((M.map skE).foldr DataW.insert [])
theorem sk_owns {P : Program} {kt : TypeId} (hk : P.underlying kt = some (.int .i64)) (M : List (ME (Nat → Int))) (cl b : Nat) (w : World) (hnd : (M.map (·.1)).Nodup) (hbd : ∀ e ∈ M, 0 ≤ e.1 ∧ e.1 < 16384) (hml : M.length ≤ 16384) (hcl : ∀ e ∈ M, e.2.2 < cl) (hbn : (M.map (·.2.2)).Nodup)
    (hb : w.heap[b]? = some (.map (mEs secV M) cl)) : w.ownsMap P kt skR b M.length (skD M) := by
  refine ⟨_, _, hb, ⟨by simp [mEs, maxLen]; omega, ⟨?_, ?_, ?_⟩, ?_⟩, by simp [mEs], ?_⟩
  · intro x hx
    simp only [mEs, List.mem_map] at hx
    obtain ⟨e, he, rfl⟩ := hx
    exact hcl e he
  · simpa [mEs, Function.comp_def, mEnt] using hbn
  · have h1 : ((mEs secV M).toList.map (·.key)) = (M.map (·.1)).map encZ := by simp [mEs, Function.comp_def, mEnt]
    rw [h1]
    exact List.Pairwise.map _ (fun a b h h2 => h (encZ_inj h2)) hnd
  · intro x hx
    simp only [mEs, List.mem_map] at hx
    obtain ⟨e, he, rfl⟩ := hx
    exact ⟨_, sk_rd hk e (hbd e he)⟩
  · have h1 : (mEs secV M).toList.map (rg P kt skR) = M.map skE := by
      simp only [mEs, List.map_map]
      refine List.map_congr_left fun e he => ?_
      simp [rg, sk_rd hk e (hbd e he)]
    rw [h1]
theorem sk_keys (M : List (ME (Nat → Int))) : (intKeys (skD M)).Perm (M.map (·.1)) := by
  have h1 := (sorted_perm (M.map skE)).map (fun p => Go.intOf p.1)
  have h2 : (M.map skE).map (fun p => Go.intOf p.1) = M.map (·.1) := by simp [Function.comp_def, Go.intOf]
  rw [h2] at h1
  exact h1
theorem merge_eq {a b : List Int} (h : a.Perm b) : (a.mergeSort fun x y => decide (x ≤ y)) = b.mergeSort fun x y => decide (x ≤ y) := by
  have tr : ∀ x y z : Int, decide (x ≤ y) = true → decide (y ≤ z) = true → decide (x ≤ z) = true := by intro x y z; simp; omega
  have to : ∀ x y : Int, (decide (x ≤ y) || decide (y ≤ x)) = true := by intro x y; simp; omega
  refine List.Perm.eq_of_pairwise (le := fun x y : Int => x ≤ y) ?_ ?_ ?_ ?_
  · intro x y _ _ h1 h2; omega
  · exact (List.pairwise_mergeSort tr to a).imp (fun h => by simpa using h)
  · exact (List.pairwise_mergeSort tr to b).imp (fun h => by simpa using h)
  · exact (List.mergeSort_perm _ _).trans (h.trans (List.mergeSort_perm _ _).symm)
set_option maxRecDepth 100000 in
set_option maxHeartbeats 2000000 in
theorem sort_ok : SortOK := by
  intro gm z cl M w hnd hbd hml hcl hbn hL
  have hz := hL.ok (.blk z (.cells #[.map (some gm)] 72 (0, 0))) (by simp)
  have hm := hL.ok (.blk gm (.map (mEs secV M) cl)) (by simp)
  simp only [Chunk.ok] at hz hm
  have hown := sk_owns (P := Try.prog) (kt := 3) Try.underlying3 M cl gm w hnd hbd hml hcl hbn hm
  have hsz : Maps.size (skD M) = M.length := by
    show ((M.map skE).foldr DataW.insert []).length = _
    rw [length_sorted, List.length_map]
  have hcell : w.cell? ⟨z, 0, none⟩ = some (.map (some gm)) := by simp [World.cell?, hz]
  have hseq : SeqGives Fence.wide 2 Try.prog 62 #[.pointer (some ⟨z, 0, none⟩)] encZ (fun ss => ss.Perm (intKeys (skD M))) (Maps.size (skD M)) w :=
    AnyZI.keys_gives (ρ := skKeys_ren) { skKeys with } Fence.wide _ trivial rfl (by omega) z gm M.length (skD M) w (Array.getElem?_eq_some_iff.1 hz).1 hcell hown
  have cS := AnyZI.sorted_in skSorted Fence.wide 5 trivial trivial trivial trivial rfl (by omega) (sk_sorts _) (enters_of Try.func61 (by kernel_rfl) rfl) 62 #[.pointer (some ⟨z, 0, none⟩)] trivial (enters_of Try.func62 (by kernel_rfl) rfl) _ _ (by rw [hsz]; simp [maxLen]; omega) (by rw [hsz]; omega) _ hseq
  refine ⟨Calls.mono ((callsIn_wide (n := 5)).1 cS) ?_⟩
  rintro e w' ⟨v, ss, rfl, hS, ⟨hl1, hrow⟩, hnil, hb⟩
  have hk : (ss.mergeSort fun x y => decide (x ≤ y)) = keysOf M := merge_eq (hS.trans (sk_keys M))
  have hkl : (keysOf M).length = ss.length := by rw [← hk, List.length_mergeSort]
  rw [hk] at hl1 hrow
  rcases hrow with ⟨rfl, h0⟩ | ⟨g, cap, cur, rfl, hg, hh, hc1, hc2, hc3, hc4⟩
  · have h9 : keysOf M = [] := List.eq_nil_of_length_eq_zero (by omega)
    refine ⟨(none, 0, keysOf M), by rw [h9]; rfl, Ch.of_below hb, ?_, ?_, ⟨⟨by rw [h9]; exact Nat.le_refl _, Nat.zero_le _, .inl ⟨rfl, by rw [h9]; rfl⟩⟩, rfl⟩⟩
    · rw [h9]
      exact ⟨fun c hc => by simp at hc; subst hc; simp [Chunk.ok], by simp [feet, Chunk.foot]⟩
    · simp [feet, Chunk.foot]
  · refine ⟨(some ⟨g, 0, none⟩, cap, keysOf M), by dsimp only; rw [hkl], Ch.of_below hb, ?_, ?_, ⟨⟨by dsimp only; omega, hc2, .inr ⟨g, rfl⟩⟩, rfl⟩⟩
    · refine ⟨fun c hc => ?_, by simp [feet, Chunk.foot]⟩
      simp at hc
      subst hc
      refine .inr ⟨g, cur, rfl, hh, hc3, ?_⟩
      rw [List.length_map, hkl]
      simpa using hc4
    · intro g2 hg2
      simp [feet, Chunk.foot] at hg2
      subst hg2
      exact .inr hg
end Go.Proofs.Yteopejjlhmghbaa
namespace Go.Proofs.Yteopejjlhmghbaa
open Go Go.RowKit
set_option linter.unusedVariables false
set_option linter.unusedSimpArgs false
theorem apart_sl {L' A : List Chunk} {b : Option Addr} {cap e sz : Nat} {xs : List Value} (hm : Chunk.sl b cap e sz xs ∈ L') (h : ∀ g ∈ feet A, g ∉ feet L') : ∀ g o, b = some ⟨g, o, none⟩ → g ∉ feet A := by
  intro g o hb hg
  exact h g hg (List.mem_flatMap.2 ⟨_, hm, by rw [hb]; simp [Chunk.foot]⟩)
theorem Dk.new_len (n : Nat) : (Dk.new n).secs.length = n := by simp [Dk.new]
theorem Dk.put_gone (D : Dk) (i : Nat) (f : Nat → Int) : (D.lit.put i f).gone = false := by
  unfold Dk.put; split <;> rfl
theorem Dk.put_new (D : Dk) (i : Nat) (f : Nat → Int) (h : D.M = []) : (D.lit.put i f).M.length = 1 := by
  unfold Dk.put
  have : mFind D.lit.M (i : Int) = none := by
    show mFind D.M _ = none
    rw [h]; rfl
  rw [this]
  simp [Dk.lit, h]
set_option maxRecDepth 100000 in
set_option maxHeartbeats 4000000 in
theorem sect_c (gd gw gm : Nat) (D : Dk) (w : World) (hD : Has (DskL gd gw gm D) w) : CA Try.prog 36 [.pointer (some ⟨gd, 0, none⟩)] w (RV (.int .i64 D.secs.length) w) := by
  refine enter (L := DskL gd gw gm D) (X := []) Try.func36 rfl Try.ntmps36 rfl rfl hD ?_
  repeat (first | refine c_seq ?_ | (refine c_region (id := 0) ?_; refine sq qa ?_; refine l_nil ?_) | (refine c_region (id := 1) ?_; refine sq qm ?_; refine sq qn ?_; refine sq qf ?_; refine sq ql ?_; refine sq qls ?_; refine sq qa ?_; refine l_nil ?_) | refine n_then ?_ | refine c_block ?_ | refine c_skip ?_ | refine n_block ?_ | refine c_exit ?_ | refine n_then_exit ?_ | refine n_block_eq ?_ | refine n_block_ne rfl ?_ | refine c_ret ?_ | refine n_then_ret ?_ | refine n_block_ret ?_ | refine c_cond_t rfl ?_ | refine c_cond_f rfl ?_ | refine r_succ ?_ )
  (first | apply r_ret () | apply r_end ()); exact rfl; exact rfl; exact (.tmp rfl .nil); exact rfl; exact (List.nil_sublist _); exact new_nil; exact trivial
set_option maxRecDepth 100000 in
set_option maxHeartbeats 4000000 in
theorem loose_c (gd gw gm : Nat) (D : Dk) (w : World) (hD : Has (DskL gd gw gm D) w) : CA Try.prog 26 [.pointer (some ⟨gd, 0, none⟩)] w (RV (.int .i64 D.M.length) w) := by
  refine enter (L := DskL gd gw gm D) (X := []) Try.func26 rfl Try.ntmps26 rfl rfl hD ?_
  repeat (first | refine c_seq ?_ | (refine c_region (id := 0) ?_; refine sq qa ?_; refine l_nil ?_) | (refine c_region (id := 1) ?_; refine sq qm ?_; refine sq qn ?_; refine sq qf ?_; refine sq ql ?_; refine sq (by exact q_len_map secV D.M rfl (by (repeat (first | exact List.Mem.head _ | apply List.Mem.tail)))) ?_; refine sq qa ?_; refine l_nil ?_) | refine n_then ?_ | refine c_block ?_ | refine c_skip ?_ | refine n_block ?_ | refine c_exit ?_ | refine n_then_exit ?_ | refine n_block_eq ?_ | refine n_block_ne rfl ?_ | refine c_ret ?_ | refine n_then_ret ?_ | refine n_block_ret ?_ | refine c_cond_t rfl ?_ | refine c_cond_f rfl ?_ | refine r_succ ?_ )
  (first | apply r_ret () | apply r_end ()); exact rfl; exact rfl; exact (.tmp rfl .nil); exact rfl; exact (List.nil_sublist _); exact new_nil; exact trivial
set_option maxRecDepth 100000 in
set_option maxHeartbeats 4000000 in
theorem gone_c (gd gw gm : Nat) (D : Dk) (w : World) (hD : Has (DskL gd gw gm D) w) : CA Try.prog 27 [.pointer (some ⟨gd, 0, none⟩)] w (RV (.bool D.gone) w) := by
  refine enter (L := DskL gd gw gm D) (X := []) Try.func27 rfl Try.ntmps27 rfl rfl hD ?_
  repeat (first | refine c_seq ?_ | (refine c_region (id := 0) ?_; refine sq qa ?_; refine l_nil ?_) | (refine c_region (id := 1) ?_; refine sq qm ?_; refine sq qn ?_; refine sq qf ?_; refine sq ql ?_; refine sq qa ?_; refine l_nil ?_) | refine n_then ?_ | refine c_block ?_ | refine c_skip ?_ | refine n_block ?_ | refine c_exit ?_ | refine n_then_exit ?_ | refine n_block_eq ?_ | refine n_block_ne rfl ?_ | refine c_ret ?_ | refine n_then_ret ?_ | refine n_block_ret ?_ | refine c_cond_t rfl ?_ | refine c_cond_f rfl ?_ | refine r_succ ?_ )
  (first | apply r_ret () | apply r_end ()); exact rfl; exact rfl; exact (.tmp rfl .nil); exact rfl; exact (List.nil_sublist _); exact new_nil; exact trivial
set_option maxRecDepth 100000 in
set_option maxHeartbeats 4000000 in
theorem awake_c (w : World) : CA Try.prog 16 [] w (RV (.bool true) w) := by
  obtain ⟨F, hF⟩ : ∃ F, F = fulS 7 [] := ⟨_, rfl⟩
  have hf9 : 0 ≤ (Dk.new 2).fuse ∧ (Dk.new 2).fuse ≤ 9223372036854775807 := ⟨by decide, by decide⟩
  obtain ⟨D1, hD1⟩ : ∃ D1, D1 = (Dk.new 2).lit.put 0 F := ⟨_, rfl⟩
  have hl1 : D1.M.length = 1 := by rw [hD1]; exact Dk.put_new _ _ _ rfl
  refine enter (L := []) (X := []) Try.func16 rfl Try.ntmps16 rfl rfl (Has.nil _) ?_
  repeat (first | refine c_seq ?_ | (refine c_region (id := 0) ?_; refine sq qa ?_; refine l_nil ?_) | (refine c_region (id := 1) ?_; refine se ?_; refine ecl rfl rfl (fun w hC hm hL => by exact newd_c 2 (by omega) w) ?_; intro z1 m1 _ hn1 hm1; obtain ⟨gd1, gw1, gm1⟩ := z1; have hg1 : w.heap.size ≤ gd1 ∧ w.heap.size ≤ gw1 ∧ w.heap.size ≤ gm1 := ⟨hn1 _ (by simp [feetD]), hn1 _ (by simp [feetD]), hn1 _ (by simp [feetD])⟩; clear hn1; dsimp only; refine sq qa ?_; refine l_nil ?_) | refine n_then ?_ | refine c_block ?_ | refine c_skip ?_ | refine n_block ?_ | refine c_exit ?_ | refine n_then_exit ?_ | refine n_block_eq ?_ | refine n_block_ne rfl ?_ | refine c_ret ?_ | refine n_then_ret ?_ | refine n_block_ret ?_ | refine c_cond_t rfl ?_ | refine c_cond_f rfl ?_ | refine r_succ ?_ )
  refine chg (L' := DskL gd1 gw1 gm1 (Dk.new 2)) (by rfl) ?_
  repeat (first | refine c_seq ?_ | (refine c_region (id := 2) ?_; refine sq qm ?_; refine sq (by exact q_neq_pnil rfl rfl (by kernel_rfl)) ?_; refine sq qm ?_; (first | refine sk ?_ | refine skv ?_ | (refine st_want rfl rfl ?_; refine sq qm ?_)); (first | refine sk ?_ | refine skv ?_ | (refine st_want rfl rfl ?_; refine se ?_; refine ecp rfl rfl (fun w hC hm hL => by have h9 := sect_c gd1 gw1 gm1 (Dk.new 2) w (hL.sub (by (repeat (first | exact List.nil_sublist _ | exact List.Sublist.slnil | apply List.Sublist.cons_cons | exact List.Sublist.refl _ | apply List.Sublist.cons)))); rw [Dk.new_len] at h9; exact h9) ?_; intro m' hm')); (first | refine sk ?_ | refine skv ?_ | (refine st_want rfl rfl ?_; refine sq (by first | exact deqlt | exact deqlf) ?_)); refine sq (by first | exact qpt | exact qpf) ?_; refine sq qm ?_; (first | refine sk ?_ | refine skv ?_ | (refine st_want rfl rfl ?_; refine sq qm ?_)); (first | refine sk ?_ | refine skv ?_ | (refine st_want rfl rfl ?_; refine se ?_; refine e_callL (enc := (Value.int .u8)) (e := 5) rfl rfl (by kernel_rfl) rfl (fun w hC hm hL => by exact full_c 7 none 0 0 [] rfl w SlE.nil) ?_; intro b2 cap2 z2 m2 hz2 ho2 hm2; subst hz2; rw [secL_len] at ho2; simp only [secL_len])); (first | refine sk ?_ | refine skv ?_ | (refine st_want rfl rfl ?_; refine se ?_; refine e_callX (DskL gd1 gw1 gm1 (Dk.new 2)) (fun _ : Unit => DskL gd1 gw1 gm1 D1 ++ [.sl b2 cap2 5 1 ((secL (fulS 7 []) 64).map (Value.int .u8))]) rfl rfl (by kernel_rfl) rfl (by (repeat (first | exact Sp.nil | (apply Sp.cons; focus (repeat (first | exact Rm.here | apply Rm.there)))))) (fun w hC hm hA hL hap => by rw [hD1]; exact wr_ok gd1 gw1 gm1 (Dk.new 2) hf9 rfl (by decide) 0 (by decide) F _ _ w (by rw [hF]; exact SlE.own hL (by (repeat (first | exact List.Mem.head _ | apply List.Mem.tail))) ho2) (apart_sl (by (repeat (first | exact List.Mem.head _ | apply List.Mem.tail))) hap) hA) (by intro g hg; rw [feetD] at hg; simp at hg; exact .inr (by rcases hg with h | h | h <;> omega)) (fun _ => rfl) ?_; intro _ m3 _ _ hm3)); (first | refine sk ?_ | refine skv ?_ | (refine st_want rfl rfl ?_; refine sq (by first | exact deqlt | exact deqlf) ?_)); refine sq (by first | exact qpt | exact qpf) ?_; refine sq qm ?_; (first | refine sk ?_ | refine skv ?_ | (refine st_want rfl rfl ?_; refine sq qm ?_)); (first | refine sk ?_ | refine skv ?_ | (refine st_want rfl rfl ?_; refine se ?_; refine ecp rfl rfl (fun w hC hm hL => by have h9 := loose_c gd1 gw1 gm1 D1 w (hL.sub (by (repeat (first | exact List.nil_sublist _ | exact List.Sublist.slnil | apply List.Sublist.cons_cons | exact List.Sublist.refl _ | apply List.Sublist.cons)))); rw [hl1] at h9; exact h9) ?_; intro m' hm')); (first | refine sk ?_ | refine skv ?_ | (refine st_want rfl rfl ?_; refine sq (by first | exact deqlt | exact deqlf) ?_)); refine sq (by first | exact qpt | exact qpf) ?_; refine sq qa ?_; refine l_nil ?_) | refine n_then ?_ | refine c_block ?_ | refine c_skip ?_ | refine n_block ?_ | refine c_exit ?_ | refine n_then_exit ?_ | refine n_block_eq ?_ | refine n_block_ne rfl ?_ | refine c_ret ?_ | refine n_then_ret ?_ | refine n_block_ret ?_ | refine c_cond_t rfl ?_ | refine c_cond_f rfl ?_ | refine r_succ ?_ )
  (first | apply r_ret () | apply r_end ()); exact rfl; exact rfl; exact (.tmp rfl .nil); exact rfl; exact (List.nil_sublist _); exact new_nil; exact trivial
end Go.Proofs.Yteopejjlhmghbaa
namespace Go.Proofs.Yteopejjlhmghbaa
open Go Go.RowKit
set_option linter.unusedVariables false
set_option linter.unusedSimpArgs false
structure Dk.OK (n : Nat) (D : Dk) : Prop where
  len : D.secs.length = n
  n9 : n ≤ 16384
  ks : (D.M.map (·.1)).Nodup
  bd : ∀ e ∈ D.M, 0 ≤ e.1 ∧ e.1 < n
  cl : ∀ e ∈ D.M, e.2.2 < D.cl
  bs : (D.M.map (·.2.2)).Nodup
  ml : D.M.length ≤ D.cl
  hf : 0 ≤ D.fuse ∧ D.fuse ≤ 9223372036854775807
theorem Dk.OK.le {n : Nat} {D : Dk} (h : D.OK n) : D.secs.length ≤ 16384 := by rw [h.len]; exact h.n9
theorem Dk.OK.new (n : Nat) (hn : n ≤ 16384) : (Dk.new n).OK n := ⟨Dk.new_len n, hn, .nil, by simp [Dk.new], by simp [Dk.new], .nil, by simp [Dk.new], by simp [Dk.new]⟩
theorem Dk.OK.dead {n : Nat} {D : Dk} (h : D.OK n) : D.dead.OK n := ⟨h.len, h.n9, h.ks, h.bd, h.cl, h.bs, h.ml, h.hf⟩
theorem Dk.OK.lit {n : Nat} {D : Dk} (h : D.OK n) (hp : D.pgone = false) : D.lit.OK n := ⟨h.len, h.n9, h.ks, h.bd, h.cl, h.bs, h.ml, by
  have h1 := h.hf
  unfold Dk.pgone at hp
  simp only [Dk.lit]
  cases hfu : D.fused with
  | false => simpa using h1
  | true =>
    simp [hfu] at hp
    simp
    omega⟩
theorem mFind_none {M : List (ME (Nat → Int))} {i : Int} (h : mFind M i = none) : i ∉ M.map (·.1) := by
  intro hm
  obtain ⟨e, he, hi⟩ := List.mem_map.1 hm
  obtain ⟨f, hf⟩ := mFind_mem he hi
  rw [hf] at h
  cases h
theorem Dk.OK.put {n : Nat} {D : Dk} (h : D.OK n) (i : Nat) (hi : i < n) (f : Nat → Int) : (D.put i f).OK n := by
  unfold Dk.put
  split
  · next hm =>
    refine ⟨by simpa using h.len, h.n9, ?_, ?_, ?_, ?_, by simpa using h.ml, h.hf⟩
    · simp only [List.map_append, List.map_cons, List.map_nil]
      exact List.nodup_append.2 ⟨h.ks, by simp, fun a ha b hb => by simp at hb; subst hb; exact fun e => mFind_none hm (e ▸ ha)⟩
    · intro e he
      rcases List.mem_append.1 he with he | he
      · exact h.bd e he
      · simp at he; subst he; exact ⟨by simp, by simpa using hi⟩
    · intro e he
      rcases List.mem_append.1 he with he | he
      · exact Nat.lt_succ_of_lt (h.cl e he)
      · simp at he; subst he; simp
    · simp only [List.map_append, List.map_cons, List.map_nil]
      refine List.nodup_append.2 ⟨h.bs, by simp, fun a ha b hb => ?_⟩
      simp at hb
      subst hb
      obtain ⟨e, he, rfl⟩ := List.mem_map.1 ha
      have := h.cl e he
      omega
  · exact ⟨by simpa using h.len, h.n9, h.ks, h.bd, h.cl, h.bs, h.ml, h.hf⟩
theorem Dk.OK.still {n : Nat} {D : Dk} (h : D.OK n) : D.still.OK n := ⟨h.len, h.n9, .nil, by simp [Dk.still], by simp [Dk.still], .nil, by simp [Dk.still], h.hf⟩
theorem crashK_len (M : List (ME (Nat → Int))) (fate : List Int) : ∀ (is : List Int) (t : Nat) (secs : List (Nat → Int)), (crashK M fate t is secs).length = secs.length
  | [], _, _ => rfl
  | i :: is, t, secs => by rw [crashK, crashK_len M fate is, List.length_set]
theorem Dk.OK.crash {n : Nat} {D : Dk} (h : D.OK n) (fate : List Int) : (D.crash fate).OK n := ⟨by simp only [Dk.crash, crashK_len]; exact h.len, h.n9, .nil, by simp [Dk.crash], by simp [Dk.crash], .nil, by simp [Dk.crash], by simp [Dk.crash]⟩
theorem put_cl (D : Dk) (i : Nat) (f : Nat → Int) : (D.put i f).cl ≤ D.cl + 1 := by
  unfold Dk.put; split <;> simp
theorem put_fused (D : Dk) (i : Nat) (f : Nat → Int) : (D.put i f).fused = D.fused := by
  unfold Dk.put; split <;> rfl
theorem put_fuse (D : Dk) (i : Nat) (f : Nat → Int) : (D.put i f).fuse = D.fuse := by
  unfold Dk.put; split <;> rfl
theorem crash_k {n : Nat} (gd gw gm : Nat) (D : Dk) (h : D.OK n) (hcl : D.cl ≤ 16384) (a : Option Addr) (fl cap0 : Nat) (fate : List Int) (hfl : fate.length = fl) (hfr : ∀ x ∈ fate, 0 ≤ x ∧ x ≤ 255) (hfc : fl ≤ 9223372036854775807) (w : World) (hs : SlE (Value.int .u8) w a fate) (hx : ∀ g o, a = some ⟨g, o, none⟩ → g ∉ [gd, gw, gm]) (hD : Has (DskL gd gw gm D) w) :
    CA Try.prog 25 [.pointer (some ⟨gd, 0, none⟩), .slice a fl cap0] w (Ret (fun _ : Unit => .tuple #[]) [gd, gw, gm] (fun _ => DskL gd gw gm (D.crash fate)) (fun _ => True) w) :=
  crash_c sort_ok gd gw gm D h.le h.ks (by rw [h.len]; exact h.bd) h.cl (Nat.le_trans h.ml hcl) h.bs a fl cap0 fate hfl hfr hfc w hs hx hD
def Dk.fon (D : Dk) (k : Nat) : Dk := { D with fused := true, fuse := k }
theorem fuse_on (gd gw gm : Nat) (D : Dk) (k : Nat) (w : World) (hD : Has (DskL gd gw gm D) w) :
    CA Try.prog 28 [.pointer (some ⟨gd, 0, none⟩), .int .i64 (k : Int)] w (Ret (fun _ : Unit => .tuple #[]) [gd] (fun _ => [.blk gd (.cells #[.slice (some ⟨gw, 0, none⟩) D.secs.length D.secs.length, .map (some gm), .bool true, .int .i64 (k : Int), .bool D.gone] 74 (0, 0))]) (fun _ => True) w) := by
  have h1 := fuse_c gd gw gm D.secs.length D.fused D.gone D.fuse k w (hD.sub (by (repeat (first | exact List.nil_sublist _ | exact List.Sublist.slnil | apply List.Sublist.cons_cons | exact List.Sublist.refl _ | apply List.Sublist.cons))))
  have e1 : decide (0 ≤ (k : Int)) = true := by simp
  have e2 : max (k : Int) 0 = k := by omega
  rw [e1, e2] at h1
  exact h1
set_option maxRecDepth 100000 in
set_option maxHeartbeats 4000000 in
theorem fuses_law (nv mv : Int) (hnv : 0 ≤ nv ∧ nv ≤ 255) (hmv : 0 ≤ mv ∧ mv ≤ 255) (w : World) :
    CA Try.prog 9 [.int .u8 nv, .int .u8 mv] w (RV (.bool true) w) := by
  obtain ⟨k0, hk0⟩ : ∃ k0 : Nat, (k0 : Int) = nv % 40 := ⟨(nv % 40).toNat, by omega⟩
  obtain ⟨m0, hm0⟩ : ∃ m0 : Nat, (m0 : Int) = mv % 10 := ⟨(mv % 10).toNat, by omega⟩
  obtain ⟨D0, hD0⟩ : ∃ D0, D0 = Dk.fon (Dk.new 1) k0 := ⟨_, rfl⟩
  have hok0 : D0.OK 1 := by
    have h1 := Dk.OK.new 1 (by decide)
    rw [hD0]
    exact ⟨h1.len, h1.n9, h1.ks, h1.bd, h1.cl, h1.bs, h1.ml, by simp only [Dk.fon]; omega⟩
  refine enter (L := []) (X := []) Try.func9 rfl Try.ntmps9 rfl rfl (Has.nil _) ?_
  repeat (first | refine c_seq ?_ | (refine c_region (id := 0) ?_; refine sq qa ?_; refine l_nil ?_) | (refine c_region (id := 1) ?_; refine se ?_; refine ecl rfl rfl (fun w hC hm hL => by exact newd_c 1 (by omega) w) ?_; intro z1 m1 _ hn1 hm1; obtain ⟨gd1, gw1, gm1⟩ := z1; have hg1 : w.heap.size ≤ gd1 ∧ w.heap.size ≤ gw1 ∧ w.heap.size ≤ gm1 := ⟨hn1 _ (by simp [feetD]), hn1 _ (by simp [feetD]), hn1 _ (by simp [feetD])⟩; clear hn1; dsimp only; refine sq qa ?_; refine l_nil ?_) | refine n_then ?_ | refine c_block ?_ | refine c_skip ?_ | refine n_block ?_ | refine c_exit ?_ | refine n_then_exit ?_ | refine n_block_eq ?_ | refine n_block_ne rfl ?_ | refine c_ret ?_ | refine n_then_ret ?_ | refine n_block_ret ?_ | refine c_cond_t rfl ?_ | refine c_cond_f rfl ?_ | refine r_succ ?_ )
  refine chg (L' := DskL gd1 gw1 gm1 (Dk.new 1)) (by rfl) ?_
  repeat (first | refine c_seq ?_ | (refine c_region (id := 2) ?_; refine se ?_; refine ecp rfl rfl (fun w hC hm hL => awake_c w) ?_; intro m' hm'; refine sq qnt ?_; refine l_nil ?_) | (refine c_region (id := 4) ?_; refine sq qm ?_; refine sq (by exact Qt.cast (v' := .int .u8 ((k0 : Nat) : Int)) (congrArg (Value.int .u8) (by omega)) (q_rem rfl rfl (by omega) (by omega))) ?_; refine sq qci ?_; refine sq qa ?_; refine l_nil ?_) | (refine c_region (id := 5) ?_; refine sq qm ?_; refine sq qm ?_; refine se ?_; refine e_call_upd rfl rfl (by kernel_rfl) rfl (fun w hC hm hL => by exact fuse_on gd1 gw1 gm1 (Dk.new 1) k0 w (hL.sub (by (repeat (first | exact List.nil_sublist _ | exact List.Sublist.slnil | apply List.Sublist.cons_cons | exact List.Sublist.refl _ | apply List.Sublist.cons))))) (by (repeat (first | exact Pl.here | apply Pl.there))) (.inr (by omega)) ?_; intro m' hm'; refine l_nil ?_) | (refine c_region (id := 6) ?_; refine sq qa ?_; refine l_nil ?_) | refine n_then ?_ | refine c_block ?_ | refine c_skip ?_ | refine n_block ?_ | refine c_exit ?_ | refine n_then_exit ?_ | refine n_block_eq ?_ | refine n_block_ne rfl ?_ | refine c_ret ?_ | refine n_then_ret ?_ | refine n_block_ret ?_ | refine c_cond_t rfl ?_ | refine c_cond_f rfl ?_ | refine r_succ ?_ )
  refine chg (L' := DskL gd1 gw1 gm1 D0) (by rw [hD0]; rfl) ?_
  refine c_loop (γ := Nat × Dk × Nat) (fun z => [(7, .int .i64 z.1), (6, .int .i64 k0), (5, .pointer (some ⟨gd1, 0, none⟩)), (4, .bool false), (1, .int .u8 mv)]) (fun z => z.2.2) (fun z => DskL gd1 gw1 gm1 z.2.1) (fun z => z.1 ≤ k0 + m0 ∧ z.2.1.OK 1 ∧ z.2.1.fused = true ∧ z.2.1.fuse = max ((k0 : Int) - z.1) 0 ∧ z.2.1.gone = decide (k0 < z.1) ∧ z.2.1.cl ≤ z.1 ∧ w.heap.size ≤ z.2.2) (fun z => k0 + m0 - z.1) ⟨0, D0, m'⟩ ⟨by simp, hok0, by rw [hD0]; rfl, by rw [hD0]; simp only [Dk.fon]; omega, by rw [hD0]; rfl, by rw [hD0]; exact Nat.le_refl _, by dsimp only; omega⟩ ⟨rfl, rfl, rfl, rfl, rfl, trivial⟩ rfl (List.Sublist.refl _) ?_
  rintro ⟨i, D, mm⟩ ⟨hi, hok, hfu, hfz, hgo, hcl, hmm⟩
  dsimp only at hi hok hfu hfz hgo hcl hmm ⊢
  by_cases h8 : i < k0 + m0
  · obtain ⟨F, hF⟩ : ∃ F, F = fulS ((i : Int) % 256) [] := ⟨_, rfl⟩
    have hhf := hok.hf
    by_cases hik : i < k0
    · have hp : D.pgone = false := by unfold Dk.pgone; rw [hfu, hgo, hfz]; simp; omega
      have hok2 := (hok.lit hp).put 0 (by omega) F
      repeat (first | refine c_seq ?_ | (refine c_region (id := 7) ?_; refine sq qm ?_; refine sq qm ?_; refine sq qm ?_; refine sq (by exact Qt.cast (v' := .int .u8 ((m0 : Nat) : Int)) (congrArg (Value.int .u8) (by omega)) (q_rem rfl rfl (by omega) (by omega))) ?_; refine sq qci ?_; refine sq (by exact Qt.cast (v' := .int .i64 ((k0 + m0 : Nat) : Int)) (congrArg (Value.int .i64) (by omega)) (q_add64 rfl rfl ⟨by omega, by omega⟩ rfl)) ?_; refine sq (by first | exact dlsst | exact dlssf) ?_; refine l_nil ?_) | (refine c_region (id := 8) ?_; refine sq qm ?_; refine sq qadd64 ?_; refine sq qa ?_; refine l_nil ?_) | (refine c_region (id := 9) ?_; refine sq qm ?_; refine sq qm ?_; refine sq qc8 ?_; refine se ?_; refine e_callL (enc := (Value.int .u8)) (e := 5) rfl rfl (by kernel_rfl) rfl (fun w hC hm hL => by exact full_c ((i : Int) % 256) none 0 0 [] rfl w SlE.nil) ?_; intro b2 cap2 z2 m2 hz2 ho2 hm2; subst hz2; rw [secL_len] at ho2; simp only [secL_len]; refine se ?_; refine e_callX (DskL gd1 gw1 gm1 D) _ rfl rfl (by kernel_rfl) rfl (by (repeat (first | exact Sp.nil | (apply Sp.cons; focus (repeat (first | exact Rm.here | apply Rm.there)))))) (fun w hC hm hA hL hap => by exact wr_ok gd1 gw1 gm1 D hok.hf hp hok.le 0 (by rw [hok.len]; omega) F _ _ w (by rw [hF]; exact SlE.own hL (by (repeat (first | exact List.Mem.head _ | apply List.Mem.tail))) ho2) (apart_sl (by (repeat (first | exact List.Mem.head _ | apply List.Mem.tail))) hap) hA) (by intro g hg; rw [feetD] at hg; simp at hg; exact .inr (by rcases hg with h | h | h <;> omega)) (fun _ => rfl) ?_; intro _ m5 _ _ hm5; refine sq qa ?_; refine l_nil ?_) | (refine c_region (id := 10) ?_; refine sq qm ?_; refine sq (by first | exact deqlt | exact deqlf) ?_; refine sq qm ?_; refine sq qm ?_; refine sq (by first | exact dlsst | exact dlssf) ?_; refine sq qneqb ?_; refine sq qm ?_; (first | refine sk ?_ | refine skv ?_ | (refine st_want rfl rfl ?_; refine sq qm ?_)); (first | refine sk ?_ | refine skv ?_ | (refine st_want rfl rfl ?_; refine sq (by first | exact dneqt | exact dneqf) ?_)); (first | refine sk ?_ | refine skv ?_ | (refine st_want rfl rfl ?_; refine sq qm ?_)); (first | refine sk ?_ | refine skv ?_ | (refine st_want rfl rfl ?_; refine sq qm ?_)); (first | refine sk ?_ | refine skv ?_ | (refine st_want rfl rfl ?_; refine sq (by first | exact dneqt | exact dneqf) ?_)); (first | refine sk ?_ | refine skv ?_ | (refine st_want rfl rfl ?_; refine sq (by first | exact qpt | exact qpf) ?_)); refine sq (by first | exact qpt | exact qpf) ?_; refine sq qm ?_; (first | refine sk ?_ | refine skv ?_ | (refine st_want rfl rfl ?_; refine sq qm ?_)); (first | refine sk ?_ | refine skv ?_ | (refine st_want rfl rfl ?_; refine se ?_; refine ecp rfl rfl (fun w hC hm hL => by have h9 := gone_c gd1 gw1 gm1 (D.lit.put 0 F) w (hL.sub (by (repeat (first | exact List.nil_sublist _ | exact List.Sublist.slnil | apply List.Sublist.cons_cons | exact List.Sublist.refl _ | apply List.Sublist.cons)))); rw [Dk.put_gone] at h9; exact h9) ?_; intro m' hm')); (first | refine sk ?_ | refine skv ?_ | (refine st_want rfl rfl ?_; refine sq qm ?_)); (first | refine sk ?_ | refine skv ?_ | (refine st_want rfl rfl ?_; refine sq qm ?_)); (first | refine sk ?_ | refine skv ?_ | (refine st_want rfl rfl ?_; refine sq (by first | exact dgeqt | exact dgeqf) ?_)); (first | refine sk ?_ | refine skv ?_ | (refine st_want rfl rfl ?_; refine sq qneqb ?_)); refine sq (by first | exact qpt | exact qpf) ?_; refine l_nil ?_) | refine n_then ?_ | refine c_block ?_ | refine c_skip ?_ | refine n_block ?_ | refine c_exit ?_ | refine n_then_exit ?_ | refine n_block_eq ?_ | refine n_block_ne rfl ?_ | refine c_ret ?_ | refine n_then_ret ?_ | refine n_block_ret ?_ | refine c_cond_t rfl ?_ | refine c_cond_f rfl ?_ | refine r_succ ?_ )
      refine c_round ⟨i + 1, D.lit.put 0 F, m'⟩ ⟨by dsimp only; omega, hok2, by dsimp only; rw [put_fused]; exact hfu, by dsimp only; rw [put_fuse]; simp only [Dk.lit, hfu, if_true, hfz]; omega, by dsimp only; rw [Dk.put_gone]; simp; omega, by have := put_cl D.lit 0 F; dsimp only; exact Nat.le_trans this (Nat.succ_le_succ hcl), by dsimp only; omega⟩ (by dsimp only; omega) ⟨rfl, rfl, rfl, rfl, rfl, trivial⟩ (by rfl) (List.sublist_append_left _ _)
    · have hp : D.pgone = true := by unfold Dk.pgone; rw [hfu, hgo, hfz]; simp; omega
      repeat (first | refine c_seq ?_ | (refine c_region (id := 7) ?_; refine sq qm ?_; refine sq qm ?_; refine sq qm ?_; refine sq (by exact Qt.cast (v' := .int .u8 ((m0 : Nat) : Int)) (congrArg (Value.int .u8) (by omega)) (q_rem rfl rfl (by omega) (by omega))) ?_; refine sq qci ?_; refine sq (by exact Qt.cast (v' := .int .i64 ((k0 + m0 : Nat) : Int)) (congrArg (Value.int .i64) (by omega)) (q_add64 rfl rfl ⟨by omega, by omega⟩ rfl)) ?_; refine sq (by first | exact dlsst | exact dlssf) ?_; refine l_nil ?_) | (refine c_region (id := 8) ?_; refine sq qm ?_; refine sq qadd64 ?_; refine sq qa ?_; refine l_nil ?_) | (refine c_region (id := 9) ?_; refine sq qm ?_; refine sq qm ?_; refine sq qc8 ?_; refine se ?_; refine e_callL (enc := (Value.int .u8)) (e := 5) rfl rfl (by kernel_rfl) rfl (fun w hC hm hL => by exact full_c ((i : Int) % 256) none 0 0 [] rfl w SlE.nil) ?_; intro b2 cap2 z2 m2 hz2 ho2 hm2; subst hz2; rw [secL_len] at ho2; simp only [secL_len]; refine se ?_; refine e_callX (DskL gd1 gw1 gm1 D) _ rfl rfl (by kernel_rfl) rfl (by (repeat (first | exact Sp.nil | (apply Sp.cons; focus (repeat (first | exact Rm.here | apply Rm.there)))))) (fun w hC hm hA hL hap => by exact wr_lost gd1 gw1 gm1 D hok.hf hp 0 (by rw [hok.len]; omega) _ _ w hA) (by intro g hg; rw [feetD] at hg; simp at hg; exact .inr (by rcases hg with h | h | h <;> omega)) (fun _ => rfl) ?_; intro _ m5 _ _ hm5; refine sq qa ?_; refine l_nil ?_) | (refine c_region (id := 10) ?_; refine sq qm ?_; refine sq (by first | exact deqlt | exact deqlf) ?_; refine sq qm ?_; refine sq qm ?_; refine sq (by first | exact dlsst | exact dlssf) ?_; refine sq qneqb ?_; refine sq qm ?_; (first | refine sk ?_ | refine skv ?_ | (refine st_want rfl rfl ?_; refine sq qm ?_)); (first | refine sk ?_ | refine skv ?_ | (refine st_want rfl rfl ?_; refine sq (by first | exact dneqt | exact dneqf) ?_)); (first | refine sk ?_ | refine skv ?_ | (refine st_want rfl rfl ?_; refine sq qm ?_)); (first | refine sk ?_ | refine skv ?_ | (refine st_want rfl rfl ?_; refine sq qm ?_)); (first | refine sk ?_ | refine skv ?_ | (refine st_want rfl rfl ?_; refine sq (by first | exact dneqt | exact dneqf) ?_)); (first | refine sk ?_ | refine skv ?_ | (refine st_want rfl rfl ?_; refine sq (by first | exact qpt | exact qpf) ?_)); refine sq (by first | exact qpt | exact qpf) ?_; refine sq qm ?_; (first | refine sk ?_ | refine skv ?_ | (refine st_want rfl rfl ?_; refine sq qm ?_)); (first | refine sk ?_ | refine skv ?_ | (refine st_want rfl rfl ?_; refine se ?_; refine ecp rfl rfl (fun w hC hm hL => by have h9 := gone_c gd1 gw1 gm1 D.dead w (hL.sub (by (repeat (first | exact List.nil_sublist _ | exact List.Sublist.slnil | apply List.Sublist.cons_cons | exact List.Sublist.refl _ | apply List.Sublist.cons)))); exact h9) ?_; intro m' hm')); (first | refine sk ?_ | refine skv ?_ | (refine st_want rfl rfl ?_; refine sq qm ?_)); (first | refine sk ?_ | refine skv ?_ | (refine st_want rfl rfl ?_; refine sq qm ?_)); (first | refine sk ?_ | refine skv ?_ | (refine st_want rfl rfl ?_; refine sq (by first | exact dgeqt | exact dgeqf) ?_)); (first | refine sk ?_ | refine skv ?_ | (refine st_want rfl rfl ?_; refine sq qneqb ?_)); refine sq (by first | exact qpt | exact qpf) ?_; refine l_nil ?_) | refine n_then ?_ | refine c_block ?_ | refine c_skip ?_ | refine n_block ?_ | refine c_exit ?_ | refine n_then_exit ?_ | refine n_block_eq ?_ | refine n_block_ne rfl ?_ | refine c_ret ?_ | refine n_then_ret ?_ | refine n_block_ret ?_ | refine c_cond_t rfl ?_ | refine c_cond_f rfl ?_ | refine r_succ ?_ )
      refine c_round ⟨i + 1, D.dead, m'⟩ ⟨by dsimp only; omega, hok.dead, hfu, by dsimp only; simp only [Dk.dead, hfz]; omega, by dsimp only; simp only [Dk.dead]; symm; simp; omega, by dsimp only; exact Nat.le_succ_of_le hcl, by dsimp only; omega⟩ (by dsimp only; omega) ⟨rfl, rfl, rfl, rfl, rfl, trivial⟩ (by rfl) (List.sublist_append_left _ _)
  · obtain rfl : i = k0 + m0 := by omega
    obtain ⟨D3, hD3⟩ : ∃ D3, D3 = D.crash [] := ⟨_, rfl⟩
    have hok3 : D3.OK 1 := by rw [hD3]; exact hok.crash []
    have hp3 : D3.pgone = false := by rw [hD3]; rfl
    repeat (first | refine c_seq ?_ | (refine c_region (id := 7) ?_; refine sq qm ?_; refine sq qm ?_; refine sq qm ?_; refine sq (by exact Qt.cast (v' := .int .u8 ((m0 : Nat) : Int)) (congrArg (Value.int .u8) (by omega)) (q_rem rfl rfl (by omega) (by omega))) ?_; refine sq qci ?_; refine sq (by exact Qt.cast (v' := .int .i64 ((k0 + m0 : Nat) : Int)) (congrArg (Value.int .i64) (by omega)) (q_add64 rfl rfl ⟨by omega, by omega⟩ rfl)) ?_; refine sq (by first | exact dlsst | exact dlssf) ?_; refine l_nil ?_) | (refine c_region (id := 12) ?_; refine sq qm ?_; refine se ?_; refine e_callX (DskL gd1 gw1 gm1 D) (fun _ : Unit => DskL gd1 gw1 gm1 (D3) ++ []) rfl rfl (by kernel_rfl) rfl (by (repeat (first | exact Sp.nil | (apply Sp.cons; focus (repeat (first | exact Rm.here | apply Rm.there)))))) (fun w hC hm hA hL hap => by exact (by rw [hD3]; exact crash_k gd1 gw1 gm1 D hok (by omega) none 0 0 [] rfl (by simp) (by omega) w SlE.nil (by simp) hA)) (by intro g hg; rw [feetD] at hg; simp at hg; exact .inr (by rcases hg with h | h | h <;> omega)) (fun _ => rfl) ?_; intro _ m5 _ _ hm5; refine l_nil ?_) | (refine c_region (id := 13) ?_; refine sq qm ?_; refine se ?_; refine e_callX (DskL gd1 gw1 gm1 D3) (fun _ : Unit => DskL gd1 gw1 gm1 (D3.lit.still) ++ []) rfl rfl (by kernel_rfl) rfl (by (repeat (first | exact Sp.nil | (apply Sp.cons; focus (repeat (first | exact Rm.here | apply Rm.there)))))) (fun w hC hm hA hL hap => by exact sync_ok gd1 gw1 gm1 D3 hok3.hf hp3 w hA) (by intro g hg; rw [feetD] at hg; simp at hg; exact .inr (by rcases hg with h | h | h <;> omega)) (fun _ => rfl) ?_; intro _ m6 _ _ hm6; refine sq (by first | exact deqlt | exact deqlf) ?_; refine sq qm ?_; (first | refine sk ?_ | refine skv ?_ | (refine st_want rfl rfl ?_; refine sq qm ?_)); (first | refine sk ?_ | refine skv ?_ | (refine st_want rfl rfl ?_; refine se ?_; refine ecp rfl rfl (fun w hC hm hL => by have h9 := gone_c gd1 gw1 gm1 D3.lit.still w (hL.sub (by (repeat (first | exact List.nil_sublist _ | exact List.Sublist.slnil | apply List.Sublist.cons_cons | exact List.Sublist.refl _ | apply List.Sublist.cons)))); exact h9) ?_; intro m' hm')); (first | refine sk ?_ | refine skv ?_ | (refine st_want rfl rfl ?_; refine sq qnt ?_)); refine sq (by first | exact qpt | exact qpf) ?_; refine sq qa ?_; refine l_nil ?_) | refine n_then ?_ | refine c_block ?_ | refine c_skip ?_ | refine n_block ?_ | refine c_exit ?_ | refine n_then_exit ?_ | refine n_block_eq ?_ | refine n_block_ne rfl ?_ | refine c_ret ?_ | refine n_then_ret ?_ | refine n_block_ret ?_ | refine c_cond_t rfl ?_ | refine c_cond_f rfl ?_ | refine r_succ ?_ )
    (first | apply r_ret () | apply r_end ()); exact rfl; exact rfl; exact (.tmp rfl .nil); exact rfl; exact (List.nil_sublist _); exact new_nil; exact trivial
theorem fusesWalk_ (nv : Int) (hnv : (Lit.int .u8 nv).wf = true) (mv : Int) (hmv : (Lit.int .u8 mv).wf = true) {w : World} :
    Calls Try.prog 9 #[.int .u8 nv, .int .u8 mv] w fun e w' => e = .returned (.bool true) ∧ Below w.heap.size w w' :=
  below_ret (fuses_law nv mv (bounds_u8 hnv) (bounds_u8 hmv) w)
end Go.Proofs.Yteopejjlhmghbaa
namespace Go.Proofs.Yteopejjlhmghbaa.lawDiskFuses
open Go.ChangeShapes Go.WideShapes Go.ChangeAt Go.RowKit
open Go.ChangeMaps (open_string shut_string)
set_option linter.unusedVariables false
theorem own : ownKnob Try.prog.godebug = none := by kernel_rfl
theorem laidOut : laidOutB Try.prog = true := by kernel_rfl
set_option maxRecDepth 100000 in
theorem lifted (os : Os) (started : os.Started) (H : Type) (enc : TypeId × Value → H) :
    ReturnsInHanded {} Try.checked os 9 .any (Rows.diskFusesSpec.pre6 enc Try.prog Try.f9 Rows.diskFusesRow.domain false) (Rows.diskFusesSpec.post enc Try.prog Try.f9 false true false false) := by
  refine returnsInHanded_of_change (C := Try.checked) own started (by kernel_rfl) Try.func9
    (ChangeSpec.witness6 (enc := enc) (C := Try.checked) false ⟨#[], #[.int .u8 0, .int .u8 0], []⟩ 8 (by kernel_rfl) (by kernel_rfl) (by kernel_rfl) (by kernel_rfl)) ?_
  intro W base args ds gs before hval0 hW hcnd _
  have hval : ∀ (j : Nat) t v, Try.f9.params[j]? = some t → args[j]? = some v → Value.okWide Try.prog W .any base t v := hval0
  have hW' := hW
  obtain ⟨p, q, hA0, hV, rfl, hfz, hnd⟩ := hW
  have hA : DataW.TrodAll enc Try.prog W 0 (fun _ => true) true Try.f9.params.toList args.toList ds p := hA0
  rw [Try.params9] at hA hval
  obtain ⟨v0, vs0, d0, ds0, p0, q0, hargs, rfl, rfl, h0, r0⟩ := trodAll_cons hA
  obtain ⟨v1, vs1, d1, ds1, p1, q1, rfl, rfl, rfl, h1, r1⟩ := trodAll_cons r0
  obtain ⟨rfl, rfl, rfl⟩ := trodAll_nil r1
  obtain rfl : args = #[v0, v1] := by cases args; simp_all
  obtain ⟨rfl, rfl⟩ := trodVars_none hV
  have k0 := h0
  have lt0 : ∀ x ∈ p0, x.block < W.heap.size := by obtain ⟨m, hm⟩ := k0; exact DataW.trod_lt m _ _ _ hm
  have k1 := h1
  have lt1 : ∀ x ∈ p1, x.block < W.heap.size := by obtain ⟨m, hm⟩ := k1; exact DataW.trod_lt m _ _ _ hm
  obtain ⟨a0, rfl, rfl, rfl, w0⟩ := open_int Try.underlying5 (hval 0 5 v0 rfl rfl) h0
  obtain ⟨a1, rfl, rfl, rfl, w1⟩ := open_int Try.underlying5 (hval 1 5 v1 rfl rfl) h1
  clear hA0 hval0
  refine (fusesWalk_ a0 w0 a1 w1).mono fun e W' ⟨he, bel⟩ => ?_
  subst he
  exact ⟨_, rfl, _, _, _, [], _, [], hW', trodAll_mk1 (shut_bool Try.underlying4 _), (trodAll_cons_mk (Below.trod laidOut (by kernel_rfl) (of_decide_eq_true (by kernel_rfl)) k0 bel lt0) (trodAll_cons_mk (Below.trod laidOut (by kernel_rfl) (of_decide_eq_true (by kernel_rfl)) k1 bel lt1) trodAll_mk0)), rfl, bel.frame _, fun h => by cases h⟩
theorem over : Rows.diskFusesRow.holds Try.pinned (OpenSpec.ofChange Rows.diskFusesSpec) :=
  OpenClaim.holds_of_wide 9 Try.f9 rfl rfl rfl rfl rfl rfl rfl ⟨rfl, rfl, rfl, rfl, rfl⟩ rfl rfl rfl rfl rfl (by kernel_rfl) Try.func9 (by kernel_rfl)
    (of_decide_eq_true (by kernel_rfl)) (by unfold Func.isWrapper; first | (rw [if_pos (by decide +kernel)]; kernel_rfl) | (rw [if_neg (by decide +kernel)]; exact ⟨rfl, rfl⟩))
    (fun os started H enc _ => lifted os started H enc)
/-- DiskFuses: whatever the input, the law answers true, and its arguments read afterwards as before. No condition. -/
theorem proved : Rows.DiskFusesSaid := over
#print axioms proved
end Go.Proofs.Yteopejjlhmghbaa.lawDiskFuses
