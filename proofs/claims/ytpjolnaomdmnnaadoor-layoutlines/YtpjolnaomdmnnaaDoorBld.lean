/- (*strings.Builder).WriteString and WriteByte: the shelf's contracts at this program, by the numbers of strings.Join's laying. -/
import Derived.Test.YtpjolnaomdmnnaaDoorLib2
import Derived.Shelf.Strings.BuilderK
namespace Go.Proofs.YtpjolnaomdmnnaaDoor
open Go.RowKit Go.Shelf
def ren7 : Go.Shelf.Ren := ⟨fun | 167 => 36 | 156 => 35 | 165 => 48 | 166 => 34 | 169 => 25 | 240 => 47 | 241 => 61 | 276 => 60 | 277 => 71 | n => n, fun | 31 => 63 | 9 => 9 | 3 => 3 | 4 => 4 | 0 => 0 | 20 => 20 | 72 => 55 | 76 => 72 | 70 => 53 | 37 => 40 | 75 => 71 | 127 => 76 | 164 => 93 | 5 => 5 | 80 => 58 | n => n, fun | n => n⟩
theorem lays167 : Go.Proofs.Lays.n167 Tryd.prog ren7 := { Tryd.lays156 with
  f167 := Tryd.func36.trans (congrArg some (by kernel_rfl))
  t5 := Tryd.underlying5
  a5 := Tryd.isAgg5
  z5 := Tryd.sizeOf5
  v5 := Tryd.zeroValue5 }
set_option maxRecDepth 100000 in
theorem extra7 : Builder.Extra Tryd.prog ren7 := {
  sizeBuilder := by kernel_rfl
  liesBuilder := by kernel_rfl
  t5 := Tryd.underlying5
  a5 := Tryd.isAgg5
  z5 := Tryd.sizeOf5
  v5 := Tryd.zeroValue5
  infoByte := by kernel_rfl
  cellsByte := by kernel_rfl
  sizeByte := by kernel_rfl
  neB5 := by decide }
theorem wstr (B b : Nat) (bs : List Value) (s : ByteArray) (w : World) (h : Lib.IsBuilderF 55 5 B b bs w) (hlen : bs.length + s.size ≤ 140737488355328) (hBw : B ≤ w.heap.size) :
    Calls Tryd.prog 34 #[.pointer (some ⟨b, 0, none⟩), .string s] w fun e w' => e = .returned (.tuple #[.int .i64 s.size, .nilIface]) ∧ (Lib.BuilderAtF 55 5 B b (.pointer (some ⟨b, 0, none⟩)) (bs ++ Lib.strCells s) w' ∧ Below B w w' ∧ Lib.OthersKept 5 (some b) w w') :=
  Any.Builder_WriteString_k (P := Tryd.prog) (ρ := Tryd.lays156_ren) { Tryd.lays156 with } Tryd.Builder_Extra_156 B b bs s w h hlen hBw
theorem wbyte (B b : Nat) (bs : List Value) (c : Int) (w : World) (h : Lib.IsBuilderF 55 5 B b bs w) (hlen : bs.length + 1 ≤ 140737488355328) (hBw : B ≤ w.heap.size) :
    Calls Tryd.prog 36 #[.pointer (some ⟨b, 0, none⟩), .int .u8 c] w fun e w' => e = .returned .nilIface ∧ (Lib.BuilderAtF 55 5 B b (.pointer (some ⟨b, 0, none⟩)) (bs ++ [.int .u8 c]) w' ∧ Below B w w' ∧ Lib.OthersKept 5 (some b) w w') :=
  Any.Builder_WriteByte_k (P := Tryd.prog) (ρ := ren7) lays167 extra7 B b bs c w h hlen hBw
end Go.Proofs.YtpjolnaomdmnnaaDoor
