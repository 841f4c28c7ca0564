/- The types of elements: bytes, strings, pieces, integers. -/
import Derived.Test.YtmbgcbbpkbaajaaRowg
namespace Go.Proofs.Ytmbgcbbpkbaajaa
open Go.RowKit
def bytesE : El Try.prog Int where
  t := 33
  e := 5
  k := 1
  by' := 1
  z := .int .u8 0
  enc x := [.int .u8 x]
  ht := Try.underlying33
  info := by kernel_rfl
  zc := rfl
  kpos := by omega
  bsm := by omega
  len _ := rfl
  one x v hv := by simp at hv; subst hv; rfl
def strsE : El Try.prog ByteArray where
  t := 30
  e := 9
  k := 1
  by' := 16
  z := .string ByteArray.empty
  enc x := [.string x]
  ht := Try.underlying30
  info := by kernel_rfl
  zc := rfl
  kpos := by omega
  bsm := by omega
  len _ := rfl
  one x v hv := by simp at hv; subst hv; rfl
def piecesE : El Try.prog (Int × ByteArray) where
  t := 29
  e := 65
  k := 2
  by' := 24
  z := .agg #[.int .u16 0, .string ByteArray.empty]
  enc x := [.int .u16 x.1, .string x.2]
  ht := Try.underlying29
  info := by kernel_rfl
  zc := rfl
  kpos := by omega
  bsm := by omega
  len _ := rfl
  one x v hv := by simp at hv; rcases hv with rfl | rfl <;> rfl
def intsE : El Try.prog Int where
  t := 43
  e := 3
  k := 1
  by' := 8
  z := .int .i64 0
  enc x := [.int .i64 x]
  ht := Try.underlying43
  info := by kernel_rfl
  zc := rfl
  kpos := by omega
  bsm := by omega
  len _ := rfl
  one x v hv := by simp at hv; subst hv; rfl
end Go.Proofs.Ytmbgcbbpkbaajaa
