/-
  The contracts of the reference's IsNumber and Long.
-/
import Derived.Test.YtgnjjmbphangnaaDoorPF
namespace Go.Proofs.YtgnjjmbphangnaaDoor
open Go.RowKit Go.Lib

theorem str_tail (c : Nat) (ds : List Nat) : (str (c :: ds)).extract 1 (str (c :: ds)).size = str ds := by
  apply ByteArray.ext
  rw [ByteArray.data_extract]
  apply Array.ext'
  rw [str_size]
  simp [str, strOfNums]
  exact List.take_of_length_le (by simp)

end Go.Proofs.YtgnjjmbphangnaaDoor
