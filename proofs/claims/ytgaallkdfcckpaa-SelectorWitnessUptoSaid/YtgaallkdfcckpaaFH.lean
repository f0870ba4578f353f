/- A query; a group's time: the program's Bucket (13) and the document's (14). -/
import Derived.Test.YtgaallkdfcckpaaFG
namespace Go.Proofs.Ytgaallkdfcckpaa
open Go.RowKit Go.Maps Go.Lib
set_option linter.unusedSimpArgs false
set_option linter.unusedVariables false
structure QZ where
  tA : Option Addr
  tn : Nat
  tc : Nat
  T : List (Int × ByteArray)
  frm : Int
  upto : Int
  every : Int
  bA : Option Addr
  bn : Nat
  bc : Nat
  BY : List ByteArray
  f : FT
  hA : Option Addr
  hn : Nat
  hc : Nat
  H : List (Int × ByteArray × Int × Int)
  order : Int
  limit : Int
def bktS (frm every t : Int) : Int := if every = 0 then frm else flr t every
end Go.Proofs.Ytgaallkdfcckpaa
