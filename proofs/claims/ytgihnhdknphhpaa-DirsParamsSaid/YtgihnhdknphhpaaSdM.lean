/- Definitions and schemas as plain trees; the numbers of a type are any. -/
import Derived.Test.YtgihnhdknphhpaaTr
namespace Go.Proofs.Ytgihnhdknphhpaa
open Go.RowKit

structure FieldT where
  name : ByteArray
  params : List VarT
  tn : ByteArray
  tl : Int
  tm : Int
  dirs : List DirT
structure DefnT where
  kind : Int
  name : ByteArray
  faces : List ByteArray
  fields : List FieldT
  parts : List ByteArray
  params : List VarT
structure SchT where
  defs : List DefnT
  query : ByteArray
  mutation : ByteArray
def encStr (s : ByteArray) : TrS := .cons (.one (.string s)) .nil
def encField (x : FieldT) : TrS := .cons (.one (.string x.name)) (.cons (.row (rowOf encVar x.params)) (.cons (.one (.string x.tn)) (.cons (.one (.int .i64 (x.tl : Int))) (.cons (.one (.int .i64 (x.tm : Int))) (.cons (.row (rowOf encD x.dirs)) .nil)))))
def encDefn (x : DefnT) : TrS := .cons (.one (.int .i64 x.kind)) (.cons (.one (.string x.name)) (.cons (.row (rowOf encStr x.faces)) (.cons (.row (rowOf encField x.fields)) (.cons (.row (rowOf encStr x.parts)) (.cons (.row (rowOf encVar x.params)) .nil)))))
def encSch (x : SchT) : TrS := .cons (.row (rowOf encDefn x.defs)) (.cons (.one (.string x.query)) (.cons (.one (.string x.mutation)) .nil))
def hasN (out : List ByteArray) (s : ByteArray) : Bool := out.any fun t => t.data.toList == s.data.toList
theorem hasN_iff {out : List ByteArray} {s : ByteArray} : hasN out s = true ↔ s ∈ out := by
  unfold hasN
  rw [List.any_eq_true]
  constructor
  · rintro ⟨t, h, e⟩
    have : t = s := ByteArray.ext (Array.toList_inj.1 (by simpa using e))
    rwa [← this]
  · intro h
    exact ⟨s, h, by simp⟩
def addN (out : List ByteArray) (s : ByteArray) : List ByteArray := if hasN out s = true then out else out ++ [s]
end Go.Proofs.Ytgihnhdknphhpaa
