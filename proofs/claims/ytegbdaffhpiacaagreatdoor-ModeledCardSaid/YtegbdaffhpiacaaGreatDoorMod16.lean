/- A part of the proof. -/
import Derived.Test.YtegbdaffhpiacaaGreatDoorMod05
import Derived.Test.YtegbdaffhpiacaaGreatDoorMod10
namespace Go.Proofs.YtegbdaffhpiacaaGreatDoor
open Go.RowKit Ar
structure Z3 where
 nm:ByteArray
 ar:Int
 a0:Int
 a1:Int
 a2:Int
 v:Int
structure Y2 where
 wd:ByteArray
 i:Int
 j:Int
 b:Int
def Z3.val(k:Z3):Value:=.agg #[.string k.nm,.int .i64 k.ar,.int .i64 k.a0,.int .i64 k.a1,.int .i64 k.a2,.int .i64 k.v]
def Z3.cells(k:Z3):List Value:=[.string k.nm,.int .i64 k.ar,.int .i64 k.a0,.int .i64 k.a1,.int .i64 k.a2,.int .i64 k.v]
def Y2.val(k:Y2):Value:=.agg #[.string k.wd,.int .i64 k.i,.int .i64 k.j,.int .i64 k.b]
def Y2.cells(k:Y2):List Value:=[.string k.wd,.int .i64 k.i,.int .i64 k.j,.int .i64 k.b]
theorem zr4{wd:ByteArray}{l:List UInt8}(h:wd.toList=l):wd=⟨l.toArray⟩:=O6 (h.trans (ze5 l).symm)
theorem Q0{w:World}{e size n:Nat}{v:Value}{xs:List Value}(h:w.ownsRow 0 e size v n xs):∃ a cap,v=.slice a n cap:=by
 rcases h.2 with⟨e,e0⟩|⟨g,cap,cur,hv,_⟩
 ·exact⟨none,0,by rw[e,e0]⟩
 ·exact⟨_,cap,hv⟩
theorem zy3{α:Type}{f:α->List Value}{m:Nat}(hf:∀ x,(f x).length=m):∀ l:List α,(l.flatMap f).length=l.length*m
 | []=>by simp
 | a::l=>by have:=zy3 hf l;rw[List.flatMap_cons,List.length_append,hf,this,List.length_cons,Nat.add_mul];omega
theorem qD3{α:Type}{f:α->List Value}{m:Nat}(hf:∀ x,(f x).length=m)(l:List α)(k:Nat):(l.flatMap f).take (k*m)=(l.take k).flatMap f:=by
 by_cases hk:k<=l.length
 ·conv=>lhs;rw[<- List.take_append_drop k l]
  rw[List.flatMap_append,List.take_left'];rw[zy3 hf,List.length_take,Nat.min_eq_left hk]
 ·rw[List.take_of_length_le,List.take_of_length_le (by omega)];rw[zy3 hf];exact Nat.mul_le_mul_right _ (by omega)
theorem qe8{α:Type}{f:α->List Value}{m:Nat}(hf:∀ x,(f x).length=m){l:List α}{q:Nat}{x:α}(h:l[q]?=some x){j:Nat}{u:Value}(hu:(f x)[j]?=some u):(l.flatMap f)[q*m+j]?=some u:=by
 have hk:=(List.getElem?_eq_some_iff.1 h).1;have e:l=l.take q++x::l.drop (q+1):=by have e1:=(List.take_append_drop q l).symm;rw[List.drop_eq_getElem_cons hk,(List.getElem?_eq_some_iff.1 h).2] at e1;exact e1
 have e2:l.flatMap f=(l.take q).flatMap f++(f x++(l.drop (q+1)).flatMap f):=by
  conv=>lhs;rw[e]
  simp
 have hj:j<(f x).length:=(List.getElem?_eq_some_iff.1 hu).1;have hl:((l.take q).flatMap f).length=q*m:=by rw[zy3 hf,List.length_take,Nat.min_eq_left (Nat.le_of_lt hk)]
 rw[e2,List.getElem?_append_right (by omega),hl,Nat.add_sub_cancel_left,List.getElem?_append_left hj];exact hu
end Go.Proofs.YtegbdaffhpiacaaGreatDoor
