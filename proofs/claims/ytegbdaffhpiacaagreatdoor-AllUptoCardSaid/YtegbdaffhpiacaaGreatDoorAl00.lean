/- Part. -/
import Derived.Test.YtegbdaffhpiacaaGreatDoorAlP
import Derived.Test.YtegbdaffhpiacaaGreatDoorProg
import Derived.WalkKit
import Derived.Below
namespace Go.Proofs.YtegbdaffhpiacaaGreatDoor
open Tryz
open Go.RowKit
variable{a b c d e f g:Prop}
abbrev pT(b:Nat):Value:=.pointer (some ⟨b,0,none⟩)
abbrev sA(b:Nat):Option Addr:=some ⟨b,0,none⟩
abbrev aD(b o:Nat):Addr:=⟨b,o,none⟩
abbrev iI(x:Int):Value:=.int .i64 x
abbrev iU(x:BitVec 64):Value:=.int .u64 x.toNat
abbrev iV(x:Int):Value:=.int .u64 x
abbrev ae:Value:=.slice none 0 0
abbrev ag:Value:=.string ⟨#[]⟩
abbrev cP(f:Nat)(a:Array Value)(w:World)(Q:Ending->World->Prop):Prop:=Calls prog f a w Q
theorem bM(c:a)(bb:b):Hid a/\Hid b:=⟨c,bb⟩
theorem bV(e:a)(bb:b)(d:c):Hid a/\Hid b/\Hid c:=⟨e,bb,d⟩
theorem cK(f:a)(bb:b)(e:c)(g:d):Hid a/\Hid b/\Hid c/\Hid d:=⟨f,bb,e,g⟩
theorem eS(h:a)(bb:b)(g:c)(f:d)(i:e):Hid a/\Hid b/\Hid c/\Hid d/\Hid e:=⟨h,bb,g,f,i⟩
theorem gq(j:a)(bb:b)(h:c)(g:d)(k:e)(i:f):Hid a/\Hid b/\Hid c/\Hid d/\Hid e/\Hid f:=⟨j,bb,h,g,k,i⟩
theorem lx(l:a)(bb:b)(j:c)(i:d)(m:e)(k:f)(h:g):Hid a/\Hid b/\Hid c/\Hid d/\Hid e/\Hid f/\Hid g:=⟨l,bb,j,i,m,k,h⟩
theorem ej{h:Prop}(n:a)(bb:b)(k:c)(o:d)(l:e)(m:f)(i:g)(j:h):Hid a/\Hid b/\Hid c/\Hid d/\Hid e/\Hid f/\Hid g/\Hid h:=⟨n,bb,k,o,l,m,i,j⟩
theorem _root_.Go.RowKit.Hid.o{p:Prop}(h:Hid p):p:=h
theorem _root_.Go.Calls.I:type_of% @Go.Calls.mono:=@Go.Calls.mono
theorem _root_.Go.RowKit.Below.z:type_of% @Go.RowKit.Below.trans:=@Go.RowKit.Below.trans
theorem _root_.Go.Steps.z:type_of% @Go.Steps.trans:=@Go.Steps.trans
theorem _root_.Go.CallsIn.I:type_of% @Go.CallsIn.mono:=@Go.CallsIn.mono
theorem _root_.Go.RoundIn.I:type_of% @Go.RoundIn.mono:=@Go.RoundIn.mono
end Go.Proofs.YtegbdaffhpiacaaGreatDoor
