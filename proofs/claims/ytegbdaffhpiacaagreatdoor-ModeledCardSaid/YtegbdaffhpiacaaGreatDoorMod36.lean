/- A part of the proof. -/
import Derived.Test.YtegbdaffhpiacaaGreatDoorMod35
import Derived.Test.YtegbdaffhpiacaaGreatDoorMod13
namespace Go.Proofs.YtegbdaffhpiacaaGreatDoor
open Go.RowKit Ar
theorem zG6{N:List Nm}(hN:zA8 N){l:List UInt8}{nd:Nd}{ts:List Tk}(h:W7 N l=.ok nd ts):zk1 nd:=by
 unfold W7 at h;split at h
 ·simp at h
 ·simp at h
 ·rename_i nd' t us hr;split at h
  ·simp at h;obtain⟨rfl,_⟩:=h;exact qt8 hN _ _ _ _ _ hr
  ·simp at h
def cnt(t:Bool)(Q:List Nd)(nd:Nd):Nat:=(zs3 [] (Z0 t (Q++[nd]))).length
def O5(N:List Nm)(Q:List Nd)(s:ByteArray):Int × Int × Option Nd :=
 if 600<s.size then(0,1,none) else
  match W7 N s.toList with
  | .no e p=>(p,e,none)
  | .ok nd _=>if 20<=Q.length then(0,8,none) else if 12<cnt true Q nd then(0,9,none) else if 16<cnt false Q nd then(0,10,none) else(0,0,some nd)
def zE7(o:Option Nd)(F:Int):List (Nd × Int):=match o with
 | none=>[]
 | some nd=>[(nd,F)]
end Go.Proofs.YtegbdaffhpiacaaGreatDoor
