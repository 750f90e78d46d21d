/- A part of the proof. -/
import Derived.Test.YtegbdaffhpiacaaGreatDoorMod44
import Derived.Test.YtegbdaffhpiacaaGreatDoorMod47
import Derived.Test.YtegbdaffhpiacaaGreatDoorTie
import Derived.Test.YtegbdaffhpiacaaGreatDoorCards
import Derived.Lay
import Derived.SevenTiedAt
import Derived.ChangeSlices
namespace Go.Proofs.YtegbdaffhpiacaaGreatDoor
open Go.Proofs.Tryz hiding parts
open Go.ChangeShapes Go.WideShapes Go.ChangeAt Go.WideMaps Go.WideElems Go.RowKit Go.Deep Ar
theorem jd6{W:World}{H:Type}{enc:TypeId × Value->H}{sa:Option Addr}{n cap:Nat}{d:DataW H}{p:List MemPlace}
  (h:DataW.Trod enc prog W 0 (fun _=>true) true 25 (.slice sa n cap) d p):n<=maxLen/\∃ g,zZ8 W sa n g:=by
 obtain⟨zv4,hf⟩:=h;rcases open_ints underlying25 underlying3 (by kernel_rfl) hf with⟨hcs,_⟩|⟨a,len,cp,zs,hcs,_,hl,hm,hz,_,hc,hw⟩
 ·have e0:Value.slice sa n cap=.slice none 0 0:=by simpa[Value.cells] using hcs
  cases e0;exact⟨Nat.zero_le _,fun _=>0,fun i hi=>absurd hi (Nat.not_lt_zero i)⟩
 ·have e0:Value.slice sa n cap=.slice (some a) len cp:=by simpa[Value.cells] using hcs
  cases e0;rw[if_pos rfl] at hz;refine⟨Nat.le_trans hl hm,fun i=>zs.getD i 0,fun i hi=>?_⟩;have h0:=hc 0 (by omega);have hsp:a.spot=none:=by have:=World.cell?_spot h0;simpa[Addr.add] using this
  obtain⟨b,off,sp⟩:=a;simp only at hsp;subst hsp;have hi':=hc i (by omega);have ec:(⟨b,off,none⟩:Addr).add i=⟨b,off+i,none⟩:=by
   unfold Addr.add;split
   ·simp
   ·rfl
  rw[ec] at hi';have hb:b<W.heap.size:=by
   unfold World.cell? at hi';split at hi'<;>rename_i hh<;>first
    | exact z8 hh
    | simp at hi'
  have hwi:(Lit.int .i64 (zs.getD i 0)).wf=true:=by refine hw _ ?_;rw[List.getD_eq_getElem?_getD,List.getElem?_eq_getElem (by omega)];exact List.getElem_mem _
  have hbd:=bounds_i64 hwi;exact⟨b,off,rfl,hb,hi',hbd.1,hbd.2⟩
end Go.Proofs.YtegbdaffhpiacaaGreatDoor
