/- A part of the proof. -/
import Derived.Test.YtegbdaffhpiacaaGreatDoorMod05
import Derived.Test.YtegbdaffhpiacaaGreatDoorRows
import Derived.Lib.LaidTab
import Derived.Lib.SmallJoins
import Derived.ProofKit
import Derived.OpenShut
import Derived.Deep.Strs
namespace Go.Proofs.YtegbdaffhpiacaaGreatDoor
open Go.Proofs.Tryz hiding parts
open Go.RowKit Go.ChangeShapes Go.Deep Go.Joins Ar
theorem qC3(f:Nat->List Value):∀ (n:Nat) (l:List Value),l.length=3*n->(∀ i,i<n->(l.drop (3*i)).take 3=f i)->l=(List.range n).flatMap f
 | 0,l,hl,_=>by simpa using hl
 | n+1,l,hl,h=>by
  have e1:=qC3 f n (l.take (3*n)) (by simp;omega) (fun i hi=>by rw[List.drop_take,List.take_take,Nat.min_eq_left (by omega)];exact h i (by omega))
  have e2:=h n (by omega);rw[List.take_of_length_le (by simp;omega)] at e2;rw[List.range_succ,List.flatMap_append,<- e1];simp[<- e2]
section
variable{H:Type}{enc:TypeId × Value->H}{P:Program}{w:World}{base:Nat}{spare:Nat->Bool}{held:Bool}
theorem jv0{α:Type}{l:List α}(h:l.length=3):∃ a b c,l=[a,b,c]:=by
 match l,h with
 | [a,b,c],_=>exact⟨a,b,c,rfl⟩
theorem zS5{t:TypeId}{f0 f1 f2:Field}{zv4:Nat}{cs:List Value}{x:DataW H × List MemPlace}(hs:P.underlying t=some (.struct #[f0,f1,f2]))(hone:oneCellFields P #[f0,f1,f2]=true)(hC:P.cellsOf t=3)
  (h:DataW.trod enc P w base spare held zv4 t cs=some x):
  ∃ (v0 v1 v2:Value) (y0 y1 y2:DataW H × List MemPlace) (n:Nat),cs=[v0,v1,v2]/\x.1=.agg [y0.1,y1.1,y2.1] /\
   DataW.trod enc P w base spare held n f0.type [v0]=some y0/\DataW.trod enc P w base spare held n f1.type [v1]=some y1/\DataW.trod enc P w base spare held n f2.type [v2]=some y2:=by
 obtain⟨y0,y1,y2,n,hx,hl,h0,h1,h2⟩:=trod_struct3 hs h;obtain⟨c0,c1,c2,rfl⟩:=jv0 (hl.trans hC);obtain⟨o0,k0⟩:=hone_of hone 0 f0 rfl;obtain⟨o1,k1⟩:=hone_of hone 1 f1 rfl;obtain⟨o2,k2⟩:=hone_of hone 2 f2 rfl;exact⟨c0,c1,c2,y0,y1,y2,n,rfl,by rw[hx],by simpa[o0,k0] using h0,by simpa[o1,k1] using h1,by simpa[o2,k2] using h2⟩
theorem jk1{t ts tk tq:TypeId}{f0 f1 f2:Field}(hs:P.underlying t=some (.struct #[f0,f1,f2]))(hone:oneCellFields P #[f0,f1,f2]=true)(hC:P.cellsOf t=3)(e0:f0.type=ts)(e1:f1.type=tk)(e2:f2.type=tq)
  (h0:P.underlying ts=some .string) (h1:P.underlying tk=some (.int .i64)) (h2:P.underlying tq=some (.int .i64)) {n:Nat} {cs:List Value} {y:DataW H × List MemPlace} (h:DataW.trod enc P w base spare held n t cs=some y)
  {s:ByteArray} {x k:Int} (hy:y.1=.agg [.lit (.string s.data.toList),.lit (.int .i64 x),.lit (.int .i64 k)]):cs=[.string s,.int .i64 x,.int .i64 k]:=by
 subst e0 e1 e2;obtain⟨v0,v1,v2,y0,y1,y2,m,rfl,hx,g0,g1,g2⟩:=zS5 hs hone hC h;obtain⟨s0,c0,rfl,_⟩:=DataW.trod_string h0 g0;obtain⟨x0,c1,rfl,_⟩:=DataW.trod_int h1 g1;obtain⟨k0,c2,rfl,_⟩:=DataW.trod_int h2 g2;rw[hx] at hy;simp only[DataW.agg.injEq,List.cons.injEq,DataW.lit.injEq,Lit.string.injEq,Lit.int.injEq,true_and,and_true] at hy;obtain⟨hb,rfl,rfl⟩:=hy;have:s0=s:=by
  obtain⟨d0⟩:=s0;obtain⟨d⟩:=s
  congr 1
  exact Array.ext' hb
 subst this;simp only[List.cons.injEq,and_true] at c0 c1 c2;rw[c0,c1,c2]
end
theorem qZ7 : Tryz.prog.globalNamed "arbiter/syntax.heads" = some 0 := by kernel_rfl
theorem jr7:(prog.globals[0]?).map (·.type)=some 321:=by kernel_rfl
theorem jl6:prog.cellsOf 270=3:=by kernel_rfl
theorem jr8:prog.cellsOf 321=27:=by kernel_rfl
def jv1(x:ByteArray × Int × Int):List Value:=[.string x.1,.int .i64 x.2.1,.int .i64 x.2.2]
def qw7(x:ByteArray × Int × Int):DataW Unit:=.agg [.lit (.string x.1.data.toList),.lit (.int .i64 x.2.1),.lit (.int .i64 x.2.2)]
theorem qw8:Rows.laid_arbiter_syntax_heads=DataW.agg (Y6.map qw7):=by kernel_rfl
theorem qn7:(List.range 9).flatMap (fun i=>jv1 (Y6.getD i (ByteArray.empty,0,0)))=zp0.toList:=by kernel_rfl
theorem qZ8{W:World}{zv4:Nat}{cs:List Value}{p:List MemPlace}{enc:TypeId × Value->Unit}{base:Nat}{spare:Nat->Bool}{held:Bool}
  (h:DataW.trod enc prog W base spare held zv4 321 cs=some (Rows.laid_arbiter_syntax_heads,p)):cs=zp0.toList:=by
 obtain⟨xs,m,_,hx,hl,hn,hel⟩:=DataW.trod_array underlying321 h;rw[qw8] at hx;simp only[Prod.mk.injEq,DataW.agg.injEq] at hx;rw[jl6] at hel;rw[jr8] at hl;rw[<- qn7];refine qC3 _ 9 cs hl fun i hi=>?_
 have h1:=hel i hi;have hxi:xs[i]?=some xs[i]:=List.getElem?_eq_getElem (by omega);rw[hxi,Nat.mul_comm] at h1;have hri:i<Y6.length:=hi;have hd:(xs[i]).1=qw7 Y6[i]:=by
  have h2:(Y6.map qw7)[i]?=(xs.map (·.1))[i]?:=by rw[hx.1]
  rw[List.getElem?_map,List.getElem?_map,hxi,List.getElem?_eq_getElem hri] at h2;simpa using h2.symm
 have h3:=jk1 underlying270 (by kernel_rfl) jl6 rfl rfl rfl underlying9 underlying110 underlying268 h1 hd;rw[h3,List.getD_eq_getElem?_getD,List.getElem?_eq_getElem hri]
 rfl
theorem zY0{W:World}{name:String}{g:Nat}{cs:Array Value}(hg:prog.globalNamed name=some g)(h:W.var? prog name=some cs):∃ t fr,W.heap[g]?=some (.cells cs t fr):=by
 simp only[World.var?,hg,Option.bind_some] at h;split at h
 ·rename_i cs' t fr hb;exact⟨t,fr,by rw[hb];simp_all⟩
 ·simp at h
end Go.Proofs.YtegbdaffhpiacaaGreatDoor
