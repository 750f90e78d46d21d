/- What the statements without the document's answer start from. -/
import Derived.Test.YtegbdaffhpiacaaGreatDoorOwn52
import Derived.Test.YtegbdaffhpiacaaGreatDoorOwn27
import Derived.Handed
import Derived.MakeChecks
namespace Go.Proofs.YtegbdaffhpiacaaGreatDoor
open Go.RowKit Go.ChangeShapes Go.Deep Go.Joins Ar
theorem gPat : Tryz.prog.globalNamed "arbiter/worlds.patterns" = some 1 := by kernel_rfl
theorem tPat:(Tryz.prog.globals[1]?).map (·.type)=some 336:=by kernel_rfl
theorem cU64:Tryz.prog.cellsOf 195=1:=by kernel_rfl
theorem cPat:Tryz.prog.cellsOf 336=6:=by kernel_rfl
def patTab:List Int:=[0xAAAAAAAAAAAAAAAA,0xCCCCCCCCCCCCCCCC,0xF0F0F0F0F0F0F0F0,0xFF00FF00FF00FF00,0xFFFF0000FFFF0000,0xFFFFFFFF00000000]
theorem pat_begins:((begin Tryz.prog (fun _ _=>0) default).world.heap[1]?).bind Obj.row?=some (Array.replicate 6 (.int .u64 0),336):=by kernel_rfl
def laid2 : List (String × DataW Unit) := [("arbiter/syntax.heads", Rows.laid_arbiter_syntax_heads), ("arbiter/worlds.patterns", Rows.laid_arbiter_worlds_patterns)]
theorem laid_keep {W:World} (hs:W.ShapedOpen Tryz.prog) (h:laidMet Tryz.prog laid2 W):HdLaid W∧PatLaid W:=by
 obtain ⟨ps,⟨g0,t0,cs0,f0,p0,q0,hg0,ht0,hv0,hd0,⟨g1,t1,cs1,f1,p1,q1,hg1,ht1,hv1,hd1,_,_⟩,_⟩,_,_⟩:=h
 obtain rfl:=Option.some.inj (gHeads.symm.trans hg0)
 obtain rfl:=Option.some.inj (tHeads.symm.trans ht0)
 obtain rfl:=Option.some.inj (gPat.symm.trans hg1)
 obtain rfl:=Option.some.inj (tPat.symm.trans ht1)
 constructor
 ·obtain ⟨t,fr,hb⟩:=var_block gHeads hv0
  have e:=hd_cells hd0
  have e2:cs0=hdCells:=Array.ext' e
  subst e2
  exact ⟨t,fr,hb⟩
 ·obtain ⟨t,fr,hb⟩:=var_block gPat hv1
  have hd1':DataW.trod _ Tryz.prog W _ _ _ f1 336 cs1.toList=some (Lib.tabData .u64 patTab,p1):=hd1
  have hcs:=Lib.cells_of_tab Tryz.underlying336 Tryz.underlying195 cU64 cPat hd1'
  obtain ⟨cs,hc,_⟩:=hs.1 1 _ _ (of_decide_eq_true (by kernel_rfl)) pat_begins
  rw [hb] at hc
  simp only [Option.some.injEq,Obj.cells.injEq] at hc
  obtain ⟨rfl,rfl,rfl⟩:=hc
  have e:cs1=(patTab.map (fun z=>Value.int .u64 z)).toArray:=Array.ext' (by rw [hcs])
  subst e
  exact hb
end Go.Proofs.YtegbdaffhpiacaaGreatDoor
