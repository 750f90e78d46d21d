/- A part of the proof. -/
import Derived.Test.YtegbdaffhpiacaaGreatDoorMod46
import Derived.Test.YtegbdaffhpiacaaGreatDoorMod20
import Derived.Handed
import Derived.MakeChecks
namespace Go.Proofs.YtegbdaffhpiacaaGreatDoor
open Go.Proofs.Tryz hiding parts
section
open Go.RowKit Go.ChangeShapes Go.Deep Go.Joins Ar
theorem ju0 : Tryz.prog.globalNamed "arbiter/worlds.patterns" = some 1 := by kernel_rfl
theorem jv9:(prog.globals[1]?).map (·.type)=some 336:=by kernel_rfl
theorem jw0:prog.cellsOf 195=1:=by kernel_rfl
theorem jw1:prog.cellsOf 336=6:=by kernel_rfl
def qT9:List Int:=[0xAAAAAAAAAAAAAAAA,0xCCCCCCCCCCCCCCCC,0xF0F0F0F0F0F0F0F0,0xFF00FF00FF00FF00,0xFFFF0000FFFF0000,0xFFFFFFFF00000000]
theorem qt5:((begin prog (fun _ _=>0) default).world.heap[1]?).bind Obj.row?=some (Array.replicate 6 (.int .u64 0),336):=by kernel_rfl
def ju1 : List (String × DataW Unit) := [("arbiter/syntax.heads", Rows.laid_arbiter_syntax_heads), ("arbiter/worlds.patterns", Rows.laid_arbiter_worlds_patterns)]
theorem qJ0{W:World}(hs:W.ShapedOpen prog)(h:laidMet prog ju1 W):U4 W/\K9 W:=by
 obtain⟨ps,⟨g0,t0,cs0,f0,p0,q0,hg0,ht0,hv0,hd0,⟨g1,t1,cs1,f1,p1,q1,hg1,ht1,hv1,hd1,_,_⟩,_⟩,_,_⟩:=h;obtain rfl:=Option.some.inj (qZ7.symm.trans hg0);obtain rfl:=Option.some.inj (jr7.symm.trans ht0);obtain rfl:=Option.some.inj (ju0.symm.trans hg1);obtain rfl:=Option.some.inj (jv9.symm.trans ht1);constructor
 ·obtain⟨t,fr,hb⟩:=zY0 qZ7 hv0;have e:=qZ8 hd0;have e2:cs0=zp0:=Array.ext' e;subst e2;exact⟨t,fr,hb⟩
 ·obtain⟨t,fr,hb⟩:=zY0 ju0 hv1;have hd1':DataW.trod _ prog W _ _ _ f1 336 cs1.toList=some (Lib.tabData .u64 qT9,p1):=hd1;have hcs:=Lib.cells_of_tab underlying336 underlying195 jw0 jw1 hd1';obtain⟨cs,hc,_⟩:=hs.1 1 _ _ (of_decide_eq_true (by kernel_rfl)) qt5;rw[hb] at hc;simp only[Option.some.injEq,Obj.cells.injEq] at hc;obtain⟨rfl,rfl,rfl⟩:=hc;have e:cs1=(qT9.map (fun z=>Value.int .u64 z)).toArray:=Array.ext' (by rw[hcs]);subst e;exact hb
end
section
open Go.ChangeShapes Go.WideShapes Go.ChangeAt Go.WideMaps Go.WideElems Go.RowKit Go.Deep Ar
theorem own:ownKnob prog.godebug=none:=by kernel_rfl
theorem q9.below0{w w':World}(h:q9 (fun _=>False) w w'):Below w.heap.size w w':=⟨h.os,h.tape,h.output,h.size,fun k hk=>h.block k hk (fun f=>f)⟩
theorem zS0{H:Type}{enc:TypeId × Value->H}{a:Assume}{C:Checked}{os:Os}{f:FuncId}{fn:Func}{s:ChangeSpec}{conds:List PathCond}{apart qA7 handsOn again:Bool}{X:World->Array Value->Prop}
  (hX:∀ (w w':World) (args:Array Value),w.heap=w'.heap->X w args->X w' args)
  (own:ownKnob C.prog.godebug=none) (started:os.Started) (noInit:C.prog.inits.idxOf? f=none) (hfn:C.prog.funcs[f]?=some fn)
  (witness:∃ (w:World) (tape:Tape) (i:Input),w.os=os/\(w.forCall tape i).Shaped C.prog/\i.vars=[]/\Input.okWide C.prog (w.forCall tape i) .any w.heap.size f i /\
   ((s.pre enc C.prog fn conds apart (w.forCall tape i).memory i.args/\X (w.forCall tape i).memory i.args)/\sizedMet enc C.prog fn (OpenSpec.ofChange s) apart (w.forCall tape i).memory i.args)/\a.holds C.prog (lone (Frame.enter C.prog f i.args .normal) [] (w.forCall tape i)))
  (contract:∀ (W:World) (base:Nat) (args:Array Value) (ds gs:List (DataW H)) (before:List MemPlace),W.ShapedOpen C.prog ->
   (∀ (j:Nat) t v,fn.params[j]?=some t->args[j]?=some v->Value.okWide C.prog W .any base t v) ->
   DataW.Whole enc C.prog fn.params.toList s.vars apart W args.toList ds gs before->X W args ->
   Calls C.prog f args W fun e W'=>∃ v,e=.returned v/\s.post enc C.prog fn apart qA7 handsOn again W args v W'):
  ReturnsInHanded a C os f .any (fun w args=>(s.pre enc C.prog fn conds apart w args/\X w args)/\sizedMet enc C.prog fn (OpenSpec.ofChange s) apart w args) (s.post enc C.prog fn apart qA7 handsOn again):=by
 refine returnsInHanded_of_calls own started noInit witness ?_;intro w tape i _ hsh _ hok hpre _;obtain⟨_,_,_,fn',hfn',_,_,_,_,hval⟩:=hok;obtain rfl:fn' = fn:=Option.some.inj (hfn'.symm.trans hfn);obtain⟨⟨⟨ds,gs,before,hw,_⟩,hx⟩,_⟩:=hpre;refine(contract (w.forCall tape i) w.heap.size i.args ds gs before hsh hval (DataW.Whole.of_heap (w':=w.forCall tape i) (by rfl) hw) (hX _ _ _ (by rfl) hx)).mono fun e W' ⟨v,he,hp⟩=>?_
 subst he;exact ChangeSpec.post_blind hp
end
end Go.Proofs.YtegbdaffhpiacaaGreatDoor
