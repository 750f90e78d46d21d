/- A part of the proof. -/
import Derived.Test.YtegbdaffhpiacaaGreatDoorMod23
import Derived.Test.YtegbdaffhpiacaaGreatDoorMod26
import Derived.Stop.Asserts
import Derived.Deep.AppendLies
set_option maxRecDepth 100000
set_option maxHeartbeats 2000000
namespace Go.Proofs.YtegbdaffhpiacaaGreatDoor
open Go.Proofs.Tryz hiding parts
section
open Go.RowKit Ar
theorem qC0(v:Value)(W:World):(Instr.typeAssert (.iface 139 v) 182 314 true).run prog W=.ok (.tuple #[.iface 139 v,.bool true]) W:=run_typeAssert_hasB underlying314 (by kernel_rfl) v _ W
theorem qd4(v:Value)(W:World):(Instr.typeAssert (.iface 139 v) 182 310 true).run prog W=.ok (.tuple #[.iface 139 v,.bool true]) W:=run_typeAssert_hasB underlying310 (by kernel_rfl) v _ W
theorem qC1(v:Value)(W:World):(Instr.typeAssert (.iface 139 v) 182 259 true).run prog W=.ok (.tuple #[.iface 139 v,.bool true]) W:=run_typeAssert_hasB underlying259 (by kernel_rfl) v _ W
theorem qn4 (v : Value) (W : World) : (method 496 139 v "Explain").run Tryz.prog W = .ok (255, v) W := by kernel_rfl
theorem zJ1 (v : Value) (W : World) : (method 496 139 v "Assume").run Tryz.prog W = .ok (253, v) W := by kernel_rfl
theorem qY9 (v : Value) (W : World) : (method 496 139 v "Back").run Tryz.prog W = .ok (254, v) W := by kernel_rfl
theorem qw2 (v : Value) (W : World) : (method 496 139 v "Split").run Tryz.prog W = .ok (257, v) W := by kernel_rfl
theorem qZ0 (v : Value) (W : World) : (method 496 139 v "Model").run Tryz.prog W = .ok (256, v) W := by kernel_rfl
attribute [local go_sem] qC0 qd4 qC1 qn4 zJ1 qY9 qw2 qZ0
section
variable{B:Nat}{w w':World}{sb hb g:Nat}{c:ThV}{TK:List Z3}{AK:List PA}{tw:List (Nat × Nat)}{tv lv:Value}{tr:List St}{As:List (PA × Bool)}{ls:List (List (BitVec 64))}{TT:List W9}{X:W9}
theorem qn5(h:SrR B w sb hb g c TK AK tw tv lv tr As ls (TT++[X]))(hl:TT.length<=500):
  Calls prog 134 #[.pointer (some ⟨sb,0,none⟩)] w fun e w'=>e=.returned X.wrong.val/\q9 (fun _=>False) w w':=by
 obtain⟨V,hV⟩:∃ V,w.alloc (.cells #[.int .u64 0,.int .u64 0,.int .u64 0] 197)=V:=⟨_,rfl⟩;have hxV:q9 (fun _=>False) w V:=by rw[<- hV];exact(q9.refl _ w).alloc _
 have kM:V.heap[w.heap.size]?=some (.cells #[.int .u64 0,.int .u64 0,.int .u64 0] 197):=by rw[<- hV];exact heap_alloc_new w _
 have hRV:=h.ext hxV;have kb:=h.blk;have c0:=z6 kb 0;have hbl:=z8 kb;have HE:=q8 (qg5 hRV.th hl);have HVE:=q8 hV;have HXV:=q8 hxV;have KM:=q8 kM;clear h kb hRV kM hV hxV;unfold M3.val u64;go_enter func134,ntmps134;go_wp2_with fail;rw[HVE.out];refine HE.out.mono ?_;rintro e w1 ⟨rfl,hx1⟩;have kM1:=(hx1.block _ (z8 KM.out) (fun f=>f)).trans KM.out;have m0:=z6 kM1 0;have m1:=z6 kM1 1;have m2:=z6 kM1 2;have y0:=Q8 kM1 0;have y1:=Q8 kM1 1;have y2:=Q8 kM1 2;have hml:=z8 kM1;have HX1:=q8 (HXV.out.trans hx1);clear kM1 hx1;go_wp2_with fail;refine bodyPost_ret (v:=.agg #[.int .u64 X.wrong.a.toNat,.int .u64 X.wrong.b.toNat,.int .u64 X.wrong.c.toNat]) (by simp[results,results134,go_sem,m0,m1,m2]) rfl ⟨rfl,?_⟩;exact HX1.out.trans' (ze3 _ _ _ _ _) (fun i hi e=>by have h1:i=w.heap.size:=e;omega)
end
end
section
open Go.RowKit Ar
theorem qX9:(prog.info? 3).map (fun i=>(i.zero,i.size,i.bytes))=some (some (.int .i64 0),1,8):=by kernel_rfl
theorem qv7(n:Nat):madeCells #[Value.int .i64 0] n=Array.replicate n (Value.int .i64 0):=by
 apply Array.ext
 ·simp[madeCells]
 ·intro i h1 h2;simp[madeCells,Nat.mod_one]
theorem qB6(n:Nat)(h:n<=1024)(w:World):(Instr.makeSlice 25 (.int .i64 (n:Int)) (.int .i64 (n:Int))).run prog w=.ok (.slice (some ⟨w.heap.size,0,none⟩) n n) (w.alloc (.cells (Array.replicate n (.int .i64 0)) 3)):=by
 obtain⟨i0,hi,hz0,hz1,hz2⟩:=info_parts qX9;have:=run_make (P:=prog) w 25 3 i0 _ underlying25 hi hz0 .i64 .i64 (n:Int) (n:Int) (by omega) (Int.le_refl _) (by rw[hz2];omega) (by omega);rw[this,hz1];have e:(n:Int).toNat=n:=by omega
 rw[e,Nat.mul_one];rw[show(Value.int .i64 0).cells=#[Value.int .i64 0] from rfl,qv7]
section
variable{w:World}{hb g:Nat}{c:ThV}{TK:List Z3}{AK:List PA}{tw:List (Nat × Nat)}{As:List (PA × Bool)}{TT:List W9}{X:W9}
def zS4(w:World)(b n j:Nat)(f:Nat->Int):Prop:=∃ C:Array Value,w.heap[b]?=some (.cells C 3)/\C.size=n/\∀ i,i<j->C[i]?=some (.int .i64 (f i))
theorem zS4.set{b n j:Nat}{f:Nat->Int}(h:zS4 w b n j f)(hj:j<n):zS4 (w.setCell ⟨b,j,none⟩ (.int .i64 (f j))) b n (j+1) f:=by
 obtain⟨C,h1,h2,h3⟩:=h;refine⟨_,Y4 h1 j _,by simp[h2],fun i hi=>?_⟩;rw[Array.getElem?_setIfInBounds];by_cases e:j=i
 ·subst e;simp;omega
 ·rw[if_neg e];exact h3 i (by omega)
theorem zS4.row{b n:Nat}{f:Nat->Int}(h:zS4 w b n n f)(hn:n<=1024):w.ownsRow 0 3 1 (.slice (some ⟨b,0,none⟩) n n) n ((List.range n).map fun i=>.int .i64 (f i)):=by
 obtain⟨C,h1,h2,h3⟩:=h;refine⟨by simp,.inr ⟨b,n,C,rfl,Nat.zero_le _,h1,Nat.le_refl _,by unfold maxLen;omega,by omega,?_⟩⟩;apply List.ext_getElem?;intro i;rw[List.getElem?_take,Array.getElem?_toList,List.getElem?_map];by_cases e:i<n
 ·rw[if_pos (by omega),h3 i e,List.getElem?_range e];rfl
 ·rw[if_neg (by omega),List.getElem?_eq_none (by simp;omega)];rfl
theorem qm8(h:ThR w hb g c TK AK tw As (TT++[X]))(hT:TK.length<=12)(hl:TT.length<=500):
  Calls prog 256 #[.pointer (some ⟨hb,0,none⟩)] w fun e w'=>∃ v,e=.returned v/\q9 (fun _=>False) w w'/\v.ownBlock=some w.heap.size/\w'.ownsRow 0 3 1 v TK.length ((List.range TK.length).map fun i=>.int .i64 (X.t.by_ i TK.length)):=by
 have kb:=h.blk;obtain⟨ta,tc,htv⟩:=Q0 h.ts;rw[htv] at kb;have c0:=z6 kb 0;have hmk:=qB6 TK.length (by omega) w;obtain⟨V,hV⟩:∃ V,w.alloc (.cells (Array.replicate TK.length (.int .i64 0)) 3)=V:=⟨_,rfl⟩;have hxV:q9 (fun _=>False) w V:=by rw[<- hV];exact(q9.refl _ w).alloc _
 have hNV:zS4 V w.heap.size TK.length 0 (fun i=>X.t.by_ i TK.length):=⟨_,by rw[<- hV];exact heap_alloc_new w _,by simp,fun i hi=>by omega⟩;rw[hV] at hmk;have H:=q8 h;have HXV:=q8 hxV;have HNV:=q8 hNV;clear h kb htv hV hxV hNV;go_enter func256,ntmps256;go_wp2_with fail
 go_loopw [13] (fun i wr=>∃ j:Nat,j<=TK.length/\i=.int .i64 j/\q9 (fun _=>False) w wr/\zS4 wr w.heap.size TK.length j (fun i=>X.t.by_ i TK.length)) (fun i _=>TK.length-(intOf i).toNat)
 case atStart=>exact⟨0,Nat.zero_le _,rfl,HXV.out,HNV.out⟩
 case round=>
  obtain⟨j,hj,rfl,hx,hN⟩:=hrel;have HX:=q8 hx;have HN:=q8 hN;clear hx hN;by_cases hlt:j<TK.length
  ·have HG:=q8 (zj3 (i:=j) (H.out.ext HX.out (fun _ _ f=>f)) hT hl (by omega));go_wp2_with fail;refine HG.out.mono ?_;rintro e w2 ⟨rfl,hx2⟩;obtain⟨C,n1,n2,n3⟩:=HN.out;have n1':=(hx2.block _ (z8 n1) (fun f=>f)).trans n1;have hN2:zS4 w2 w.heap.size TK.length j (fun i=>X.t.by_ i TK.length):=⟨C,n1',n2,n3⟩;have HN2:=q8 (hN2.set hlt);have HX2:=q8 (HX.out.trans hx2);have f0:=Q8 n1' j;have c1:=z6 n1' j;rw[Array.getElem?_eq_getElem (by omega)] at c1;obtain⟨u,hu⟩:∃ u,C[j]=u:=⟨_,rfl⟩;rw[hu] at c1;clear hN2 n1 n1' n3 hx2 hu;go_wp2_with fail
   go_roundw
   case measure=>simp[intOf];omega
   case rel=>exact⟨j+1,by omega,by go_num,HX2.out.trans' ((q9.refl (fun k=>k=w.heap.size) w2).setCell (p:=⟨w.heap.size,j,none⟩) (fun _=>rfl) _) (fun i hi e=>by have h1:i=w.heap.size:=e;omega),HN2.out⟩
  ·have hjk:j=TK.length:=by omega
   subst hjk;go_wp2_with fail;go_ret;exact⟨_,rfl,HX.out,rfl,HN.out.row (by omega)⟩
end
section
variable{B:Nat}{w w':World}{sb hb g:Nat}{c:ThV}{TK:List Z3}{AK:List PA}{tw:List (Nat × Nat)}{tv lv:Value}{tr:List St}{As:List (PA × Bool)}{ls:List (List (BitVec 64))}{TT:List W9}
theorem jj3{ab a:Nat}(s:St)(hab:w.heap[ab]?=some (.cells #[.int .i64 a] 3)):
  Calls prog 208 #[zh4 s,.pointer (some ⟨ab,0,none⟩)] w fun e w'=>e=.returned (.bool (decide (s.q=a)))/\q9 (fun _=>False) w w':=by
 have c0:=z6 hab 0;have hbl:=z8 hab;clear hab;unfold zh4;by_cases h:s.q=a
 ·have h1:((s.q:Int)==(a:Int))=true:=by simp[h]
  rw[decide_eq_true h];clear h;go_enter func208,ntmps208;go_wp2_with fail;go_ret;exact⟨rfl,(q9.refl _ w).alloc _⟩
 ·have h1:((s.q:Int)==(a:Int))=false:=by simp;omega
  rw[decide_eq_false h];clear h;go_enter func208,ntmps208;go_wp2_with fail;go_ret;exact⟨rfl,(q9.refl _ w).alloc _⟩
theorem qL6{ab a:Nat}(h:SrR B w sb hb g c TK AK tw tv lv tr As ls TT)(hl:tr.length<=1000)(hab:w.heap[ab]?=some (.cells #[.int .i64 a] 3)):
  Calls prog 219 #[tv,.func (.func 208) #[] #[.pointer (some ⟨ab,0,none⟩)]] w fun e w'=>q9 (fun _=>False) w w'/\((e=.returned (.int .i64 (-1))/\a ∉ tr.map (·.q))\/∃ k:Nat,e=.returned (.int .i64 k)/\a∈tr.map (·.q)):=by
 obtain⟨ta,tc,htv⟩:=Q0 h.row;have H:=q8 h;have HAB:=q8 hab;rw[htv];clear h hab;go_enter func219,ntmps219;go_wp2_with fail
 go_loopw [8] (fun i wr=>∃ j:Nat,j<=tr.length/\i=.int .i64 j/\q9 (fun _=>False) w wr/\∀ x∈tr.take j,x.q≠a) (fun i _=>tr.length-(intOf i).toNat)
 case atStart=>exact⟨0,Nat.zero_le _,rfl,q9.refl _ _,by simp⟩
 case round=>
  obtain⟨j,hj,rfl,hxr,hz⟩:=hrel;have HZ:=q8 hz;have HXR:=q8 hxr;clear hz hxr;by_cases hlt:j<tr.length
  ·obtain⟨s,hsj⟩:∃ x,tr[j]?=some x:=⟨_,List.getElem?_eq_getElem hlt⟩;obtain⟨gt,cap,htv',hgt,q0,q1,q2,q3,q4,q5⟩:=(H.out.ext HXR.out).step hsj;rw[htv] at htv';obtain⟨rfl,rfl⟩:ta=some ⟨gt,0,none⟩/\tc=cap:=by simpa using htv'
   have HSJ:=q8 hsj;have HQ:Hid (Calls prog 208 #[.agg #[.int .i64 s.q,.bool s.yes,.bool s.turned,.int .u64 s.blame.a.toNat,.int .u64 s.blame.b.toNat,.int .u64 s.blame.c.toNat],.pointer (some ⟨ab,0,none⟩)] wr fun e w'=>e=.returned (.bool (decide (s.q=a)))/\q9 (fun _=>False) wr w'):=jj3 s ((HXR.out.block _ (z8 HAB.out) (fun f=>f)).trans HAB.out);clear hsj htv';by_cases hx:s.q=a
   ·have HX:=q8 hx;rw[decide_eq_true hx] at HQ;clear hx;go_wp2_with (first|(go_at_call 208;refine HQ.out.mono ?_;rintro e w2 ⟨rfl,hx2⟩;have HX2:=q8 hx2;clear hx2)|fail);go_ret;exact⟨HXR.out.trans HX2.out,.inr ⟨j,rfl,List.mem_map.2 ⟨s,List.mem_of_getElem? HSJ.out,HX.out⟩⟩⟩
   ·have HX:=q8 hx;rw[decide_eq_false hx] at HQ;clear hx;go_wp2_with (first|(go_at_call 208;refine HQ.out.mono ?_;rintro e w2 ⟨rfl,hx2⟩;have HX2:=q8 hx2;clear hx2)|fail)
    go_roundw
    case measure=>simp[intOf];omega
    case rel=>
     refine⟨j+1,by omega,by go_num,HXR.out.trans HX2.out,fun y hy=>?_⟩;rw[List.take_add_one,HSJ.out] at hy;rcases List.mem_append.1 hy with e|e
     ·exact HZ.out y e
     ·simp at e;rw[e];exact HX.out
  ·have hjl:j=tr.length:=by omega
   subst hjl;go_wp2_with fail;go_ret;refine⟨HXR.out,.inl ⟨rfl,fun hm=>?_⟩⟩;obtain⟨x,hx,e⟩:=List.mem_map.1 hm;exact HZ.out x (by rw[List.take_length];exact hx) e
theorem qX0{ab a:Nat}(h:SrR B w sb hb g c TK AK tw tv lv tr As ls TT)(hl:tr.length<=1000)(hab:w.heap[ab]?=some (.cells #[.int .i64 a] 3)):
  Calls prog 207 #[tv,.func (.func 208) #[] #[.pointer (some ⟨ab,0,none⟩)]] w fun e w'=>q9 (fun _=>False) w w'/\∃ r,e=.returned (.bool r)/\(r=true↔a∈tr.map (·.q)):=by
 have HC:=q8 (qL6 h hl hab);clear h hab;go_enter func207,ntmps207;go_wp2_with fail;refine HC.out.mono ?_;rintro e w2 ⟨hx,⟨rfl,h1⟩|⟨k,rfl,h1⟩⟩
 ·have H1:=q8 h1;have HX:=q8 hx;clear h1 hx;go_wp2_with fail;go_ret;exact⟨HX.out,false,rfl,fun e=>by simp at e,fun e=>absurd e H1.out⟩
 ·have H1:=q8 h1;have HX:=q8 hx;clear h1 hx;go_wp2_with fail;go_ret;exact⟨HX.out,true,rfl,fun _=>H1.out,fun _=>rfl⟩
end
end
section
open Go.RowKit Ar
attribute [local go_sem] zJ1
theorem qZ1:(prog.info? 250).map (fun i=>(i.zero,i.size,i.bytes))=some (some (.agg #[.int .i64 0,.bool false,.bool false,.int .u64 0,.int .u64 0,.int .u64 0]),6,40):=by kernel_rfl
theorem qZ2:(prog.info? 136).map (fun i=>(i.zero,i.size,i.bytes))=some (some (.slice none 0 0),1,24):=by kernel_rfl
section
variable{B:Nat}{w w':World}{sb hb g:Nat}{c:ThV}{TK:List Z3}{AK:List PA}{tw:List (Nat × Nat)}{tv lv:Value}{tr:List St}{As:List (PA × Bool)}{ls:List (List (BitVec 64))}{TT:List W9}{X:W9}{F:Fx}
theorem SrR.pushT{w0 w3:World}{gt cap:Nat}{s:St}(h:SrR B w sb hb g c TK AK tw tv lv tr As ls TT)(h0:q9 (fun _=>False) w w0)(hgrow:w0.grownBy w3 tv.ownBlock)(hown:w3.ownsRow 0 250 6 (.slice (some ⟨gt,0,none⟩) (tr.length+1) cap) (tr.length+1) (zg6 tr++zC6 s))(hat:tv.ownBlock=some gt\/w0.heap.size<=gt):
  SrR B (w3.setCell ⟨sb,2,none⟩ (.slice (some ⟨gt,0,none⟩) (tr.length+1) cap)) sb hb g c TK AK tw (.slice (some ⟨gt,0,none⟩) (tr.length+1) cap) lv (tr++[s]) As ls TT/\q9 (fun k=>k=sb\/tv.ownBlock=some k) w (w3.setCell ⟨sb,2,none⟩ (.slice (some ⟨gt,0,none⟩) (tr.length+1) cap)):=by
 have h2:q9 (fun k=>tv.ownBlock=some k) w w3:=(h0.mono (fun _ _ f=>f.elim)).grown hgrow (fun k hk _=>hk);have hW:q9 (fun k=>k=sb) w3 (w3.setCell ⟨sb,2,none⟩ (.slice (some ⟨gt,0,none⟩) (tr.length+1) cap)):=(q9.refl (fun k=>k=sb) w3).setCell (p:=⟨sb,2,none⟩) (fun _=>rfl) _;have hx:q9 (fun k=>k=sb\/tv.ownBlock=some k) w (w3.setCell ⟨sb,2,none⟩ (.slice (some ⟨gt,0,none⟩) (tr.length+1) cap)):=(h2.mono (fun _ _ e=>.inr e)).trans' hW (fun _ _ e=>.inl e);have kb3:=(h2.block sb (z8 h.blk) (fun e=>Z7 h.row h.blk (by decide) e)).trans h.blk;have e:zg6 (tr++[s])=zg6 tr++zC6 s:=by simp[zg6]
 refine⟨h.turnT hx (Y4 kb3 2 _) ?_ (fun k hk=>?_),hx⟩
 ·rw[e,List.length_append,List.length_singleton];exact z7 hown hW (fun k hk e=>Z7 hown kb3 (by decide) (e▸hk))
 ·simp[Value.ownBlock] at hk;subst hk;exact hat.imp (fun e=>e) (fun e=>Nat.le_trans h0.size e)
theorem SrR.pushL{w0 w3:World}{gl cap b:Nat}{v:Value}{l:List (BitVec 64)}{vs:List Value}(h:SrR B w sb hb g c TK AK tw tv lv tr As ls TT)(hvs:w.ownsRow 0 136 1 lv ls.length vs/\∀ (k:Nat) (l:List (BitVec 64)),ls[k]?=some l->l.length=2^(AK.length-6)/\∃ b v,vs[k]?=some v/\WS w b v l)(h0:q9 (fun _=>False) w w0)(hgrow:w0.grownBy w3 lv.ownBlock)(hown:w3.ownsRow 0 136 1 (.slice (some ⟨gl,0,none⟩) (ls.length+1) cap) (ls.length+1) (vs++[v]))(hat:lv.ownBlock=some gl\/w0.heap.size<=gl)(hW:WS w0 b v l)(hl:l.length=2^(AK.length-6)):
  SrR B (w3.setCell ⟨sb,3,none⟩ (.slice (some ⟨gl,0,none⟩) (ls.length+1) cap)) sb hb g c TK AK tw tv (.slice (some ⟨gl,0,none⟩) (ls.length+1) cap) tr As (ls++[l]) TT/\q9 (fun k=>k=sb\/lv.ownBlock=some k) w (w3.setCell ⟨sb,3,none⟩ (.slice (some ⟨gl,0,none⟩) (ls.length+1) cap)):=by
 obtain⟨hvo,hvk⟩:=hvs;have h2:q9 (fun k=>lv.ownBlock=some k) w w3:=(h0.mono (fun _ _ f=>f.elim)).grown hgrow (fun k hk _=>hk);have h03:q9 (fun k=>lv.ownBlock=some k) w0 w3:=(q9.refl _ w0).grown hgrow (fun k hk _=>hk);have hWx:q9 (fun k=>k=sb) w3 (w3.setCell ⟨sb,3,none⟩ (.slice (some ⟨gl,0,none⟩) (ls.length+1) cap)):=(q9.refl (fun k=>k=sb) w3).setCell (p:=⟨sb,3,none⟩) (fun _=>rfl) _;have hx:q9 (fun k=>k=sb\/lv.ownBlock=some k) w (w3.setCell ⟨sb,3,none⟩ (.slice (some ⟨gl,0,none⟩) (ls.length+1) cap)):=(h2.mono (fun _ _ e=>.inr e)).trans' hWx (fun _ _ e=>.inl e);have kb3:=(h2.block sb (z8 h.blk) (fun e=>Z7 hvo h.blk (by decide) e)).trans h.blk;have hvo0:=z7 hvo h0 (fun _ _ f=>f);have kb0:=(h0.block sb (z8 h.blk) (fun f=>f)).trans h.blk;refine⟨h.turnL hx (Y4 kb3 3 _) ⟨vs++[v],?_,fun k l' hk=>?_⟩ (fun k hk=>?_),hx⟩
 ·rw[List.length_append,List.length_singleton];exact z7 hown hWx (fun k hk e=>Z7 hown kb3 (by decide) (e▸hk))
 ·have hvl:vs.length=ls.length:=by have:=hvo.1;omega
  rcases zd8 hk with⟨h1,h3⟩|⟨h1,h3⟩
  ·obtain⟨e1,b',v',e2,e3⟩:=hvk k l' h3;refine⟨e1,b',v',by rw[List.getElem?_append_left (by omega)];exact e2,?_⟩;obtain⟨cur,hc⟩:=e3.blockT;refine e3.ext hx (fun e=>?_);rcases e with e|e
   ·subst e;have:=h.blk;rw[hc] at this;simp at this
   ·exact Z7 hvo hc (by decide) e
  ·subst h3;refine⟨hl,b,v,by rw[List.getElem?_append_right (by omega),h1,hvl,Nat.sub_self];rfl,?_⟩;obtain⟨cur,hc⟩:=hW.blockT;refine(hW.ext h03 (fun e=>Z7 hvo0 hc (by decide) e)).ext hWx (fun e=>?_);subst e;rw[hc] at kb0;simp at kb0
 ·simp[Value.ownBlock] at hk;subst hk;exact hat.imp (fun e=>e) (fun e=>Nat.le_trans h0.size e)
end
end
section
open Go.RowKit Ar
attribute [local go_sem] zJ1
section
variable{B:Nat}{w w':World}{sb hb g:Nat}{c:ThV}{TK:List Z3}{AK:List PA}{tw:List (Nat × Nat)}{tv lv:Value}{tr:List St}{As:List (PA × Bool)}{ls:List (List (BitVec 64))}{TT:List W9}{X:W9}{F:Fx}
def TkC(B:Nat)(w:World)(sb hb g:Nat)(c:ThV)(tv lv:Value)(TK:List Z3)(AK:List PA)(tw:List (Nat × Nat))(tr:List St)(TT:List W9)(X:W9)(F:Fx)(s:St)(ls':List (List (BitVec 64)))(e:Ending)(w':World):Prop :=
 ∃ Y ok g' c' tv' lv',e=.returned (.bool ok)/\SrR B w' sb hb g' c' TK AK tw tv' lv' (tr++[s]) (asQ AK (tr++[s])) ls' (TT++[X]++[Y])/\Mv sb hb g c tv lv g' c' tv' lv' w w' /\
  (ok=true->ThG F (asQ AK (tr++[s])) Y/\(∀ y∈Y8 (asQ AK (tr++[s])),ze1 Y.t y)/\∀ p∈tw,zg3 F Y.t p) /\
  (ok=false->J8 (tr.length+1) Y.wrong/\∀ v,F.V v->¬Hs (HA (Y8 (asQ AK (tr++[s])))) Y.wrong v)
theorem qw3(h:SrR B w sb hb g c TK AK tw tv lv tr (asQ AK tr) ls (TT++[X]))(s:St){last:List (BitVec 64)}(hlast:ls[ls.length-1]?=some last)(hln:ls.length<=100)
  (hG:ThG F (asQ AK tr) X) (hF:qg2 F TK tw) (hfar:F.far<=1000000) (hT:TK.length<=12) (hA:AK.length<=16) (htw:tw.length<=1000) (hq2:s.q<=1000) (hl:TT.length<=200) (hAs:tr.length<=188) (hok:∀ x∈asQ AK tr,x.1.at_.Ok/\x.1.i<TK.length/\x.1.j<TK.length) (hxo:(paQ AK s.q).at_.Ok/\(paQ AK s.q).i<TK.length/\(paQ AK s.q).j<TK.length) (hxb:-1000<=(paQ AK s.q).b/\(paQ AK s.q).b<=1000):
  Calls prog 132 #[.pointer (some ⟨sb,0,none⟩),zh4 s] w (TkC B w sb hb g c tv lv TK AK tw tr TT X F s (if s.q<AK.length then ls++[V6 last (X4 (2^(AK.length-6)) s.q s.yes)] else ls)):=by
 obtain⟨ls',hls'⟩:∃ ls',(if s.q<AK.length then ls++[V6 last (X4 (2^(AK.length-6)) s.q s.yes)] else ls)=ls':=⟨_,rfl⟩;rw[hls'];have HLS:=q8 hls';clear hls';obtain⟨V,hV⟩:∃ V,w.alloc (.cells #[.int .i64 s.q,.bool s.yes,.bool s.turned,.int .u64 s.blame.a.toNat,.int .u64 s.blame.b.toNat,.int .u64 s.blame.c.toNat] 250)=V:=⟨_,rfl⟩;have hxV:q9 (fun _=>False) w V:=by rw[<- hV];exact(q9.refl _ w).alloc _
 have kA:V.heap[w.heap.size]?=some (.cells #[.int .i64 s.q,.bool s.yes,.bool s.turned,.int .u64 s.blame.a.toNat,.int .u64 s.blame.b.toNat,.int .u64 s.blame.c.toNat] 250):=by rw[<- hV];exact heap_alloc_new w _
 have hR:=h.ext hxV;have kb:=hR.blk;obtain⟨ta,tc,htv⟩:=Q0 hR.row;rw[htv] at kb;have c1:=z6 kb 1;have c2:=z6 kb 2;have a0:=z6 kA 0;have a1:=z6 kA 1;have a2:=z6 kA 2;have a3:=z6 kA 3;have a4:=z6 kA 4;have a5:=z6 kA 5;have hal:=z8 kA;have hbl:=z8 kb;obtain⟨i0,hi,hz0,hz1,hz2⟩:=info_parts qZ1;have HR:=q8 hR;have HO:=q8 (htv▸hR.row);have KA:=q8 kA;have KB:=q8 kb;have HVE:=q8 hV;have HXV:=q8 hxV;have HH:=q8 h;clear h hR kb kA hV hxV;unfold zh4;go_enter func132,ntmps132;go_wp2_with fail;rw[HVE.out];rename_i K aK
 suffices hK:∀ (gt cap':Nat) (W3:World),SrR B W3 sb hb g c TK AK tw (.slice (some ⟨gt,0,none⟩) (tr.length+1) cap') lv (tr++[s]) (asQ AK tr) ls (TT++[X])->q9 (fun k=>k=sb\/tv.ownBlock=some k) V W3->(tv.ownBlock=some gt\/V.heap.size<=gt)->K { tmps:=#[.pointer (some ⟨sb,0,none⟩),.agg #[.int .i64 s.q,.bool s.yes,.bool s.turned,.int .u64 s.blame.a.toNat,.int .u64 s.blame.b.toNat,.int .u64 s.blame.c.toNat],undef,.pointer (some ⟨w.heap.size,0,none⟩),.bool false,.pointer (some ⟨sb,0,none⟩),.pointer (some ⟨sb,0,none⟩),.pointer (some ⟨sb,0,none⟩),.pointer (some ⟨sb,2,none⟩),.slice ta tr.length tc,.agg #[.int .i64 s.q,.bool s.yes,.bool s.turned,.int .u64 s.blame.a.toNat,.int .u64 s.blame.b.toNat,.int .u64 s.blame.c.toNat],.slice (some ⟨V.heap.size,0,none⟩) 1 1,.slice (some ⟨gt,0,none⟩) ((tr.length+1:Nat)) cap',.pointer (some ⟨sb,0,none⟩),.pointer (some ⟨sb,2,none⟩),undef,undef,undef,undef,undef,undef,undef,undef,undef,undef,undef,undef,undef,undef,undef,undef,undef,undef,undef,undef,undef,undef,undef,undef,undef,undef,undef,undef,undef,undef,undef],defers:=[] } W3 by
  have HSK:=q8 hK;clear hK
  go_region_law (first|(refine step_append_lies _ (by rfl) _ _ _ (by rfl) 0 250 i0 _ 6 40 underlying185 hi hz0 hz1 hz2 rfl (by omega) (.slice ta tr.length tc) tr.length (zg6 tr) (by rfl) (by first|exact HO.out.alloc _|exact(HO.out.alloc _).drew) ⟨V.heap.size,0,none⟩ 1 1 [.int .i64 s.q,.bool s.yes,.bool s.turned,.int .u64 s.blame.a.toNat,.int .u64 s.blame.b.toNat,.int .u64 s.blame.c.toNat] (by rfl) (by rfl) (World.news_of_block (cs:=#[.int .i64 s.q,.bool s.yes,.bool s.turned,.int .u64 s.blame.a.toNat,.int .u64 s.blame.b.toNat,.int .u64 s.blame.c.toNat]) (t:=250) (fr:=(0,0)) (heap_alloc_new V _)) (by simp[Value.oneCell']) (by omega) (by unfold maxLen;omega) (by omega) (Nat.zero_le _) (V.heap.size+1) (by simp) ?_;intro gt cap' w3 hown3 hgrow hat hlt3;have kb3:w3.heap[sb]?=some (.cells #[.iface 139 (.pointer (some ⟨hb,0,none⟩)),.int .i64 AK.length,.slice ta tr.length tc,lv] 187):=(hgrow.block sb (by simp;omega) (fun e=>Z7 HO.out KB.out (by decide) e.symm)).trans ((Below.heap_alloc V _ sb hbl).trans KB.out);have d3:=z6 kb3 2;have d3f:=Q8 kb3 2)|go_simp|fail)
  all_goals
   obtain⟨r1,r2⟩:=HR.out.pushT (s:=s) (by first|exact(q9.refl _ V).alloc _|exact((q9.refl _ V).alloc _).drew) (htv▸hgrow) hown3 (hat.imp (fun e=>by rw[htv];exact e) (fun e=>by simp;omega));exact HSK.out gt cap' _ r1 r2 (hat.imp (fun e=>by rw[htv];exact e) (fun e=>by omega))
 intro gt cap' W3 hR3 hx3 hgt;refine aK _ _ ?_;clear aK c1 c2 a0 a1 a2 a3 a4 a5 hi hz0 hz1 hz2 hal hbl;have kA3:=(hx3.block _ (z8 KA.out) (fun e=>e.elim (fun e=>by have:=KB.out;rw[<- e,KA.out] at this;simp at this) (fun e=>absurd (((htv▸HH.out.row).lt _ (htv▸e)).2) (Nat.lt_irrefl _)))).trans KA.out;have kb:=hR3.blk;have c1:=z6 kb 1;have c0:=z6 kb 0;have c3:=z6 kb 3;have a0:=z6 kA3 0;have a1:=z6 kA3 1;have a2:=z6 kA3 2;have a3:=z6 kA3 3;have a4:=z6 kA3 4;have a5:=z6 kA3 5;have hal:=z8 kA3;have hbl:=z8 kb;have HR3:=q8 hR3;have HX3:=q8 hx3;have KB3:=q8 kb;have KA3:=q8 kA3;clear hR3 hx3 kb kA3 HR HO KB HVE;obtain⟨la,lc,hlv⟩:∃ la lc,lv=.slice la ls.length lc:=by obtain⟨vs,ho,_⟩:=HR3.out.lf.ex;exact Q0 ho
 have kb:=KB3.out;rw[hlv] at c3 kb;have HASS:Hid (∀ (W:World) (lv':Value) (ls':List (List (BitVec 64))),SrR B W sb hb g c TK AK tw (.slice (some ⟨gt,0,none⟩) (tr.length+1) cap') lv' (tr++[s]) (asQ AK tr) ls' (TT++[X])->Mv sb hb g c tv lv g c (.slice (some ⟨gt,0,none⟩) (tr.length+1) cap') lv' w W->Calls prog 253 #[.pointer (some ⟨hb,0,none⟩),.int .i64 s.q,.bool s.yes] W fun e w'=>(∃ ok,e=.returned (.bool ok))/\TkC B w sb hb g c tv lv TK AK tw tr TT X F s ls' e w'):=by
  intro W lv' ls' hS hB;refine(qq0 hS.th hG hF hfar hT hA htw hq2 hl (by rw[zC7];exact hAs) hok hxo hxb (q:=s.q) (yes:=s.yes)).mono ?_;rintro e w' ⟨Y,ok,g',sv,bv,he,h1,h2,h3,h4,h5,h6⟩;rw[<- qX8] at h1 h5 h6;rw[zC7] at h6;refine⟨⟨ok,he⟩,Y,ok,g',_,_,_,he,hS.theory h2 h1 h3 h4,hB.trans ⟨h2.mono (fun k _ e=>?_),fun k e=>?_⟩,h5,h6⟩
  ·rcases e with e|e|e
   ·exact .inr (.inl e)
   ·exact .inr (.inr (.inl e))
   ·exact .inr (.inr (.inr (.inl e)))
  ·rcases e with e|e|e|e|e
   ·exact .inl (.inl e)
   ·exact .inl (.inr (.inl e))
   ·rcases h3 with q|q
    ·exact .inl (.inr (.inr (.inl (e.trans q))))
    ·exact .inr (by omega)
   ·exact(h4 k e).imp (fun q=>.inr (.inr (.inr (.inl q)))) (fun q=>q)
   ·exact .inl (.inr (.inr (.inr (.inr e))))
 have hB3:Mv sb hb g c tv lv g c (.slice (some ⟨gt,0,none⟩) (tr.length+1) cap') lv w W3:=by
  refine(Mv.quiet HXV.out).trans ⟨HX3.out.mono (fun k _ e=>e.elim .inl (fun e=>.inr (.inr (.inr (.inr (.inl e)))))),fun k e=>?_⟩;rcases e with e|e|e|e|e|e
  ·exact .inl (.inl e)
  ·exact .inl (.inr (.inl e))
  ·exact .inl (.inr (.inr (.inl e)))
  ·exact .inl (.inr (.inr (.inr (.inl e))))
  ·simp[Value.ownBlock] at e;subst e;exact hgt.imp (fun q=>.inr (.inr (.inr (.inr (.inl q))))) (fun q=>q)
  ·exact .inl (.inr (.inr (.inr (.inr (.inr e)))))
 have HB3:=q8 hB3;have KB4:=q8 kb;clear hB3 kb hgt;by_cases hq:s.q<AK.length
 ·have hls2:ls' = ls++[V6 last (X4 (2^(AK.length-6)) s.q s.yes)]:=by rw[<- HLS.out,if_pos hq]
  subst hls2;have hqi:decide ((s.q:Int)<(AK.length:Int))=true:=decide_eq_true (by omega);have HWO:Hid (∀ W,q9 (fun _=>False) W3 W->Calls prog 176 #[.pointer (some ⟨sb,0,none⟩)] W fun e w'=>∃ b v,e=.returned v/\q9 (fun _=>False) W3 w'/\(WS w' b v last/\last.length=2^(AK.length-6))) :=
   fun W hx=>(zq3 (HR3.out.ext hx) hlast (by omega)).mono (fun e w' ⟨b,v,h1,h2,h3,h4⟩=>by subst h4;exact⟨b,v,h1,hx.drew,h2.ext ((q9.refl (fun _=>False) W).drew) (fun f=>f),h3⟩)
  have HWH:Hid (∀ W,q9 (fun _=>False) W3 W->Calls prog 178 #[.pointer (some ⟨sb,0,none⟩),.agg #[.int .i64 s.q,.bool s.yes,.bool s.turned,.int .u64 s.blame.a.toNat,.int .u64 s.blame.b.toNat,.int .u64 s.blame.c.toNat]] W fun e w'=>∃ b v,e=.returned v/\q9 (fun _=>False) W3 w'/\(q9 (fun _=>False) W w'/\WS w' b v (X4 (2^(AK.length-6)) s.q s.yes))) :=
   fun W hx=>(zG7 (HR3.out.ext hx) hA s (by omega)).mono (fun e w' ⟨b,v,h1,h2,h3,h4⟩=>⟨b,v,h1,hx.trans h3,h3,h4⟩)
  have hk1024:2^(AK.length-6)<=1024:=Nat.pow_le_pow_right (n:=2) (by decide) (by omega:AK.length-6<=10);have HAND:Hid (∀ (W:World) (b1 b2:Nat) (v1 v2:Value),q9 (fun _=>False) W3 W->WS W b1 v1 last->last.length=2^(AK.length-6)->WS W b2 v2 (X4 (2^(AK.length-6)) s.q s.yes)->Calls prog 91 #[v1,v2] W fun e w'=>∃ b3 n3 c3,e=.returned (.slice (some ⟨b3,0,none⟩) n3 c3)/\q9 (fun _=>False) W3 w'/\WS w' b3 (.slice (some ⟨b3,0,none⟩) n3 c3) (V6 last (X4 (2^(AK.length-6)) s.q s.yes))):=by intro W b1 b2 v1 v2 hx h1 h2 h3;refine(zm9 h1 h3 (by rw[x8,h2]) (by omega)).mono ?_;rintro e w' ⟨b3,v3,h4,h5,h6,h7⟩;obtain⟨cc,cur,e1,_⟩:=h7.shape;subst e1;exact⟨b3,_,cc,h4,hx.trans h6,h7⟩
  have hlen3:(V6 last (X4 (2^(AK.length-6)) s.q s.yes)).length=2^(AK.length-6):=by obtain⟨_,_,_,_,_,_,_,hll⟩:=HR3.out.lf.at_ hlast;rw[zd2 (by rw[x8,hll]),hll]
  obtain⟨vs,hvo,hvk⟩:=HR3.out.lf.ex;have HVK:=q8 (And.intro hvo hvk);rw[hlv] at hvo;have HO3:=q8 hvo;have HLEN:=q8 hlen3;obtain⟨i1,hi,hz0,hz1,hz2⟩:=info_parts qZ2;clear hvo hvk hlen3;go_wp2_with fail
  go_region
  go_wp2_with fail;have hd2:q9 (fun _=>False) W3 W3.drew.drew:=((q9.refl (fun _=>False) W3).drew).drew;rename_i K2 aK2
  suffices hK2:∀ (gl cap2 n33:Nat) (v1 v2 v3:Value) (W4:World),SrR B W4 sb hb g c TK AK tw (.slice (some ⟨gt,0,none⟩) (tr.length+1) cap') (.slice (some ⟨gl,0,none⟩) (ls.length+1) cap2) (tr++[s]) (asQ AK tr) (ls++[V6 last (X4 (2^(AK.length-6)) s.q s.yes)]) (TT++[X])->q9 (fun k=>k=sb\/lv.ownBlock=some k) W3 W4->(lv.ownBlock=some gl\/W3.heap.size<=gl)->K2 { tmps:=#[.pointer (some ⟨sb,0,none⟩),.agg #[.int .i64 s.q,.bool s.yes,.bool s.turned,.int .u64 s.blame.a.toNat,.int .u64 s.blame.b.toNat,.int .u64 s.blame.c.toNat],undef,.pointer (some ⟨w.heap.size,0,none⟩),.bool false,.pointer (some ⟨sb,0,none⟩),.pointer (some ⟨sb,0,none⟩),.pointer (some ⟨sb,0,none⟩),.pointer (some ⟨sb,2,none⟩),.slice ta tr.length tc,.agg #[.int .i64 s.q,.bool s.yes,.bool s.turned,.int .u64 s.blame.a.toNat,.int .u64 s.blame.b.toNat,.int .u64 s.blame.c.toNat],.slice (some ⟨V.heap.size,0,none⟩) 1 1,.slice (some ⟨gt,0,none⟩) ((tr.length+1:Nat)) cap',.pointer (some ⟨sb,0,none⟩),.pointer (some ⟨sb,2,none⟩),.pointer (some ⟨w.heap.size,0,none⟩),.int .i64 s.q,.pointer (some ⟨sb,0,none⟩),.pointer (some ⟨sb,0,none⟩),.pointer (some ⟨sb,1,none⟩),.int .i64 AK.length,.bool true,.pointer (some ⟨sb,0,none⟩),.pointer (some ⟨sb,0,none⟩),.pointer (some ⟨sb,0,none⟩),.pointer (some ⟨sb,3,none⟩),.slice la ls.length lc,.pointer (some ⟨sb,0,none⟩),v1,.pointer (some ⟨sb,0,none⟩),.agg #[.int .i64 s.q,.bool s.yes,.bool s.turned,.int .u64 s.blame.a.toNat,.int .u64 s.blame.b.toNat,.int .u64 s.blame.c.toNat],v2,v3,.slice (some ⟨n33,0,none⟩) 1 1,.slice (some ⟨gl,0,none⟩) ((ls.length+1:Nat)) cap2,.pointer (some ⟨sb,0,none⟩),.pointer (some ⟨sb,3,none⟩),undef,undef,undef,undef,undef,undef,undef,undef,undef],defers:=[] } W4 by
   have HSK:=q8 hK2;clear hK2
   go_region_law (first
    | (refine step_append_lies _ (by rfl) _ _ _ (by rfl) 0 136 i1 _ 1 24 underlying184 hi hz0 hz1 hz2 rfl (by omega) (.slice la ls.length lc) ls.length vs (by rfl) (by exact(z7 HO3.out hxc (fun _ _ f=>f)).alloc _) ⟨wc.heap.size,0,none⟩ 1 1 [.slice (some ⟨b3,0,none⟩) n3 c3'] (by rfl) (by rfl) (World.news_of_block (cs:=#[.slice (some ⟨b3,0,none⟩) n3 c3']) (t:=136) (fr:=(0,0)) (heap_alloc_new wc _)) (by simp[Value.oneCell']) (by omega) (by unfold maxLen;omega) (by omega) (Nat.zero_le _) (wc.heap.size+1) (by simp) ?_;intro gl cap2 w5 hown5 hgrow5 hat5 hlt5;have kb5:w5.heap[sb]?=some (.cells #[.iface 139 (.pointer (some ⟨hb,0,none⟩)),.int .i64 AK.length,.slice (some ⟨gt,0,none⟩) (tr.length+1) cap',.slice la ls.length lc] 187):=(hgrow5.block sb (by simp;omega) (fun e=>Z7 HO3.out KB4.out (by decide) e.symm)).trans ((Below.heap_alloc wc _ sb hlwc).trans ((hxc.block _ (z8 KB4.out) (fun f=>f)).trans KB4.out));have d3:=z6 kb5 3;have d3f:=Q8 kb5 3)
    | (go_simp;go_wp2_with (first
     | (go_at_call 91;refine(HAND.out _ _ _ _ _ hxb HWA2.out.1 HWA2.out.2 HWB.out).mono ?_;rintro e wc ⟨b3,n3,c3',rfl,hxc,hwc⟩;have HWC:=q8 hwc;clear hwc;have kbwc:=(hxc.block _ (z8 KB3.out) (fun f=>f)).trans KB3.out;have q3wc:=z6 kbwc 3;have hlwc:=z8 kbwc;have kawc:=(hxc.block _ (z8 KA3.out) (fun f=>f)).trans KA3.out;have x0wc:=z6 kawc 0;have x1wc:=z6 kawc 1;have x2wc:=z6 kawc 2;have x3wc:=z6 kawc 3;have x4wc:=z6 kawc 4;have x5wc:=z6 kawc 5;have hmwc:=z8 kawc;clear kbwc kawc)
     | (go_at_call 178;refine(HWH.out _ hxa).mono ?_;rintro e wb ⟨b2,v2,rfl,hxb,hxb2,hwb⟩;have HWA2:=q8 (And.intro (HWA.out.1.ext hxb2 (fun f=>f)) HWA.out.2);have HWB:=q8 hwb;clear hwb hxb2;have kbwb:=(hxb.block _ (z8 KB3.out) (fun f=>f)).trans KB3.out;have q3wb:=z6 kbwb 3;have hlwb:=z8 kbwb;have kawb:=(hxb.block _ (z8 KA3.out) (fun f=>f)).trans KA3.out;have x0wb:=z6 kawb 0;have x1wb:=z6 kawb 1;have x2wb:=z6 kawb 2;have x3wb:=z6 kawb 3;have x4wb:=z6 kawb 4;have x5wb:=z6 kawb 5;have hmwb:=z8 kawb;clear kbwb kawb)
     | (go_at_call 176;refine(HWO.out _ hd2).mono ?_;rintro e wa ⟨b1,v1,rfl,hxa,hwa⟩;have HWA:=q8 hwa;clear hwa;have kbwa:=(hxa.block _ (z8 KB3.out) (fun f=>f)).trans KB3.out;have q3wa:=z6 kbwa 3;have hlwa:=z8 kbwa;have kawa:=(hxa.block _ (z8 KA3.out) (fun f=>f)).trans KA3.out;have x0wa:=z6 kawa 0;have x1wa:=z6 kawa 1;have x2wa:=z6 kawa 2;have x3wa:=z6 kawa 3;have x4wa:=z6 kawa 4;have x5wa:=z6 kawa 5;have hmwa:=z8 kawa;clear kbwa kawa)
     | fail))
    | fail)
   all_goals
    obtain⟨r1,r2⟩:=HR3.out.pushL HVK.out (by exact hxc.alloc _) (hlv▸hgrow5) hown5 (hat5.imp (fun e=>by rw[hlv];exact e) (fun e=>by simp;omega)) (HWC.out.ext ((q9.refl (fun _=>False) wc).alloc _) (fun f=>f)) HLEN.out;exact HSK.out gl cap2 _ _ _ _ _ r1 r2 (hat5.imp (fun e=>by rw[hlv];exact e) (fun e=>by have:=hxc.size;omega))
  intro gl cap2 n33 v1 v2 v3 W4 hR4 hx4 hgl;refine aK2 _ _ ?_;clear aK2;have kb4:=hR4.blk;have kA4:=(hx4.block _ (z8 KA3.out) (fun e=>e.elim (fun e=>by have:=KB3.out;rw[<- e,KA3.out] at this;simp at this) (fun e=>by obtain⟨vs2,ho2,_⟩:=HR3.out.lf.ex;exact Z7 ho2 KA3.out (by decide) e))).trans KA3.out;have c0:=z6 kb4 0;have a0:=z6 kA4 0;have a1:=z6 kA4 1;have hal:=z8 kA4;have hbl:=z8 kb4;have hRd:=hR4.ext ((q9.refl (fun _=>False) W4).drew);have hB4:Mv sb hb g c tv lv g c (.slice (some ⟨gt,0,none⟩) (tr.length+1) cap') (.slice (some ⟨gl,0,none⟩) (ls.length+1) cap2) w W4.drew:=by
   refine(HB3.out.trans ⟨hx4.mono (fun k _ e=>e.elim .inl (fun e=>.inr (.inr (.inr (.inr (.inr e)))))),fun k e=>?_⟩).trans (Mv.quiet ((q9.refl (fun _=>False) W4).drew));rcases e with e|e|e|e|e|e
   ·exact .inl (.inl e)
   ·exact .inl (.inr (.inl e))
   ·exact .inl (.inr (.inr (.inl e)))
   ·exact .inl (.inr (.inr (.inr (.inl e))))
   ·exact .inl (.inr (.inr (.inr (.inr (.inl e)))))
   ·simp[Value.ownBlock] at e;subst e;exact hgl.imp (fun q=>.inr (.inr (.inr (.inr (.inr q))))) (fun q=>q)
  have HAS:=q8 (HASS.out _ _ _ hRd hB4);clear kb4 kA4 hRd hB4 hR4 hx4 hgl HASS a2 a3 a4 a5 c1 c3;go_wp2_with fail
  go_region_law (go_simp;go_wp2_with (go_at_call 253;refine HAS.out.mono ?_;rintro e wf ⟨⟨ok,rfl⟩,hfin⟩;have HFIN:=q8 hfin;clear hfin))
  all_goals
   go_wp2_with fail;go_ret;exact HFIN.out
 ·have hls2:ls' = ls:=by rw[<- HLS.out,if_neg hq]
  subst hls2;have hqi:decide ((s.q:Int)<(AK.length:Int))=false:=decide_eq_false (by omega);go_wp2_with fail
  go_region
  go_wp2_with fail;have hR4:=HR3.out.ext (((q9.refl (fun _=>False) W3).drew).drew);have hB4:=HB3.out.trans (Mv.quiet (((q9.refl (fun _=>False) W3).drew).drew));have HAS:=q8 (HASS.out _ _ _ hR4 hB4);clear hR4 hB4 HASS a2 a3 a4 a5 c1 c3
  go_region_law (go_simp;go_wp2_with (go_at_call 253;refine HAS.out.mono ?_;rintro e wf ⟨⟨ok,rfl⟩,hfin⟩;have HFIN:=q8 hfin;clear hfin))
  all_goals
   go_wp2_with fail;go_ret;exact HFIN.out
end
end
section
open Go.RowKit Ar
attribute [local go_sem] qY9
section
variable{B:Nat}{w w':World}{sb hb g:Nat}{c:ThV}{TK:List Z3}{AK:List PA}{tw:List (Nat × Nat)}{tv lv:Value}{tr:List St}{As:List (PA × Bool)}{ls:List (List (BitVec 64))}{TT:List W9}
theorem SrR.cutT{ta:Option Addr}{tc n:Nat}(h:SrR B w sb hb g c TK AK tw tv lv tr As ls TT)(htv:tv=.slice ta tr.length tc)(hn:n<=tr.length):
  SrR B (w.setCell ⟨sb,2,none⟩ (.slice ta n tc)) sb hb g c TK AK tw (.slice ta n tc) lv (tr.take n) As ls TT/\q9 (fun k=>k=sb) w (w.setCell ⟨sb,2,none⟩ (.slice ta n tc)):=by
 have hx:q9 (fun k=>k=sb) w (w.setCell ⟨sb,2,none⟩ (.slice ta n tc)):=(q9.refl (fun k=>k=sb) w).setCell (p:=⟨sb,2,none⟩) (fun _=>rfl) _;refine⟨h.turnT (hx.mono (fun _ _ e=>.inl e)) (Y4 h.blk 2 _) ?_ (fun k hk=>.inl ?_),hx⟩
 ·have ho:=h.row;have hno:∀ k,tv.ownBlock=some k->¬k=sb:=fun k hk e=>Z7 ho h.blk (by decide) (e▸hk)
  rw[htv] at ho hno;have:=zZ0 ho hn;rw[jj5] at this;rw[List.length_take,Nat.min_eq_left hn];exact z7 this hx (fun k hk=>hno k (zj1 hk))
 ·rw[htv];exact zj1 hk
theorem SrR.cutL{la:Option Addr}{lc n:Nat}(h:SrR B w sb hb g c TK AK tw tv lv tr As ls TT)(hlv:lv=.slice la ls.length lc)(hn:n<=ls.length):
  SrR B (w.setCell ⟨sb,3,none⟩ (.slice la n lc)) sb hb g c TK AK tw tv (.slice la n lc) tr As (ls.take n) TT/\q9 (fun k=>k=sb) w (w.setCell ⟨sb,3,none⟩ (.slice la n lc)):=by
 have hx:q9 (fun k=>k=sb) w (w.setCell ⟨sb,3,none⟩ (.slice la n lc)):=(q9.refl (fun k=>k=sb) w).setCell (p:=⟨sb,3,none⟩) (fun _=>rfl) _;refine⟨h.turnL (hx.mono (fun _ _ e=>.inl e)) (Y4 h.blk 3 _) ?_ (fun k hk=>.inl ?_),hx⟩
 ·obtain⟨vs,ho,hk⟩:=h.lf.ex;have hno:∀ k,lv.ownBlock=some k->¬k=sb:=fun k hk e=>Z7 ho h.blk (by decide) (e▸hk)
  rw[hlv] at ho hno;have:=zZ0 ho hn;rw[Nat.mul_one] at this;refine⟨vs.take n,?_,fun k l hkl=>?_⟩
  ·rw[List.length_take,Nat.min_eq_left hn];exact z7 this hx (fun k hk=>hno k (zj1 hk))
  ·obtain⟨h1,h2⟩:=U8 hkl;obtain⟨e1,b,v,e2,e3⟩:=hk k l h2;obtain⟨cur,hc⟩:=e3.blockT;refine⟨e1,b,v,by rw[List.getElem?_take,if_pos h1];exact e2,e3.ext hx (fun e=>?_)⟩;subst e;have:=h.blk;rw[hc] at this;simp at this
 ·rw[hlv];exact zj1 hk
def LvC(B:Nat)(w:World)(sb hb g:Nat)(c:ThV)(tv lv:Value)(TK:List Z3)(AK:List PA)(tw:List (Nat × Nat))(tr:List St)(As:List (PA × Bool))(ls:List (List (BitVec 64)))(TT:List W9)(n:Nat)(w':World):Prop :=
 ∃ c' tv' lv',SrR B w' sb hb g c' TK AK tw tv' lv' (tr.take n) (As.take n) (ls.take (min n AK.length+1)) (TT.take (n+1))/\Mv sb hb g c tv lv g c' tv' lv' w w'/\q9 (fun k=>k=sb\/k=hb) w w'
theorem zG8{n:Nat}(h:SrR B w sb hb g c TK AK tw tv lv tr As ls TT)(hn:n<=tr.length)(hnA:n<=As.length)(hnT:n+1<=TT.length)(hnl:min n AK.length+1<=ls.length)(hT:TT.length<=1000):
  Calls prog 182 #[.pointer (some ⟨sb,0,none⟩),.int .i64 n] w fun e w'=>(∃ v,e=.returned v)/\LvC B w sb hb g c tv lv TK AK tw tr As ls TT n w':=by
 have kb:=h.blk;obtain⟨ta,tc,htv⟩:=Q0 h.row;obtain⟨la,lc,hlv⟩:∃ la lc,lv=.slice la ls.length lc:=by obtain⟨vs,ho,_⟩:=h.lf.ex;exact Q0 ho
 have htc:tr.length<=tc/\tc<=maxLen:=by
  rcases h.row.2 with⟨e,e0⟩|⟨g',cap',cur,hv,_,hh,h1,h2,_⟩
  ·rw[htv] at e;simp at e;omega
  ·rw[htv] at hv;simp at hv;omega
 have hlc:ls.length<=lc/\lc<=maxLen:=by
  obtain⟨vs,ho,_⟩:=h.lf.ex;rcases ho.2 with⟨e,e0⟩|⟨g',cap',cur,hv,_,hh,h1,h2,_⟩
  ·rw[hlv] at e;simp at e;omega
  ·rw[hlv] at hv;simp at hv;omega
 unfold maxLen at htc hlc;obtain⟨m,hm⟩:∃ m,min n AK.length=m:=⟨_,rfl⟩;rw[hm] at hnl;have hmi:min (n:Int) (AK.length:Int)=(m:Int):=by omega
 obtain⟨r1,x1⟩:=h.cutT htv hn;obtain⟨r2,x2⟩:=r1.cutL hlv (n:=m+1) hnl;have r3:=r2.ext ((q9.refl (fun _=>False) _).drew);have hx2:q9 (fun k=>k=sb) w ((w.setCell ⟨sb,2,none⟩ (.slice ta n tc)).setCell ⟨sb,3,none⟩ (.slice la (m+1) lc)).drew:=(x1.trans' x2 (fun _ _ e=>e)).drew;have HBK:Hid (∀ W,W=((w.setCell ⟨sb,2,none⟩ (.slice ta n tc)).setCell ⟨sb,3,none⟩ (.slice la (m+1) lc)).drew->Calls prog 254 #[.pointer (some ⟨hb,0,none⟩),.int .i64 n] W fun e w'=>(∃ v,e=.returned v)/\LvC B w sb hb g c tv lv TK AK tw tr As ls TT n w'):=by
  rintro W rfl;refine(qP4 r3.th hnA hnT hT).mono ?_;rintro e w' ⟨he,sv,bv,h1,h2,h3⟩;have hS:=r3.theory (h3.mono (fun _ _ e=>.inl e)) h1 (.inl rfl) (fun k hk=>.inl (by rw[<- h2];exact hk));have e:ls.take (m+1)=ls.take (min n AK.length+1):=by rw[hm]
  rw[e] at hS;have hxx:q9 (fun k=>k=sb\/k=hb) w w':=(hx2.mono (fun _ _ e=>.inl e)).trans' h3 (fun _ _ e=>.inr e);refine⟨he,_,_,_,hS,⟨hxx.mono (fun k _ e=>e.elim .inl (fun e=>.inr (.inl e))),fun k e=>.inl ?_⟩,hxx⟩;rcases e with e|e|e|e|e|e
  ·exact .inl e
  ·exact .inr (.inl e)
  ·exact .inr (.inr (.inl e))
  ·exact .inr (.inr (.inr (.inl (by rw[<- h2];exact e))))
  ·exact .inr (.inr (.inr (.inr (.inl (by rw[htv];exact zj1 e)))))
  ·exact .inr (.inr (.inr (.inr (.inr (by rw[hlv];exact zj1 e)))))
 rw[htv,hlv] at kb;have c0:=z6 kb 0;have c1:=z6 kb 1;have c2:=z6 kb 2;have c3:=z6 kb 3;have f2:=Q8 kb 2;have f3:=Q8 kb 3;have hbl:=z8 kb;obtain⟨t1,t2⟩:=htc;obtain⟨l1,l2⟩:=hlc;clear h kb htv hlv r1 r2 r3 x1 x2 hx2;go_enter func182,ntmps182;go_wp2_with fail
 go_region
 go_wp2_with fail;refine(HBK.out _ rfl).mono ?_;rintro e w1 ⟨⟨v,rfl⟩,hfin⟩;have HF:=q8 hfin;clear hfin;go_wp2_with fail
 go_end0
 exact⟨⟨_,rfl⟩,HF.out⟩
end
end
section
open Go.RowKit Ar
section
variable{B:Nat}{w w':World}{sb hb g:Nat}{c:ThV}{TK:List Z3}{AK:List PA}{tw:List (Nat × Nat)}{tv lv:Value}{tr:List St}{As:List (PA × Bool)}{ls:List (List (BitVec 64))}{TT:List W9}
theorem qw4{p:Nat}{s:St}{m:M3}(h:SrR B w sb hb g c TK AK tw tv lv tr As ls TT)(hp:m.has p=true)(hmax:∀ j,m.has j=true->j<=p)(hs:tr[p]?=some s)(hnA:p<=As.length)(hnT:p+1<=TT.length)(hnl:min p AK.length+1<=ls.length)(hT:TT.length<=1000):
  Calls prog 137 #[.pointer (some ⟨sb,0,none⟩),m.val] w fun e w'=>e=.returned (.tuple #[zh4 s,((m.sub (M3.of p)).or s.blame).val])/\LvC B w sb hb g c tv lv TK AK tw tr As ls TT p w':=by
 have hpl:=(List.getElem?_eq_some_iff.1 hs).1;have hp192:=M3.has_lt hp;have HL:Hid (∀ W,Calls prog 180 #[m.val] W fun e w'=>e=.returned (.tuple #[.int .i64 p,.bool true])/\q9 (fun _=>False) W w'):=by
  intro W;refine(zL3 m W).mono ?_;rintro e w' ⟨hx,⟨_,hno⟩|⟨k,he,hk,hk2⟩⟩
  ·rw[hno p] at hp;simp at hp
  ·have:k=p:=Nat.le_antisymm (hmax k hk) (hk2 p hp);subst this;exact⟨he,hx⟩
 obtain⟨W0,hW0⟩:∃ W0,((w.alloc (.cells #[.int .u64 m.a.toNat,.int .u64 m.b.toNat,.int .u64 m.c.toNat] 197)).alloc (.cells #[.int .i64 0,.bool false,.bool false,.int .u64 0,.int .u64 0,.int .u64 0] 250)).alloc (.cells #[.int .u64 0,.int .u64 0,.int .u64 0] 197)=W0:=⟨_,rfl⟩;have hxW0:q9 (fun _=>False) w W0:=by rw[<- hW0];exact(((q9.refl _ w).alloc _).alloc _).alloc _
 have k0:W0.heap[w.heap.size]?=some (.cells #[.int .u64 m.a.toNat,.int .u64 m.b.toNat,.int .u64 m.c.toNat] 197):=by rw[<- hW0,heap_alloc_old _ _ (by simp;omega),heap_alloc_old _ _ (by simp)];exact heap_alloc_new w _
 have k1:W0.heap[w.heap.size+1]?=some (.cells #[.int .i64 0,.bool false,.bool false,.int .u64 0,.int .u64 0,.int .u64 0] 250):=by rw[<- hW0,heap_alloc_old _ _ (by simp)];have:=heap_alloc_new (w.alloc (.cells #[.int .u64 m.a.toNat,.int .u64 m.b.toNat,.int .u64 m.c.toNat] 197)) (.cells #[.int .i64 0,.bool false,.bool false,.int .u64 0,.int .u64 0,.int .u64 0] 250);simpa using this
 have k2:W0.heap[w.heap.size+1+1]?=some (.cells #[.int .u64 0,.int .u64 0,.int .u64 0] 197):=by rw[<- hW0];have:=heap_alloc_new ((w.alloc (.cells #[.int .u64 m.a.toNat,.int .u64 m.b.toNat,.int .u64 m.c.toNat] 197)).alloc (.cells #[.int .i64 0,.bool false,.bool false,.int .u64 0,.int .u64 0,.int .u64 0] 250)) (.cells #[.int .u64 0,.int .u64 0,.int .u64 0] 197);simpa using this
 have H:=q8 h;have hsl:=(h.lt (k:=sb) (.inl rfl)).1;have hhl:=(h.lt (k:=hb) (.inr (.inl rfl))).1;have HWE:=q8 hW0;have HXW0:=q8 hxW0;have K0:=q8 k0;have K1:=q8 k1;have K2:=q8 k2;have HS:=q8 hs;unfold M3.val u64 at HL ⊢;unfold zh4;clear h hp hmax hW0 hxW0 k0 k1 k2 hs;go_enter func137,ntmps137;go_wp2_with fail;rw[HWE.out];refine(HL.out _).mono ?_;rintro e w1 ⟨rfl,hx1⟩;have hxw1:q9 (fun _=>False) w w1:=HXW0.out.trans hx1;have h1:=H.out.ext hxw1;obtain⟨gt,cap,htv,hgt,q0,q1,q2,q3,q4,q5⟩:=h1.step HS.out;have kb:=h1.blk;rw[htv] at kb;have c2:=z6 kb 2;have hbl:=z8 kb;have K0:=q8 ((hx1.block _ (z8 K0.out) (fun f=>f)).trans K0.out);have K1:=q8 ((hx1.block _ (z8 K1.out) (fun f=>f)).trans K1.out);have K2:=q8 ((hx1.block _ (z8 K2.out) (fun f=>f)).trans K2.out);have HXW1:=q8 hxw1;obtain⟨V1,hV1⟩:∃ V1,w1.alloc (.cells #[.int .i64 s.q,.bool s.yes,.bool s.turned,.int .u64 s.blame.a.toNat,.int .u64 s.blame.b.toNat,.int .u64 s.blame.c.toNat] 250)=V1:=⟨_,rfl⟩;have hx11:q9 (fun _=>False) w1 V1:=by rw[<- hV1];exact(q9.refl _ w1).alloc _
 have k3:V1.heap[w1.heap.size]?=some (.cells #[.int .i64 s.q,.bool s.yes,.bool s.turned,.int .u64 s.blame.a.toNat,.int .u64 s.blame.b.toNat,.int .u64 s.blame.c.toNat] 250):=by rw[<- hV1];exact heap_alloc_new w1 _
 have hxV1:q9 (fun _=>False) w V1:=hxw1.trans hx11;have HLV:=q8 (zG8 (H.out.ext hxV1) (Nat.le_of_lt hpl) hnA hnT hnl hT);have K0:=q8 ((hx11.block _ (z8 K0.out) (fun f=>f)).trans K0.out);have K1:=q8 ((hx11.block _ (z8 K1.out) (fun f=>f)).trans K1.out);have K2:=q8 ((hx11.block _ (z8 K2.out) (fun f=>f)).trans K2.out);have K3:=q8 k3;have K1v:=K1;have K2v:=K2;have HVE:=q8 hV1;have HXV1:=q8 hxV1;have hs1:=hxw1.size;clear hx1 hxw1 h1 kb HL HWE HXW0 hV1 hx11 k3 hxV1;go_wp2_with fail;rw[HVE.out];refine HLV.out.mono ?_;rintro e w2 ⟨⟨v,rfl⟩,hlv⟩;have HLC:=q8 hlv;obtain⟨c',tv',lv',hS2,hM2,hx2⟩:=hlv;have n0:¬(w.heap.size=sb\/w.heap.size=hb):=by omega
 have n1:¬(w.heap.size+1=sb\/w.heap.size+1=hb):=by omega
 have n2:¬(w.heap.size+1+1=sb\/w.heap.size+1+1=hb):=by omega
 have n3:¬(w1.heap.size=sb\/w1.heap.size=hb):=by omega
 have K0:=q8 ((hx2.block _ (z8 K0.out) n0).trans K0.out);have K1:=q8 ((hx2.block _ (z8 K1.out) n1).trans K1.out);have K2:=q8 ((hx2.block _ (z8 K2.out) n2).trans K2.out);have K3:=q8 ((hx2.block _ (z8 K3.out) n3).trans K3.out);have e0:=z6 K0.out 0;have e1:=z6 K0.out 1;have e2:=z6 K0.out 2;have d0:=z6 K3.out 0;have d1:=z6 K3.out 1;have d2:=z6 K3.out 2;have d3:=z6 K3.out 3;have d4:=z6 K3.out 4;have d5:=z6 K3.out 5;have HOF:Hid (∀ W,Calls prog 179 #[.int .i64 p] W fun e w'=>e=.returned (.agg #[.int .u64 (M3.of p).a.toNat,.int .u64 (M3.of p).b.toNat,.int .u64 (M3.of p).c.toNat])/\q9 (fun _=>False) W w'):=fun W=>zZ1 p hp192 W
 have HWT:Hid (∀ W,Calls prog 183 #[.agg #[.int .u64 m.a.toNat,.int .u64 m.b.toNat,.int .u64 m.c.toNat],.agg #[.int .u64 (M3.of p).a.toNat,.int .u64 (M3.of p).b.toNat,.int .u64 (M3.of p).c.toNat]] W fun e w'=>e=.returned (.agg #[.int .u64 (m.sub (M3.of p)).a.toNat,.int .u64 (m.sub (M3.of p)).b.toNat,.int .u64 (m.sub (M3.of p)).c.toNat])/\q9 (fun _=>False) W w'):=fun W=>qg6 m (M3.of p) W
 have HWI:Hid (∀ W,Calls prog 139 #[.agg #[.int .u64 (m.sub (M3.of p)).a.toNat,.int .u64 (m.sub (M3.of p)).b.toNat,.int .u64 (m.sub (M3.of p)).c.toNat],.agg #[.int .u64 s.blame.a.toNat,.int .u64 s.blame.b.toNat,.int .u64 s.blame.c.toNat]] W fun e w'=>e=.returned (.agg #[.int .u64 ((m.sub (M3.of p)).or s.blame).a.toNat,.int .u64 ((m.sub (M3.of p)).or s.blame).b.toNat,.int .u64 ((m.sub (M3.of p)).or s.blame).c.toNat])/\q9 (fun _=>False) W w'):=fun W=>zg9 (m.sub (M3.of p)) s.blame W
 have D0:Hid (w2.drew.heap[w.heap.size]?=_):=K0;have D1:Hid (w2.drew.heap[w.heap.size+1]?=_):=K1;have D2:Hid (w2.drew.heap[w.heap.size+1+1]?=_):=K2;have D3:Hid (w2.drew.heap[w1.heap.size]?=_):=K3;have HFIN:Hid (∀ wc:World,q9 (fun _=>False) w2.drew wc->∀ wf:World,q9 (fun k=>k=w.heap.size+1\/k=w.heap.size+1+1) wc wf->LvC B w sb hb g c tv lv TK AK tw tr As ls TT p wf):=by
  intro wc hxc wf hxf;obtain⟨c',tv',lv',hS2,hM2,hx2⟩:=HLC.out;have hx2c:q9 (fun _=>False) w2 wc:=((q9.refl (fun _=>False) w2).drew).trans hxc;have q1:=(hx2c.block _ (z8 K1.out) (fun f=>f)).trans K1.out;have q2:=(hx2c.block _ (z8 K2.out) (fun f=>f)).trans K2.out;have hSc:=hS2.ext hx2c;have hMv:Mv sb hb g c tv lv g c' tv' lv' w w2:=(Mv.quiet HXV1.out).trans hM2;have nf:∀ k,k=w.heap.size+1\/k=w.heap.size+1+1->¬SrF sb hb g c' tv' lv' k:=by
   intro k hk e;rcases hM2.new k e with q|q
   ·have:=(H.out.lt q).1;omega
   ·have l1:=z8 K1v.out;have l2:=z8 K2v.out;omega
  refine⟨c',tv',lv',hSc.aside hxf (fun k hk=>⟨nf k hk,?_⟩),⟨(hMv.ext.trans' (hx2c.mono (fun _ _ f=>f.elim)) (fun _ _ e=>e)).trans' hxf (fun i hi e=>by omega),hMv.new⟩,(((HXV1.out.mono (fun _ _ f=>f.elim)).trans hx2).trans (hx2c.mono (fun _ _ f=>f.elim))).trans' hxf (fun i hi e=>by omega)⟩;rcases hk with e|e
  ·subst e;exact⟨_,_,q1,by decide,by decide,by decide,by decide,by decide⟩
  ·subst e;exact⟨_,_,q2,by decide,by decide,by decide,by decide,by decide⟩
 clear hS2 hM2 hx2 c2 q0 q1 q2 q3 q4 q5 n0 n1 n2 n3;go_wp2_with fail;rename_i K aK
 suffices hK:∀ wc:World,q9 (fun _=>False) w2.drew wc->K { tmps:=#[.pointer (some ⟨sb,0,none⟩),.agg #[.int .u64 m.a.toNat,.int .u64 m.b.toNat,.int .u64 m.c.toNat],undef,.pointer (some ⟨w.heap.size,0,none⟩),.pointer (some ⟨w.heap.size+1,0,none⟩),.pointer (some ⟨w.heap.size+1+1,0,none⟩),.int .i64 p,.bool true,.pointer (some ⟨w1.heap.size,0,none⟩),.tuple #[.int .i64 p,.bool true],.agg #[.int .u64 m.a.toNat,.int .u64 m.b.toNat,.int .u64 m.c.toNat],.tuple #[.int .i64 p,.bool true],.int .i64 p,.bool true,.pointer (some ⟨sb,0,none⟩),.pointer (some ⟨sb,0,none⟩),.pointer (some ⟨sb,2,none⟩),.slice (some ⟨gt,0,none⟩) tr.length cap,.int .i64 p,.pointer (some ⟨gt,p*6,none⟩),.agg #[.int .i64 s.q,.bool s.yes,.bool s.turned,.int .u64 s.blame.a.toNat,.int .u64 s.blame.b.toNat,.int .u64 s.blame.c.toNat],.pointer (some ⟨sb,0,none⟩),.int .i64 p,v,.agg #[.int .i64 s.q,.bool s.yes,.bool s.turned,.int .u64 s.blame.a.toNat,.int .u64 s.blame.b.toNat,.int .u64 s.blame.c.toNat],.agg #[.int .u64 m.a.toNat,.int .u64 m.b.toNat,.int .u64 m.c.toNat],.int .i64 p,.agg #[.int .u64 (M3.of p).a.toNat,.int .u64 (M3.of p).b.toNat,.int .u64 (M3.of p).c.toNat],.agg #[.int .u64 (m.sub (M3.of p)).a.toNat,.int .u64 (m.sub (M3.of p)).b.toNat,.int .u64 (m.sub (M3.of p)).c.toNat],.pointer (some ⟨w1.heap.size,3,none⟩),.agg #[.int .u64 s.blame.a.toNat,.int .u64 s.blame.b.toNat,.int .u64 s.blame.c.toNat],.agg #[.int .u64 ((m.sub (M3.of p)).or s.blame).a.toNat,.int .u64 ((m.sub (M3.of p)).or s.blame).b.toNat,.int .u64 ((m.sub (M3.of p)).or s.blame).c.toNat]],defers:=[] } (((((((((wc.setCell ⟨w.heap.size+1,0,none⟩ (.int .i64 s.q)).setCell ⟨w.heap.size+1,1,none⟩ (.bool s.yes)).setCell ⟨w.heap.size+1,2,none⟩ (.bool s.turned)).setCell ⟨w.heap.size+1,3,none⟩ (.int .u64 s.blame.a.toNat)).setCell ⟨w.heap.size+1,4,none⟩ (.int .u64 s.blame.b.toNat)).setCell ⟨w.heap.size+1,5,none⟩ (.int .u64 s.blame.c.toNat)).setCell ⟨w.heap.size+1+1,0,none⟩ (.int .u64 ((m.sub (M3.of p)).or s.blame).a.toNat)).setCell ⟨w.heap.size+1+1,1,none⟩ (.int .u64 ((m.sub (M3.of p)).or s.blame).b.toNat)).setCell ⟨w.heap.size+1+1,2,none⟩ (.int .u64 ((m.sub (M3.of p)).or s.blame).c.toNat)) by
  have HSK:=q8 hK;clear hK
  go_region_law (go_simp;go_wp2_with (first
   | (go_at_call 139;refine(HWI.out _).mono ?_;rintro e wc ⟨rfl,hxc⟩;have k0wc:=(hxc.block _ (z8 wbK0.out) (fun f=>f)).trans wbK0.out;have k1wc:=(hxc.block _ (z8 wbK1.out) (fun f=>f)).trans wbK1.out;have k2wc:=(hxc.block _ (z8 wbK2.out) (fun f=>f)).trans wbK2.out;have k3wc:=(hxc.block _ (z8 wbK3.out) (fun f=>f)).trans wbK3.out;have e0wc:=z6 k0wc 0;have e1wc:=z6 k0wc 1;have e2wc:=z6 k0wc 2;have d0wc:=z6 k3wc 0;have d1wc:=z6 k3wc 1;have d2wc:=z6 k3wc 2;have d3wc:=z6 k3wc 3;have d4wc:=z6 k3wc 4;have d5wc:=z6 k3wc 5;have r0wc:=z6 k1wc 0;have rf0wc:=Q8 k1wc 0;have r1wc:=z6 k1wc 1;have rf1wc:=Q8 k1wc 1;have r2wc:=z6 k1wc 2;have rf2wc:=Q8 k1wc 2;have r3wc:=z6 k1wc 3;have rf3wc:=Q8 k1wc 3;have r4wc:=z6 k1wc 4;have rf4wc:=Q8 k1wc 4;have r5wc:=z6 k1wc 5;have rf5wc:=Q8 k1wc 5;have t0wc:=z6 k2wc 0;have tf0wc:=Q8 k2wc 0;have t1wc:=z6 k2wc 1;have tf1wc:=Q8 k2wc 1;have t2wc:=z6 k2wc 2;have tf2wc:=Q8 k2wc 2;have wcK0:=q8 k0wc;have wcK1:=q8 k1wc;have wcK2:=q8 k2wc;have wcK3:=q8 k3wc;have HXwc:=q8 hxc;clear k0wc k1wc k2wc k3wc hxc)
   | (go_at_call 183;refine(HWT.out _).mono ?_;rintro e wb ⟨rfl,hxb⟩;have k0wb:=(hxb.block _ (z8 waK0.out) (fun f=>f)).trans waK0.out;have k1wb:=(hxb.block _ (z8 waK1.out) (fun f=>f)).trans waK1.out;have k2wb:=(hxb.block _ (z8 waK2.out) (fun f=>f)).trans waK2.out;have k3wb:=(hxb.block _ (z8 waK3.out) (fun f=>f)).trans waK3.out;have e0wb:=z6 k0wb 0;have e1wb:=z6 k0wb 1;have e2wb:=z6 k0wb 2;have d0wb:=z6 k3wb 0;have d1wb:=z6 k3wb 1;have d2wb:=z6 k3wb 2;have d3wb:=z6 k3wb 3;have d4wb:=z6 k3wb 4;have d5wb:=z6 k3wb 5;have wbK0:=q8 k0wb;have wbK1:=q8 k1wb;have wbK2:=q8 k2wb;have wbK3:=q8 k3wb;have HXwb:=q8 hxb;clear k0wb k1wb k2wb k3wb hxb)
   | (go_at_call 179;refine(HOF.out _).mono ?_;rintro e wa ⟨rfl,hxa⟩;have k0wa:=(hxa.block _ (z8 D0.out) (fun f=>f)).trans D0.out;have k1wa:=(hxa.block _ (z8 D1.out) (fun f=>f)).trans D1.out;have k2wa:=(hxa.block _ (z8 D2.out) (fun f=>f)).trans D2.out;have k3wa:=(hxa.block _ (z8 D3.out) (fun f=>f)).trans D3.out;have e0wa:=z6 k0wa 0;have e1wa:=z6 k0wa 1;have e2wa:=z6 k0wa 2;have d0wa:=z6 k3wa 0;have d1wa:=z6 k3wa 1;have d2wa:=z6 k3wa 2;have d3wa:=z6 k3wa 3;have d4wa:=z6 k3wa 4;have d5wa:=z6 k3wa 5;have waK0:=q8 k0wa;have waK1:=q8 k1wa;have waK2:=q8 k2wa;have waK3:=q8 k3wa;have HXwa:=q8 hxa;clear k0wa k1wa k2wa k3wa hxa)
   | fail))
  all_goals exact HSK.out wc ((HXwa.out.trans HXwb.out).trans HXwc.out)
 intro wc hxc;refine aK _ _ ?_;clear aK;have j1:wc.heap[w.heap.size+1]?=_:=(hxc.block _ (z8 D1.out) (fun f=>f)).trans D1.out;have j2:wc.heap[w.heap.size+1+1]?=_:=(hxc.block _ (z8 D2.out) (fun f=>f)).trans D2.out;obtain⟨wf,hwf⟩:∃ wf,(((((((((wc.setCell ⟨w.heap.size+1,0,none⟩ (.int .i64 s.q)).setCell ⟨w.heap.size+1,1,none⟩ (.bool s.yes)).setCell ⟨w.heap.size+1,2,none⟩ (.bool s.turned)).setCell ⟨w.heap.size+1,3,none⟩ (.int .u64 s.blame.a.toNat)).setCell ⟨w.heap.size+1,4,none⟩ (.int .u64 s.blame.b.toNat)).setCell ⟨w.heap.size+1,5,none⟩ (.int .u64 s.blame.c.toNat)).setCell ⟨w.heap.size+1+1,0,none⟩ (.int .u64 ((m.sub (M3.of p)).or s.blame).a.toNat)).setCell ⟨w.heap.size+1+1,1,none⟩ (.int .u64 ((m.sub (M3.of p)).or s.blame).b.toNat)).setCell ⟨w.heap.size+1+1,2,none⟩ (.int .u64 ((m.sub (M3.of p)).or s.blame).c.toNat))=wf:=⟨_,rfl⟩;have hxf:q9 (fun k=>k=w.heap.size+1\/k=w.heap.size+1+1) wc wf:=by rw[<- hwf];exact(((((((((q9.refl _ wc).setCell (p:=⟨w.heap.size+1,0,none⟩) (fun _=>.inl rfl) _).setCell (p:=⟨w.heap.size+1,1,none⟩) (fun _=>.inl rfl) _).setCell (p:=⟨w.heap.size+1,2,none⟩) (fun _=>.inl rfl) _).setCell (p:=⟨w.heap.size+1,3,none⟩) (fun _=>.inl rfl) _).setCell (p:=⟨w.heap.size+1,4,none⟩) (fun _=>.inl rfl) _).setCell (p:=⟨w.heap.size+1,5,none⟩) (fun _=>.inl rfl) _).setCell (p:=⟨w.heap.size+1+1,0,none⟩) (fun _=>.inr rfl) _).setCell (p:=⟨w.heap.size+1+1,1,none⟩) (fun _=>.inr rfl) _).setCell (p:=⟨w.heap.size+1+1,2,none⟩) (fun _=>.inr rfl) _
 have y1:wf.heap[w.heap.size+1]?=some (.cells #[.int .i64 s.q,.bool s.yes,.bool s.turned,.int .u64 s.blame.a.toNat,.int .u64 s.blame.b.toNat,.int .u64 s.blame.c.toNat] 250):=by rw[<- hwf];exact(j8 _ _ (by show ¬w.heap.size+1=w.heap.size+1+1;omega)).trans ((j8 _ _ (by show ¬w.heap.size+1=w.heap.size+1+1;omega)).trans ((j8 _ _ (by show ¬w.heap.size+1=w.heap.size+1+1;omega)).trans (Y4 (Y4 (Y4 (Y4 (Y4 (Y4 j1 0 _) 1 _) 2 _) 3 _) 4 _) 5 _)))
 have y2:wf.heap[w.heap.size+1+1]?=some (.cells #[.int .u64 ((m.sub (M3.of p)).or s.blame).a.toNat,.int .u64 ((m.sub (M3.of p)).or s.blame).b.toNat,.int .u64 ((m.sub (M3.of p)).or s.blame).c.toNat] 197):=by
  rw[<- hwf];have sk:∀ (W:World) (i:Nat) (u:Value),(W.setCell ⟨w.heap.size+1,i,none⟩ u).heap[w.heap.size+1+1]?=W.heap[w.heap.size+1+1]?:=fun W i u=>j8 _ _ (by show ¬w.heap.size+1+1=w.heap.size+1;omega)
  exact Y4 (Y4 (Y4 ((sk _ _ _).trans ((sk _ _ _).trans ((sk _ _ _).trans ((sk _ _ _).trans ((sk _ _ _).trans ((sk _ _ _).trans j2)))))) 0 _) 1 _) 2 _
 have z0:=z6 y1 0;have z1:=z6 y1 1;have z2:=z6 y1 2;have z3:=z6 y1 3;have z4:=z6 y1 4;have z5:=z6 y1 5;have x0:=z6 y2 0;have x1:=z6 y2 1;have x2:=z6 y2 2;have HF:=q8 (HFIN.out wc hxc wf hxf);rw[hwf];clear hwf hxf y1 y2 j1 j2 HFIN hxc;go_wp2_with fail;refine bodyPost_ret (v:=.tuple #[.agg #[.int .i64 s.q,.bool s.yes,.bool s.turned,.int .u64 s.blame.a.toNat,.int .u64 s.blame.b.toNat,.int .u64 s.blame.c.toNat],.agg #[.int .u64 ((m.sub (M3.of p)).or s.blame).a.toNat,.int .u64 ((m.sub (M3.of p)).or s.blame).b.toNat,.int .u64 ((m.sub (M3.of p)).or s.blame).c.toNat]]) (by simp[results,results137,go_sem,z0,z1,z2,z3,z4,z5,x0,x1,x2]) rfl ⟨rfl,HF.out⟩
end
def qX1(K:Act->World->Prop):Exit->Act->World->Prop
 | .normal,a,w=>K a w
 | _,_,_=>False
theorem qv2{F:Fence}{n:Nat}{P:Program}{code:Code}{Q:Exit->Act->World->Prop}{a:Act}{w:World}(h:code.wpIn F n P (qX1 (Q .normal)) a w):code.wpIn F n P Q a w :=
 wpIn_mono h (fun e _ _ hq=>by cases e<;>first|exact hq|exact hq.elim)
section
variable{B:Nat}{w w':World}{sb hb g:Nat}{c:ThV}{TK:List Z3}{AK:List PA}{tw:List (Nat × Nat)}{tv lv:Value}{tr:List St}{As:List (PA × Bool)}{ls:List (List (BitVec 64))}{TT:List W9}
theorem SrR.aside0{S:Nat->Prop}(h:SrR B w sb hb g c TK AK tw tv lv tr As ls TT)(hx:q9 S w w')(hS:∀ k,S k->∀ C t,¬w.heap[k]?=some (.cells C t)):SrR B w' sb hb g c TK AK tw tv lv tr As ls TT:=by
 obtain⟨vs,ho,_⟩:=h.lf.ex;obtain⟨_,C,_,hg,_⟩:=h.th.tb.ex;have hn:∀ {k:Nat} {C:Array Value} {t:TypeId},w.heap[k]?=some (.cells C t)->¬S k:=fun hk e=>hS _ e _ _ hk
 have ho':∀ {e size n:Nat} {v:Value} {xs:List Value},w.ownsRow 0 e size v n xs->∀ k,v.ownBlock=some k->¬S k:=fun h k hk=>by obtain⟨cur,hc⟩:=V4 h hk;exact hn hc
 refine⟨(hx.block _ (z8 h.blk) (hn h.blk)).trans h.blk,z7 h.row hx (ho' h.row),h.lf.ext hx (ho' ho) (fun k cur hc=>hn hc),h.th.ext hx (fun k hk=>?_),h.pat.ext hx (hn h.pat),h.bp,Nat.le_trans h.bB hx.size,h.bs,h.bv⟩;rcases hk with e|e|e|e|e|e
 ·subst e;exact hn h.th.blk
 ·subst e;exact hn hg
 ·exact ho' h.th.ts k e
 ·exact ho' h.th.ats k e
 ·exact ho' h.th.tw k e
 ·exact ho' h.th.ss k e
theorem SrR.setL{gl lc j b:Nat}{v:Value}{l:List (BitVec 64)}(h:SrR B w sb hb g c TK AK tw tv lv tr As ls TT)(hlv:lv=.slice (some ⟨gl,0,none⟩) ls.length lc)(hj:j<ls.length)(hW:WS w b v l)(hl:l.length=2^(AK.length-6)):
  SrR B (w.setCell ⟨gl,j,none⟩ v) sb hb g c TK AK tw tv lv tr As (ls.set j l) TT/\q9 (fun k=>lv.ownBlock=some k) w (w.setCell ⟨gl,j,none⟩ v):=by
 have hgl:lv.ownBlock=some gl:=by rw[hlv];rfl
 have hx:q9 (fun k=>lv.ownBlock=some k) w (w.setCell ⟨gl,j,none⟩ v):=(q9.refl (fun k=>lv.ownBlock=some k) w).setCell (p:=⟨gl,j,none⟩) (fun _=>hgl) _;obtain⟨vs,ho,hk⟩:=h.lf.ex;have hvl:vs.length=ls.length:=by have:=ho.1;omega
 have hne:¬sb=gl:=fun e=>Z7 ho h.blk (by decide) (e▸hgl)
 refine⟨h.turnL (hx.mono (fun _ _ e=>.inr e)) ((j8 _ _ (by show ¬sb=gl;exact hne)).trans h.blk) ⟨vs.set j v,?_,fun k l' hkl=>?_⟩ (fun k hk=>.inl hk),hx⟩
 ·rw[List.length_set];rcases ho.2 with⟨_,e⟩|⟨g',cap',cur',hv',hb,hh',hc',hm,hsz,htk⟩
  ·omega
  ·rw[hlv] at hv';simp at hv';obtain⟨rfl,rfl⟩:=hv';refine⟨by simpa using ho.1,.inr ⟨gl,lc,cur'.setIfInBounds j v,hlv,hb,Y4 hh' j _,hc',hm,by simpa using hsz,?_⟩⟩;rw[Array.toList_setIfInBounds,<- htk,List.take_set]
 ·have hws:∀ {b':Nat} {v':Value} {q:List (BitVec 64)},WS w b' v' q->WS (w.setCell ⟨gl,j,none⟩ v) b' v' q:=fun hq=>by
   obtain⟨cur,hc⟩:=hq.blockT;exact hq.ext hx (fun e=>Z7 ho hc (by decide) e)
  by_cases e:k=j
  ·subst e;rw[List.getElem?_set_self (by omega)] at hkl;cases hkl;exact⟨hl,b,v,List.getElem?_set_self (by omega),hws hW⟩
  ·rw[List.getElem?_set_ne (by omega)] at hkl;obtain⟨e1,b',v',e2,e3⟩:=hk k l' hkl;exact⟨e1,b',v',by rw[List.getElem?_set_ne (by omega)];exact e2,hws e3⟩
end
end
end Go.Proofs.YtegbdaffhpiacaaGreatDoor
