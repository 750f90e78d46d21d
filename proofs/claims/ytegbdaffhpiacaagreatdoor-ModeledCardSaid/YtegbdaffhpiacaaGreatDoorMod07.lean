/- A part of the proof. -/
import Derived.Test.YtegbdaffhpiacaaGreatDoorMod06
import Derived.Laws.CopyRow
import Derived.Laws.CopyOwn
import Derived.Deep.RegionLaw
import Derived.Deep.LoopGhost
set_option maxRecDepth 100000
set_option maxHeartbeats 400000
namespace Go.Proofs.YtegbdaffhpiacaaGreatDoor
open Tryz
open Go.RowKit Ar
def zq6(F:Value)(a k:Nat):List Value:=List.replicate k F++List.replicate (a-k) .nilFunc
theorem mk1(w:World):(Instr.makeSlice 339 (.int .i64 1) (.int .i64 1)).run prog w=.ok (.slice (some ⟨w.heap.size,0,none⟩) 1 1) (w.alloc (.cells #[.nilFunc] 160)):=by kernel_rfl
theorem mk2(w:World):(Instr.makeSlice 339 (.int .i64 2) (.int .i64 2)).run prog w=.ok (.slice (some ⟨w.heap.size,0,none⟩) 2 2) (w.alloc (.cells #[.nilFunc,.nilFunc] 160)):=by kernel_rfl
theorem mk3(w:World):(Instr.makeSlice 339 (.int .i64 3) (.int .i64 3)).run prog w=.ok (.slice (some ⟨w.heap.size,0,none⟩) 3 3) (w.alloc (.cells #[.nilFunc,.nilFunc,.nilFunc] 160)):=by kernel_rfl
theorem js2(a:Nat)(h1:1<=a)(h3:a<=3)(F:Value)(w:World):(Instr.makeSlice 339 (.int .i64 (a:Int)) (.int .i64 (a:Int))).run prog w=.ok (.slice (some ⟨w.heap.size,0,none⟩) a a) (w.alloc (.cells (zq6 F a 0).toArray 160)):=by
 have:a=1\/a=2\/a=3:=by omega
 rcases this with rfl|rfl|rfl
 ·exact mk1 w
 ·exact mk2 w
 ·exact mk3 w
theorem jm2(a:Nat)(h1:1<=a)(h3:a<=3)(w:World):Calls prog 220 #[.int .u64 1,.int .u64 (a:Int)] w fun e w'=>e=.returned (.tuple #[.int .u64 0,.int .u64 (a:Int)])/\w=w':=by
 have:a=1\/a=2\/a=3:=by omega
 rcases this with rfl|rfl|rfl
 all_goals
  go_enter func220,ntmps220
  go_wp2
  go_ret2
  exact⟨by kernel_rfl,rfl⟩
theorem zY6(F:Value)(a:Nat)(h1:1<=a)(h3:a<=3):splice (zq6 F a 0) 0 [F]=zq6 F a 1:=by
 have:a=1\/a=2\/a=3:=by omega
 rcases this with rfl|rfl|rfl<;>rfl
theorem qO3{w:World}{g a k m:Nat}{F:Value}{t:TypeId}(h:w.heap[g]?=some (.cells (zq6 F a k).toArray t))(hm:m<=k):∀ j v,(List.replicate m F)[j]?=some v->w.drew.cell? ((⟨g,0,none⟩:Addr).add j)=some v:=by
 intro j v hj;obtain⟨hjl,hv⟩:=List.getElem?_eq_some_iff.1 hj;simp at hjl;simp at hv;subst hv;have e:w.drew.cell? ((⟨g,0,none⟩:Addr).add j)=(zq6 F a k).toArray[j]?:=by
  have h2:=z6 h j;have h3:(⟨g,0,none⟩:Addr).add j=⟨g,j,none⟩:=by unfold Addr.add;split<;>simp_all
  rw[h3];exact h2
 rw[e];have:j<k:=by omega
 simp[zq6,List.getElem?_append_left,this]
theorem zY7:(prog.info? 160).map (·.size)=some 1:=by kernel_rfl
theorem qO4{w:World}{g cap a:Nat}{F:Value}(h1:1<=a)(h3:a<=3)(hF:F.oneCell' = true)(hc:w.cell? ⟨g,0,none⟩=some F)(hg:g<w.heap.size):
  Calls prog 213 #[.slice (some ⟨g,0,none⟩) 1 cap,.int .i64 (a:Int)] w fun e w'=>e=.returned (.slice (some ⟨w.heap.size,0,none⟩) a a)/\q9 (fun _=>False) w w'/\w'.heap[w.heap.size]?=some (.cells (List.replicate a F).toArray 160):=by
 have hm:=js2 a h1 h3 F;have HM:=q8 (jm2 a h1 h3);have ha0:(0:Int)<=(a:Int):=by omega
 have ha3:(a:Int)<=3:=by omega
 have ha1:(1:Int)<=(a:Int):=by omega
 go_enter func213,ntmps213;go_wp2_with first
  | (go_at_call 220;refine(HM.out _).mono ?_;rintro e w' ⟨rfl,rfl⟩)
  | (refine wpList_copy_splice (by rfl) _ _ 339 339 (by rfl) 160 underlying339 zY7 (some ⟨w.heap.size,0,none⟩) (some ⟨g,0,none⟩) a a 1 cap (by rfl) (by rfl) w.heap.size 0 (zq6 F a 0) 160 (heap_alloc_new w _) [F] ?c1 ?c2 ?c3 ?c4 w.heap.size w ?c5 (Nat.le_refl _) ?_)
 case c1=>show 1=Nat.min 1 a;simp only[Nat.min_def];split<;>omega
 case c2=>
  intro q v hq
  match q,hq with
  | 0,hq=>simp at hq;subst hq;exact hc
 case c3=>simp[zq6];omega
 case c4=>intro v hv;simp at hv;subst hv;exact hF
 case c5=>exact(Below.refl _ _).alloc (Nat.le_refl _) _
 intro w1 hg1 hb1;have HG1:Hid (w1.heap[w.heap.size]?=some (.cells (zq6 F a 1).toArray 160)):=by have:=hg1.out;rw[zY6 F a h1 h3] at this;exact this
 have HB1:=q8 hb1;clear hg1 hb1 hm HM;go_wp2_with fail
 go_loopg [8] 3 (fun gk i wr=>∃ k:Nat,gk+k=4/\1<=k/\k<=a/\i=.int .i64 k/\wr.heap[w.heap.size]?=some (.cells (zq6 F a k).toArray 160)/\Below w.heap.size w wr)
 case atStart=>exact⟨1,rfl,by omega,by omega,rfl,HG1.out,HB1.out⟩
 case round=>
  obtain⟨k,hgk,hk1,hka,rfl,hG,hB⟩:=hrel;have HG:=q8 hG;have HB:=q8 hB;clear hG hB;by_cases hlt:(k:Int)<(a:Int)
  ·have hkn:¬a=k:=by omega
   have HF:=q8 hF;have HSRC:Hid (∀ m,m<=k->∀ j v,(List.replicate m F)[j]?=some v->wr.drew.cell? ((⟨w.heap.size,0,none⟩:Addr).add j)=some v):=fun m hm=>qO3 HG.out hm
   have hcs:(a=2/\k=1)\/(a=3/\k=1)\/(a=3/\k=2):=by omega
   clear hF;rcases hcs with⟨rfl,rfl⟩|⟨rfl,rfl⟩|⟨rfl,rfl⟩
   ·go_wp2_with fail
    go_region_law ((refine step_copy_splice (by rfl) _ _ 339 339 (by rfl) 160 underlying339 zY7 (some ⟨w.heap.size,1,none⟩) (some ⟨w.heap.size,0,none⟩) 1 1 1 2 (by simp[Act.eval,Act.put]) (by simp[Act.eval,Act.put]) w.heap.size 1 (zq6 F 2 1) 160 HG.out (List.replicate 1 F) (by rfl) (fun _=>⟨rfl,⟨w.heap.size,0,none⟩,rfl,HSRC.out 1 (by omega)⟩) (by simp[zq6]) (fun v hv=>by rw[(List.mem_replicate.1 hv).2];exact HF.out) w.heap.size w HB.out.drew (Nat.le_refl _) ?_;intro w4 hg4 hb4))
    go_wp2_with fail
    go_roundg (gk-1)
    case measure=>omega
    case rel=>exact⟨2,by omega,by omega,by omega,rfl,hg4.out,hb4⟩
   ·go_wp2_with fail
    go_region_law ((refine step_copy_splice (by rfl) _ _ 339 339 (by rfl) 160 underlying339 zY7 (some ⟨w.heap.size,1,none⟩) (some ⟨w.heap.size,0,none⟩) 2 2 1 3 (by simp[Act.eval,Act.put]) (by simp[Act.eval,Act.put]) w.heap.size 1 (zq6 F 3 1) 160 HG.out (List.replicate 1 F) (by rfl) (fun _=>⟨rfl,⟨w.heap.size,0,none⟩,rfl,HSRC.out 1 (by omega)⟩) (by simp[zq6]) (fun v hv=>by rw[(List.mem_replicate.1 hv).2];exact HF.out) w.heap.size w HB.out.drew (Nat.le_refl _) ?_;intro w4 hg4 hb4))
    go_wp2_with fail
    go_roundg (gk-1)
    case measure=>omega
    case rel=>exact⟨2,by omega,by omega,by omega,rfl,hg4.out,hb4⟩
   ·go_wp2_with fail
    go_region_law ((refine step_copy_splice (by rfl) _ _ 339 339 (by rfl) 160 underlying339 zY7 (some ⟨w.heap.size,2,none⟩) (some ⟨w.heap.size,0,none⟩) 1 1 2 3 (by simp[Act.eval,Act.put]) (by simp[Act.eval,Act.put]) w.heap.size 2 (zq6 F 3 2) 160 HG.out (List.replicate 1 F) (by rfl) (fun _=>⟨rfl,⟨w.heap.size,0,none⟩,rfl,HSRC.out 1 (by omega)⟩) (by simp[zq6]) (fun v hv=>by rw[(List.mem_replicate.1 hv).2];exact HF.out) w.heap.size w HB.out.drew (Nat.le_refl _) ?_;intro w4 hg4 hb4))
    go_wp2_with fail
    go_roundg (gk-1)
    case measure=>omega
    case rel=>exact⟨3,by omega,by omega,by omega,rfl,hg4.out,hb4⟩
  ·go_wp2_with fail;go_ret;have hka2:k=a:=by omega
   subst hka2;have e:zq6 F k k=List.replicate k F:=by simp[zq6]
   refine⟨rfl,⟨HB.out.os,HB.out.tape,HB.out.output,HB.out.size,fun q hq _=>HB.out.block q hq⟩,?_⟩;have:=HG.out;rw[e] at this;exact this
theorem qo5{w:World}{c:V7}{t:Tk}{ts:List Tk}{d pl er:Int}(F:List Tk->Rs Nd)(h:PR w c (t::ts) d pl er)
    (hf:∀ (w:World),PR w c (t::ts) d pl er->Calls prog 153 #[.pointer (some ⟨c.rb,0,none⟩)] w (X7 w c d pl er (F (t::ts)))):
    Calls prog 214 #[.pointer (some ⟨c.rb,0,none⟩)] w (X7 w c d pl er (zb0 F (t::ts))):=by
  have F0:=zh6;have F2:=zk9;have hrb:=h.rbs;have hrn:¬w.heap.size=c.rb:=by omega
  have htb:=h.tbs;have hsb:=h.sbs;have HNV:=q8 h.nvs;have HX0:Hid (q9 (fun _=>False) w (w.alloc (.cells #[.int .i64 0,.string ⟨#[]⟩,.int .i64 0,.slice none 0 0] 115))):=(q9.refl _ w).alloc _;have H0:=q8 (h.new HX0.out);have HF:=q8 hf;clear h hf F2;by_cases hq:t.txt.toList=[41]
  · have hk:(kOf t.txt.toList==2)=true:=by rw[zD3 hq];rfl
    rw[zb0,if_pos hq];clear hq;go_enter func214,ntmps214;go_wp2_with first
      | (go_at_call 107;refine(X5 H0.out).mono ?_;rintro en w1 ⟨rfl,hx1⟩;have HX1:=q8 hx1;clear hx1)
      | (go_at_call 110;refine(za3 _ (H0.out.new HX1.out)).mono ?_;rintro en w2 ⟨rfl,hx2,hr2⟩
         have HX2:Hid (q9 (· = c.rb) (w.alloc (.cells #[.int .i64 0,.string ⟨#[]⟩,.int .i64 0,.slice none 0 0] 115)) w2):=(HX1.out.mono (fun _ _ f=>f.elim)).trans hx2;have kb:w2.heap[w.heap.size]?=some (.cells #[.int .i64 0,.string ⟨#[]⟩,.int .i64 0,.slice none 0 0] 115):=(HX2.out.block _ (z8 (heap_alloc_new w _)) hrn).trans (heap_alloc_new w _);have z0:=z6 kb 0;have z1:=z6 kb 1;have z2:=z6 kb 2;have z3:=z6 kb 3;have y0:=Q8 kb 0;have y1:=Q8 kb 1;have y2:=Q8 kb 2;have y3:=Q8 kb 3;clear kb;have HR2:=q8 hr2;clear hx2 hr2)
    refine bodyPost_ret (v:=.tuple #[.agg #[.int .i64 0,.string ⟨#[]⟩,.int .i64 0,.slice none 0 0],.bool false]) (by simp[results,results214,go_sem,z0,z1,z2,z3]) rfl ?_;exact U1 HX0.out HX2.out HR2.out (Z5 _ _ _ _ _ _) hrb htb hsb HNV.out
  · have hk:=zY4 hq
    rw[zb0,if_neg hq];clear hq;cases hr:F (t::ts) with
    | no e p=>rw[hr] at HF;go_enter func214,ntmps214;go_wp2_with (go_at_call 107;refine(X5 H0.out).mono ?_;rintro en w1 ⟨rfl,hx1⟩;have HX1:=q8 hx1;clear hx1);refine(HF.out _ (H0.out.new HX1.out)).mono ?_;rintro en w2 ⟨hx2,rfl,ts',d',hr2⟩;have HX2:Hid (q9 (· = c.rb) (w.alloc (.cells #[.int .i64 0,.string ⟨#[]⟩,.int .i64 0,.slice none 0 0] 115)) w2):=(HX1.out.mono (fun _ _ f=>f.elim)).trans hx2;have kb:w2.heap[w.heap.size]?=some (.cells #[.int .i64 0,.string ⟨#[]⟩,.int .i64 0,.slice none 0 0] 115):=(HX2.out.block _ (z8 (heap_alloc_new w _)) hrn).trans (heap_alloc_new w _);have z0:=z6 kb 0;have z1:=z6 kb 1;have z2:=z6 kb 2;have z3:=z6 kb 3;have y0:=Q8 kb 0;have y1:=Q8 kb 1;have y2:=Q8 kb 2;have y3:=Q8 kb 3;clear kb;clear hx2;go_wp2_with fail;refine bodyPost_ret (v:=.tuple #[.agg #[.int .i64 0,.string ⟨#[]⟩,.int .i64 0,.slice none 0 0],.bool false]) (by simp[results,results214,go_sem,z0,z1,z2,z3]) rfl ?_;exact U1 HX0.out HX2.out hr2 (Z5 _ _ _ _ _ _) hrb htb hsb HNV.out
    | ok nd ts'=>rw[hr] at HF;go_enter func214,ntmps214;go_wp2_with (go_at_call 107;refine(X5 H0.out).mono ?_;rintro en w1 ⟨rfl,hx1⟩;have HX1:=q8 hx1;clear hx1);refine(HF.out _ (H0.out.new HX1.out)).mono ?_;rintro en w2 ⟨hx2,k,wd,v,sa,sn,sc,rfl,hn,hr2⟩;have HX2:Hid (q9 (· = c.rb) (w.alloc (.cells #[.int .i64 0,.string ⟨#[]⟩,.int .i64 0,.slice none 0 0] 115)) w2):=(HX1.out.mono (fun _ _ f=>f.elim)).trans hx2;have kb:w2.heap[w.heap.size]?=some (.cells #[.int .i64 0,.string ⟨#[]⟩,.int .i64 0,.slice none 0 0] 115):=(HX2.out.block _ (z8 (heap_alloc_new w _)) hrn).trans (heap_alloc_new w _);have z0:=z6 kb 0;have z1:=z6 kb 1;have z2:=z6 kb 2;have z3:=z6 kb 3;have y0:=Q8 kb 0;have y1:=Q8 kb 1;have y2:=Q8 kb 2;have y3:=Q8 kb 3;clear kb;have hsz:=HX1.out.size;have HPN:=q8 (hn.mono (D':=fun k=>w.heap.size<k) (fun k _ hk=>by have h1:w1.heap.size<=k:=hk;simp at hsz;show w.heap.size<k;omega));clear hx2 hn hsz;go_wp2_with fail;refine bodyPost_ret (v:=.tuple #[.agg #[.int .i64 k,.string wd,.int .i64 v,.slice sa sn sc],.bool true]) (by simp[results,results214,go_sem,z0,z1,z2,z3]) rfl ?_;exact zd9 HX0.out HX2.out hr2 HPN.out (Z5 _ _ _ _ _ _) hrb htb hsb HNV.out
theorem qe7{w:World}{D:Nat->Prop}{k v:Int}{word:ByteArray}{pv:Value}{ps:List Nd}{kids:List (List Value)}(h:zw7 w D pv ps kids):PN w D [.int .i64 k,.string word,.int .i64 v,pv] (.mk k word v ps) :=
 PN.mk h.how h.hl h.hn h.hD (fun i cs p h1 h2=>(h.hk i cs p h1 h2).mono (fun _ _ hk=>hk.1))
theorem zw7.ext{S D:Nat->Prop}{w w':World}{pv:Value}{ps:List Nd}{kids:List (List Value)}(h:zw7 w D pv ps kids)(hx:q9 S w w')(hS:∀ k,k<w.heap.size->D k->¬S k):zw7 w' D pv ps kids :=
 ⟨z7 h.how hx (fun k hk=>hS k (h.how.lt k hk).2 (h.hD k hk)),h.hl,h.hn,h.hD,fun i cs p h1 h2=>(h.hk i cs p h1 h2).ext hx (fun k hk hD=>hS k hk hD.1)⟩
theorem zw7.mono{D D':Nat->Prop}{w:World}{pv:Value}{ps:List Nd}{kids:List (List Value)}(h:zw7 w D pv ps kids)(hl:∀ k,k<w.heap.size->D k->D' k):zw7 w D' pv ps kids :=
 ⟨h.how,h.hl,h.hn,fun g hg=>hl g (h.how.lt g hg).2 (h.hD g hg),fun i cs p h1 h2=>(h.hk i cs p h1 h2).mono (fun k hk hD=>⟨hl k hk hD.1,hD.2⟩)⟩
theorem qn8{w:World}{c:V7}{t:Tk}{ts:List Tk}{d pl er:Int}(h:PR w c (t::ts) d pl er)(hd:30<=d):
    Calls prog 190 #[.pointer (some ⟨c.rb,0,none⟩)] w (X7 w c d pl er (.no 6 t.pos)):=by
  have F0:=zh6;have F2:=zk9;have hrb:=h.rbs;have hrn:¬w.heap.size=c.rb:=by omega
  have htb:=h.tbs;have hsb:=h.sbs;have HNV:=q8 h.nvs;have HX0:Hid (q9 (fun _=>False) w (w.alloc (.cells #[.int .i64 0,.string ⟨#[]⟩,.int .i64 0,.slice none 0 0] 115))):=(q9.refl _ w).alloc _;have H0:=q8 (h.new HX0.out);clear h F0 F2;go_enter func190,ntmps190;go_wp2_with first
    | (go_at_call 144;refine(zF5 H0.out hd).mono ?_;rintro en w2 ⟨rfl,hx2,hr2⟩
       have HX2:Hid (q9 (· = c.rb) (w.alloc (.cells #[.int .i64 0,.string ⟨#[]⟩,.int .i64 0,.slice none 0 0] 115)) w2):=hx2;have kb:w2.heap[w.heap.size]?=some (.cells #[.int .i64 0,.string ⟨#[]⟩,.int .i64 0,.slice none 0 0] 115):=(HX2.out.block _ (z8 (heap_alloc_new w _)) hrn).trans (heap_alloc_new w _);have z0:=z6 kb 0;have z1:=z6 kb 1;have z2:=z6 kb 2;have z3:=z6 kb 3;have y0:=Q8 kb 0;have y1:=Q8 kb 1;have y2:=Q8 kb 2;have y3:=Q8 kb 3;clear kb;have HR2:=q8 hr2;clear hx2 hr2)
  refine bodyPost_ret (v:=.tuple #[.agg #[.int .i64 0,.string ⟨#[]⟩,.int .i64 0,.slice none 0 0],.bool false]) (by simp[results,results190,go_sem,z0,z1,z2,z3]) rfl ?_;exact U1 HX0.out HX2.out HR2.out (Z5 _ _ _ _ _ _) hrb htb hsb HNV.out
theorem qn9{w:World}{c:V7}{t u:Tk}{us:List Tk}{d pl er:Int}(h:PR w c (t::u::us) d pl er)(hd:d<30)(hne:t.txt.toList≠[])(hk:¬zc7 c.N u.txt.toList=0):
  Calls prog 190 #[.pointer (some ⟨c.rb,0,none⟩)] w (X7 w c d pl er (.no (zc7 c.N u.txt.toList) u.pos)):=by
 have F0:=zh6;have F2:=zk9;have hrb:=h.rbs;have hrn:¬w.heap.size=c.rb:=by omega
 have htb:=h.tbs;have hsb:=h.sbs;have HNV:=q8 h.nvs;have HX0:Hid (q9 (fun _=>False) w (w.alloc (.cells #[.int .i64 0,.string ⟨#[]⟩,.int .i64 0,.slice none 0 0] 115))):=(q9.refl _ w).alloc _;have H0:=q8 (h.new HX0.out);have HNE:=q8 hne;have HK:=q8 hk;clear h F0 F2 hne hk;go_enter func190,ntmps190;go_wp2_with (go_at_call 144;refine(zm5 H0.out hd HNE.out).mono ?_;rintro en w1 ⟨rfl,hx1,hr1⟩;have HX1:=q8 hx1;have HR1:=q8 hr1;clear hx1 hr1);refine(zv7 HR1.out HK.out).mono ?_;rintro en w2 ⟨rfl,hx2,hr2⟩;have HX2:Hid (q9 (· = c.rb) (w.alloc (.cells #[.int .i64 0,.string ⟨#[]⟩,.int .i64 0,.slice none 0 0] 115)) w2):=HX1.out.trans hx2;have kb:w2.heap[w.heap.size]?=some (.cells #[.int .i64 0,.string ⟨#[]⟩,.int .i64 0,.slice none 0 0] 115):=(HX2.out.block _ (z8 (heap_alloc_new w _)) hrn).trans (heap_alloc_new w _);have z0:=z6 kb 0;have z1:=z6 kb 1;have z2:=z6 kb 2;have z3:=z6 kb 3;have y0:=Q8 kb 0;have y1:=Q8 kb 1;have y2:=Q8 kb 2;have y3:=Q8 kb 3;clear kb;have hsz2:w.heap.size<w2.heap.size:=by have:=HX2.out.size;simp at this;omega
 have HR2:=q8 hr2;clear hx2 hr2;go_wp2_with fail;refine bodyPost_ret (v:=.tuple #[.agg #[.int .i64 0,.string ⟨#[]⟩,.int .i64 0,.slice none 0 0],.bool false]) (by simp[results,results190,go_sem,z0,z1,z2,z3,hsz2]) rfl ?_;exact U1 HX0.out HX2.out HR2.out ((Z5 _ _ _ _ _ _).alloc _) hrb htb hsb HNV.out
theorem qo0{w:World}{c:V7}{t u:Tk}{us:List Tk}{d pl er:Int}(h:PR w c (t::u::us) d pl er)(hd:d<30)(hne:t.txt.toList≠[])(hn:X6 u.txt.toList=true)(ha:za8 c.N u.txt.toList=some 0):
    Calls prog 190 #[.pointer (some ⟨c.rb,0,none⟩)] w (X7 w c d pl er (.no 4 u.pos)):=by
  have F0:=zh6;have F2:=zk9;have hrb:=h.rbs;have hrn:¬w.heap.size=c.rb:=by omega
  have htb:=h.tbs;have hsb:=h.sbs;have HNV:=q8 h.nvs;have HX0:Hid (q9 (fun _=>False) w (w.alloc (.cells #[.int .i64 0,.string ⟨#[]⟩,.int .i64 0,.slice none 0 0] 115))):=(q9.refl _ w).alloc _;have H0:=q8 (h.new HX0.out);have HNE:=q8 hne;have HN:=q8 hn;have HA:=q8 ha;clear h F0 F2 hne hn ha;go_enter func190,ntmps190;go_wp2_with (go_at_call 144;refine(zm5 H0.out hd HNE.out).mono ?_;rintro en w1 ⟨rfl,hx1,hr1⟩;have HX1:=q8 hx1;have HR1:=q8 hr1;clear hx1 hr1);refine(zl9 HR1.out HN.out HA.out).mono ?_;rintro en w2 ⟨rfl,hx2⟩;have hx3:q9 (fun _=>False) w1 (w2.alloc (.cells #[.string u.txt,.int .i64 0] 142)):=hx2.alloc _;have HX3:=q8 hx3;clear hx2 hx3;go_wp2_with first
    | (go_at_call 110;refine(za3 _ (HR1.out.new HX3.out)).mono ?_;rintro en w4 ⟨rfl,hx4,hr4⟩
       have HX2:Hid (q9 (· = c.rb) (w.alloc (.cells #[.int .i64 0,.string ⟨#[]⟩,.int .i64 0,.slice none 0 0] 115)) w4):=(HX1.out.trans (HX3.out.mono (fun _ _ f=>f.elim))).trans hx4;have kb:w4.heap[w.heap.size]?=some (.cells #[.int .i64 0,.string ⟨#[]⟩,.int .i64 0,.slice none 0 0] 115):=(HX2.out.block _ (z8 (heap_alloc_new w _)) hrn).trans (heap_alloc_new w _);have z0:=z6 kb 0;have z1:=z6 kb 1;have z2:=z6 kb 2;have z3:=z6 kb 3;have y0:=Q8 kb 0;have y1:=Q8 kb 1;have y2:=Q8 kb 2;have y3:=Q8 kb 3;clear kb;have HR2:=q8 hr4;clear hx4 hr4)
  refine bodyPost_ret (v:=.tuple #[.agg #[.int .i64 0,.string ⟨#[]⟩,.int .i64 0,.slice none 0 0],.bool false]) (by simp[results,results190,go_sem,z0,z1,z2,z3]) rfl ?_;exact U1 HX0.out HX2.out HR2.out (Z5 _ _ _ _ _ _) hrb htb hsb HNV.out
theorem js0{w:World}{c:V7}{t u:Tk}{us:List Tk}{d pl er:Int}(n a:Nat)(h:PR w c (t::u::us) d pl er)(hd:d<30)(hne:t.txt.toList≠[])(hn:X6 u.txt.toList=true)(ha:za8 c.N u.txt.toList=some (a:Int))(h1:1<=a)(h3:a<=3)(hus:us.length<=n)(T:List Tk->Rs Nd)(hT:Fits T)
    (ih:∀ (w:World) (ts:List Tk),ts.length<=n->PR w c ts (d+1) pl er->Calls prog 153 #[.pointer (some ⟨c.rb,0,none⟩)] w (X7 w c (d+1) pl er (T ts))):
    Calls prog 190 #[.pointer (some ⟨c.rb,0,none⟩)] w (X7 w c d pl er (J7 4 3 u.txt (J5 (List.replicate a (zb0 T)) us))):=by
  have F0:=zh6;have F2:=zk9;have hrb:=h.rbs;have hrn:¬w.heap.size=c.rb:=by omega
  have htb:=h.tbs;have hsb:=h.sbs;have HNV:=q8 h.nvs;have HX0:Hid (q9 (fun _=>False) w (w.alloc (.cells #[.int .i64 0,.string ⟨#[]⟩,.int .i64 0,.slice none 0 0] 115))):=(q9.refl _ w).alloc _;have H0:=q8 (h.new HX0.out);have HNE:=q8 hne;have HN:=q8 hn;have HA:=q8 ha;have HUNE:Hid (u.txt.toList≠[]):=by have:=(zW1 hn).2.2;intro e;rw[e] at this;exact absurd this (by decide)
  have HT:=q8 hT;have IH:=q8 ih;have hd0:=h.dlo;have ha0:((a:Int)==0)=false:=by simp;omega
  clear h F0 F2 hne hn ha hT ih;go_enter func190,ntmps190;go_wp2_with (go_at_call 144;refine(zm5 H0.out hd HNE.out).mono ?_;rintro en w1 ⟨rfl,hx1,hr1⟩;have HX1:=q8 hx1;have HR1:=q8 hr1;clear hx1 hr1);refine(zl9 HR1.out HN.out HA.out).mono ?_;rintro en w2 ⟨rfl,hx2⟩;have hx3:q9 (fun _=>False) w1 (w2.alloc (.cells #[.string u.txt,.int .i64 (a:Int)] 142)):=hx2.alloc _;have HX3:=q8 hx3;have hs1:=HX1.out.size;have hs2:=hx2.size;have hsz1:w.heap.size<w1.heap.size:=by simp at hs1;omega
  have hsz2:w1.heap.size<=w2.heap.size:=hs2;have hrb2:c.rb<w2.heap.size:=by omega
  clear hx2 hx3 hs1 hs2;go_wp2_with fail;refine(zr2 (HR1.out.new HX3.out) HUNE.out).mono ?_;rintro en w4 ⟨rfl,hx4,hr4⟩;have kf:w4.heap[w2.heap.size]?=some (.cells #[.string u.txt,.int .i64 (a:Int)] 142):=(hx4.block _ (z8 (heap_alloc_new w2 _)) (by show ¬w2.heap.size=c.rb;omega)).trans (heap_alloc_new w2 _);have q1:=z6 kf 1;have hl4:=z8 kf;have hs4:=hx4.size;have HX04:Hid (q9 (· = c.rb) (w.alloc (.cells #[.int .i64 0,.string ⟨#[]⟩,.int .i64 0,.slice none 0 0] 115)) w4):=(HX1.out.trans (HX3.out.mono (fun _ _ f=>f.elim))).trans hx4;have HR4:=q8 hr4;have KF:=q8 kf;clear hx4 hr4 kf hs4;go_wp2_with fail;obtain⟨W5,hW5⟩:∃ W5,w4.alloc (Obj.cells #[(.func (.func 214) #[.pointer (some ⟨c.rb,0,none⟩)] #[])] 160)=W5:=⟨_,rfl⟩;have hx5:q9 (fun _=>False) w4 W5:=by rw[<- hW5];exact(q9.refl _ w4).alloc _
  have hsz5:W5.heap.size=w4.heap.size+1:=by rw[<- hW5];simp
  have kv5:W5.heap[w4.heap.size]?=some (.cells #[(.func (.func 214) #[.pointer (some ⟨c.rb,0,none⟩)] #[])] 160):=by rw[<- hW5];exact heap_alloc_new w4 _
  rw[hW5];refine(qO4 (F:=(.func (.func 214) #[.pointer (some ⟨c.rb,0,none⟩)] #[])) h1 h3 rfl (z6 kv5 0) (z8 kv5)).mono ?_;rintro en w6 ⟨rfl,hx6,hb6⟩;rw[hsz5] at hb6 ⊢;have HR6:=q8 ((HR4.out.new hx5).new hx6);have hx46:q9 (fun _=>False) w4 w6:=hx5.trans hx6;have HX06:Hid (q9 (· = c.rb) (w.alloc (.cells #[.int .i64 0,.string ⟨#[]⟩,.int .i64 0,.slice none 0 0] 115)) w6):=HX04.out.trans (hx46.mono (fun _ _ f=>f.elim));have KF6:=q8 ((hx46.block _ (z8 KF.out) (fun f=>f)).trans KF.out);have hl6:w2.heap.size<w6.heap.size:=Nat.lt_of_lt_of_le hl4 hx46.size;have hrow:=qe6 (w4.heap.size+1) a (List.replicate a (214,zb0 T)) HR6.out (by rw[List.length_replicate];omega) n hus (fun f hf=>by rw[(List.mem_replicate.1 hf).2];exact qj9 HT.out)
    (z8 hb6) (by omega)
    (fun i f hi=>by obtain⟨hil,hif⟩:=List.getElem?_eq_some_iff.1 hi;simp at hif hil;rw[z6 hb6 i,<- hif];simp[hil])
    (fun f hf=>by rw[(List.mem_replicate.1 hf).2];exact Or.inr (Or.inr (Or.inr rfl)))
    (fun f hf W vs hvs hP=>by rw[(List.mem_replicate.1 hf).2];obtain⟨x,xs,rfl⟩:=hP.head;exact qo5 T hP (fun W' hP'=>IH.out W' (x::xs) hvs hP'))
  rw[List.length_replicate,List.map_replicate] at hrow;have HROW:=q8 hrow;clear hx5 hsz5 kv5 hx6 hb6 hx46 hrow hW5 q1;go_wp2_with fail;refine HROW.out.mono ?_;cases hrr:J5 (List.replicate a (zb0 T)) us with
  | no e p=>
    have HRES:Hid (J7 4 3 u.txt (J5 (List.replicate a (zb0 T)) us)=.no e p):=by show _=_;rw[hrr];rfl
    clear hrr;rintro en w7 ⟨hx7,rfl,ts',d',hr7⟩;have HX2:Hid (q9 (· = c.rb) (w.alloc (.cells #[.int .i64 0,.string ⟨#[]⟩,.int .i64 0,.slice none 0 0] 115)) w7):=HX06.out.trans hx7;have kb:w7.heap[w.heap.size]?=some (.cells #[.int .i64 0,.string ⟨#[]⟩,.int .i64 0,.slice none 0 0] 115):=(HX2.out.block _ (z8 (heap_alloc_new w _)) hrn).trans (heap_alloc_new w _);have z0:=z6 kb 0;have z1:=z6 kb 1;have z2:=z6 kb 2;have z3:=z6 kb 3;have y0:=Q8 kb 0;have y1:=Q8 kb 1;have y2:=Q8 kb 2;have y3:=Q8 kb 3;clear kb;have HR2:=q8 hr7;clear hx7 hr7;go_wp2_with fail;rw[HRES.out];refine bodyPost_ret (v:=.tuple #[.agg #[.int .i64 0,.string ⟨#[]⟩,.int .i64 0,.slice none 0 0],.bool false]) (by simp[results,results190,go_sem,z0,z1,z2,z3]) rfl ?_;exact U1 HX0.out HX2.out HR2.out (Z5 _ _ _ _ _ _) hrb htb hsb HNV.out
  | ok ps ts'=>
    rintro en w7 ⟨hx7,sa,sn,sc,kids,rfl,hrow7,hr7⟩;obtain⟨v,vs,rfl⟩:=hr7.head;have hl7:w2.heap.size<w7.heap.size:=Nat.lt_of_lt_of_le hl6 hx7.size;have HROW7:Hid (zw7 w7 (fun k=>w.heap.size<k) (.slice sa sn sc) ps kids):=hrow7.mono (fun k _ hk=>by have h5:w6.heap.size<=k:=hk;show w.heap.size<k;omega);have HX07:=q8 (HX06.out.trans hx7);have KF7:=q8 ((hx7.block _ (z8 KF6.out) (by show ¬w2.heap.size=c.rb;omega)).trans KF6.out);have HR7:=q8 hr7;clear hx7 hr7 hrow7;by_cases hq:v.txt.toList=[41]
    · have HRES:Hid (J7 4 3 u.txt (J5 (List.replicate a (zb0 T)) us)=.ok (.mk 3 u.txt 0 ps) vs):=by
        show _=_;rw[hrr,J7,zd4,if_pos hq]
      clear hrr;go_wp2_with first
        | (go_at_call 147;refine(zJ4 _ HR7.out (by omega) hq).mono ?_;rintro en w8 ⟨rfl,hx8,hr8⟩
           have HX2:Hid (q9 (· = c.rb) (w.alloc (.cells #[.int .i64 0,.string ⟨#[]⟩,.int .i64 0,.slice none 0 0] 115)) w8):=HX07.out.trans hx8;have kb:w8.heap[w.heap.size]?=some (.cells #[.int .i64 0,.string ⟨#[]⟩,.int .i64 0,.slice none 0 0] 115):=(HX2.out.block _ (z8 (heap_alloc_new w _)) hrn).trans (heap_alloc_new w _);have z0:=z6 kb 0;have z1:=z6 kb 1;have z2:=z6 kb 2;have z3:=z6 kb 3;have y0:=Q8 kb 0;have y1:=Q8 kb 1;have y2:=Q8 kb 2;have y3:=Q8 kb 3;clear kb;have kf8:=(hx8.block _ (z8 KF7.out) (by show ¬w2.heap.size=c.rb;omega)).trans KF7.out;have q80:=z6 kf8 0;have HROW8:=q8 (HROW7.out.ext hx8 (fun k _ hk e=>by have h5:w.heap.size<k:=hk;have h6:k=c.rb:=e;omega));rw[show d+1-1=d from by omega] at hr8;have HR2:=q8 hr8;clear hx8 hr8 kf8)
      rw[HRES.out];refine bodyPost_ret (v:=.tuple #[.agg #[.int .i64 3,.string u.txt,.int .i64 0,.slice sa sn sc],.bool true]) (by simp[results,results190,go_sem,z0,z1,z2,z3]) rfl ?_;exact zd9 HX0.out HX2.out HR2.out (qe7 HROW8.out) (Z5 _ _ _ _ _ _) hrb htb hsb HNV.out
    · have HRES:Hid (J7 4 3 u.txt (J5 (List.replicate a (zb0 T)) us)=.no (zJ5 4 v.txt.toList) v.pos):=by
        show _=_;rw[hrr,J7,zd4,if_neg hq];unfold zJ5;split<;>rfl
      clear hrr;go_wp2_with first
        | (go_at_call 147;refine(zJ6 _ HR7.out hq).mono ?_;rintro en w8 ⟨rfl,hx8,hr8⟩
           have HX2:Hid (q9 (· = c.rb) (w.alloc (.cells #[.int .i64 0,.string ⟨#[]⟩,.int .i64 0,.slice none 0 0] 115)) w8):=HX07.out.trans hx8;have kb:w8.heap[w.heap.size]?=some (.cells #[.int .i64 0,.string ⟨#[]⟩,.int .i64 0,.slice none 0 0] 115):=(HX2.out.block _ (z8 (heap_alloc_new w _)) hrn).trans (heap_alloc_new w _);have z0:=z6 kb 0;have z1:=z6 kb 1;have z2:=z6 kb 2;have z3:=z6 kb 3;have y0:=Q8 kb 0;have y1:=Q8 kb 1;have y2:=Q8 kb 2;have y3:=Q8 kb 3;clear kb;have HR2:=q8 hr8;clear hx8 hr8)
      rw[HRES.out];refine bodyPost_ret (v:=.tuple #[.agg #[.int .i64 0,.string ⟨#[]⟩,.int .i64 0,.slice none 0 0],.bool false]) (by simp[results,results190,go_sem,z0,z1,z2,z3]) rfl ?_;exact U1 HX0.out HX2.out HR2.out (Z5 _ _ _ _ _ _) hrb htb hsb HNV.out
theorem zj2{l:List UInt8}:(kOf l==1)=(l==[40]):=by
 unfold kOf;by_cases h0:l=[]
 ·subst h0;decide
 ·by_cases h1:l=[40]
  ·subst h1;decide
  ·rw[if_neg h0,if_neg h1];have:(l==[40])=false:=by
    cases hq:(l==[40]) with
    | false=>rfl
    | true=>exact absurd (beq_iff_eq.1 hq) h1
   rw[this];split<;>decide
theorem qo1{w:World}{c:V7}{t:Tk}{ts:List Tk}{d pl er:Int}(r:Rs Nd)(h:PR w c (t::ts) d pl er)(ho:(t.txt.toList==[40])=true)
  (hf:∀ (w:World),PR w c (t::ts) d pl er->Calls prog 190 #[.pointer (some ⟨c.rb,0,none⟩)] w (X7 w c d pl er r)):
  Calls prog 153 #[.pointer (some ⟨c.rb,0,none⟩)] w (X7 w c d pl er r):=by
 have F0:=zh6;have F2:=zk9;have hrb:=h.rbs;have hrn:¬w.heap.size=c.rb:=by omega
 have htb:=h.tbs;have hsb:=h.sbs;have HNV:=q8 h.nvs;have HX0:Hid (q9 (fun _=>False) w (w.alloc (.cells #[.int .i64 0,.string ⟨#[]⟩,.int .i64 0,.slice none 0 0] 115))):=(q9.refl _ w).alloc _;have H0:=q8 (h.new HX0.out);have HF:=q8 hf;have hk:=(zj2 (l:=t.txt.toList)).trans ho;clear F2;clear h hf ho;cases r with
 | no e p=>
  go_enter func153,ntmps153;go_wp2_with first
    | (go_at_call 107;refine(X5 H0.out).mono ?_;rintro en w1 ⟨rfl,hx1⟩;have HX1:=q8 hx1;clear hx1)
  refine(HF.out _ (H0.out.new HX1.out)).mono ?_;rintro en w5 ⟨hx5,rfl,ts',d',hr2⟩;have HX2:Hid (q9 (· = c.rb) (w.alloc (.cells #[.int .i64 0,.string ⟨#[]⟩,.int .i64 0,.slice none 0 0] 115)) w5):=(HX1.out.mono (fun _ _ f=>f.elim)).trans hx5;have kb:w5.heap[w.heap.size]?=some (.cells #[.int .i64 0,.string ⟨#[]⟩,.int .i64 0,.slice none 0 0] 115):=(HX2.out.block _ (z8 (heap_alloc_new w _)) hrn).trans (heap_alloc_new w _);have z0:=z6 kb 0;have z1:=z6 kb 1;have z2:=z6 kb 2;have z3:=z6 kb 3;have y0:=Q8 kb 0;have y1:=Q8 kb 1;have y2:=Q8 kb 2;have y3:=Q8 kb 3;clear kb;clear hx5;go_wp2_with fail;refine bodyPost_ret (v:=.tuple #[.agg #[.int .i64 0,.string ⟨#[]⟩,.int .i64 0,.slice none 0 0],.bool false]) (by simp[results,results153,go_sem,z0,z1,z2,z3]) rfl ?_;exact U1 HX0.out HX2.out hr2 (Z5 _ _ _ _ _ _) hrb htb hsb HNV.out
 | ok nd ts'=>
  go_enter func153,ntmps153;go_wp2_with first
    | (go_at_call 107;refine(X5 H0.out).mono ?_;rintro en w1 ⟨rfl,hx1⟩;have HX1:=q8 hx1;clear hx1)
  refine(HF.out _ (H0.out.new HX1.out)).mono ?_;rintro en w5 ⟨hx5,k,wd,v,sa,sn,sc,rfl,hn,hr2⟩;have HX2:Hid (q9 (· = c.rb) (w.alloc (.cells #[.int .i64 0,.string ⟨#[]⟩,.int .i64 0,.slice none 0 0] 115)) w5):=(HX1.out.mono (fun _ _ f=>f.elim)).trans hx5;have kb:w5.heap[w.heap.size]?=some (.cells #[.int .i64 0,.string ⟨#[]⟩,.int .i64 0,.slice none 0 0] 115):=(HX2.out.block _ (z8 (heap_alloc_new w _)) hrn).trans (heap_alloc_new w _);have z0:=z6 kb 0;have z1:=z6 kb 1;have z2:=z6 kb 2;have z3:=z6 kb 3;have y0:=Q8 kb 0;have y1:=Q8 kb 1;have y2:=Q8 kb 2;have y3:=Q8 kb 3;clear kb;have hsz:=HX1.out.size;have HPN:=q8 (hn.mono (D':=fun k=>w.heap.size<k) (fun k _ hk=>by have h1:w1.heap.size<=k:=hk;simp at hsz;show w.heap.size<k;omega));clear hx5 hn hsz;go_wp2_with fail;refine bodyPost_ret (v:=.tuple #[.agg #[.int .i64 k,.string wd,.int .i64 v,.slice sa sn sc],.bool true]) (by simp[results,results153,go_sem,z0,z1,z2,z3]) rfl ?_;exact zd9 HX0.out HX2.out hr2 HPN.out (Z5 _ _ _ _ _ _) hrb htb hsb HNV.out
theorem zY1{w:World}{c:V7}{t:Tk}{ts:List Tk}{d pl er:Int}(r:Rs Nd)(h:PR w c (t::ts) d pl er)(ho:(t.txt.toList==[40])=false)(hn:X6 t.txt.toList=true)
  (hf:∀ (w:World),PR w c (t::ts) d pl er->Calls prog 191 #[.pointer (some ⟨c.rb,0,none⟩)] w (X7 w c d pl er r)):
  Calls prog 153 #[.pointer (some ⟨c.rb,0,none⟩)] w (X7 w c d pl er r):=by
 have F0:=zh6;have F2:=zk9;have hrb:=h.rbs;have hrn:¬w.heap.size=c.rb:=by omega
 have htb:=h.tbs;have hsb:=h.sbs;have HNV:=q8 h.nvs;have HX0:Hid (q9 (fun _=>False) w (w.alloc (.cells #[.int .i64 0,.string ⟨#[]⟩,.int .i64 0,.slice none 0 0] 115))):=(q9.refl _ w).alloc _;have H0:=q8 (h.new HX0.out);have HF:=q8 hf;have hk:=(zj2 (l:=t.txt.toList)).trans ho;have hsm:t.txt.size<=maxLen:=by have:=h.sm;unfold maxLen;omega
 have HIS:=gIs t.txt;rw[hn] at HIS;have HIS':=q8 HIS;clear HIS hn;clear h hf ho;cases r with
 | no e p=>
  go_enter func153,ntmps153;go_wp2_with first
    | (go_at_call 107;refine(X5 (H0.out)).mono ?_;rintro en w1 ⟨rfl,hx1⟩;have HX1:=q8 hx1;clear hx1)
    | (go_at_call 107;refine(X5 (H0.out.new HX1.out)).mono ?_;rintro en w2 ⟨rfl,hx2⟩;have HX2a:=q8 hx2;clear hx2)
    | (go_at_call 67;refine(HIS'.out _ hsm).mono ?_;rintro en w' ⟨rfl,rfl⟩)
  refine(HF.out _ (H0.out.new (HX1.out.trans HX2a.out))).mono ?_;rintro en w5 ⟨hx5,rfl,ts',d',hr2⟩;have HX2:Hid (q9 (· = c.rb) (w.alloc (.cells #[.int .i64 0,.string ⟨#[]⟩,.int .i64 0,.slice none 0 0] 115)) w5):=((HX1.out.trans HX2a.out).mono (fun _ _ f=>f.elim)).trans hx5;have kb:w5.heap[w.heap.size]?=some (.cells #[.int .i64 0,.string ⟨#[]⟩,.int .i64 0,.slice none 0 0] 115):=(HX2.out.block _ (z8 (heap_alloc_new w _)) hrn).trans (heap_alloc_new w _);have z0:=z6 kb 0;have z1:=z6 kb 1;have z2:=z6 kb 2;have z3:=z6 kb 3;have y0:=Q8 kb 0;have y1:=Q8 kb 1;have y2:=Q8 kb 2;have y3:=Q8 kb 3;clear kb;clear hx5;go_wp2_with fail;refine bodyPost_ret (v:=.tuple #[.agg #[.int .i64 0,.string ⟨#[]⟩,.int .i64 0,.slice none 0 0],.bool false]) (by simp[results,results153,go_sem,z0,z1,z2,z3]) rfl ?_;exact U1 HX0.out HX2.out hr2 (Z5 _ _ _ _ _ _) hrb htb hsb HNV.out
 | ok nd ts'=>
  go_enter func153,ntmps153;go_wp2_with first
    | (go_at_call 107;refine(X5 (H0.out)).mono ?_;rintro en w1 ⟨rfl,hx1⟩;have HX1:=q8 hx1;clear hx1)
    | (go_at_call 107;refine(X5 (H0.out.new HX1.out)).mono ?_;rintro en w2 ⟨rfl,hx2⟩;have HX2a:=q8 hx2;clear hx2)
    | (go_at_call 67;refine(HIS'.out _ hsm).mono ?_;rintro en w' ⟨rfl,rfl⟩)
  refine(HF.out _ (H0.out.new (HX1.out.trans HX2a.out))).mono ?_;rintro en w5 ⟨hx5,k,wd,v,sa,sn,sc,rfl,hn,hr2⟩;have HX2:Hid (q9 (· = c.rb) (w.alloc (.cells #[.int .i64 0,.string ⟨#[]⟩,.int .i64 0,.slice none 0 0] 115)) w5):=((HX1.out.trans HX2a.out).mono (fun _ _ f=>f.elim)).trans hx5;have kb:w5.heap[w.heap.size]?=some (.cells #[.int .i64 0,.string ⟨#[]⟩,.int .i64 0,.slice none 0 0] 115):=(HX2.out.block _ (z8 (heap_alloc_new w _)) hrn).trans (heap_alloc_new w _);have z0:=z6 kb 0;have z1:=z6 kb 1;have z2:=z6 kb 2;have z3:=z6 kb 3;have y0:=Q8 kb 0;have y1:=Q8 kb 1;have y2:=Q8 kb 2;have y3:=Q8 kb 3;clear kb;have hsz:=(HX1.out.trans HX2a.out).size;have HPN:=q8 (hn.mono (D':=fun k=>w.heap.size<k) (fun k _ hk=>by have h1:w2.heap.size<=k:=hk;simp at hsz;show w.heap.size<k;omega));clear hx5 hn hsz;go_wp2_with fail;refine bodyPost_ret (v:=.tuple #[.agg #[.int .i64 k,.string wd,.int .i64 v,.slice sa sn sc],.bool true]) (by simp[results,results153,go_sem,z0,z1,z2,z3]) rfl ?_;exact zd9 HX0.out HX2.out hr2 HPN.out (Z5 _ _ _ _ _ _) hrb htb hsb HNV.out
theorem qo2{w:World}{c:V7}{t:Tk}{ts:List Tk}{d pl er:Int}(r:Rs Nd)(h:PR w c (t::ts) d pl er)(ho:(t.txt.toList==[40])=false)(hn:X6 t.txt.toList=false)
  (hf:∀ (w:World),PR w c (t::ts) d pl er->Calls prog 192 #[.pointer (some ⟨c.rb,0,none⟩),.int .i64 4] w (X7 w c d pl er r)):
  Calls prog 153 #[.pointer (some ⟨c.rb,0,none⟩)] w (X7 w c d pl er r):=by
 have F0:=zh6;have F2:=zk9;have hrb:=h.rbs;have hrn:¬w.heap.size=c.rb:=by omega
 have htb:=h.tbs;have hsb:=h.sbs;have HNV:=q8 h.nvs;have HX0:Hid (q9 (fun _=>False) w (w.alloc (.cells #[.int .i64 0,.string ⟨#[]⟩,.int .i64 0,.slice none 0 0] 115))):=(q9.refl _ w).alloc _;have H0:=q8 (h.new HX0.out);have HF:=q8 hf;have hk:=(zj2 (l:=t.txt.toList)).trans ho;have hsm:t.txt.size<=maxLen:=by have:=h.sm;unfold maxLen;omega
 have HIS:=gIs t.txt;rw[hn] at HIS;have HIS':=q8 HIS;clear HIS hn;clear h hf ho;cases r with
 | no e p=>
  go_enter func153,ntmps153;go_wp2_with first
    | (go_at_call 107;refine(X5 (H0.out)).mono ?_;rintro en w1 ⟨rfl,hx1⟩;have HX1:=q8 hx1;clear hx1)
    | (go_at_call 107;refine(X5 (H0.out.new HX1.out)).mono ?_;rintro en w2 ⟨rfl,hx2⟩;have HX2a:=q8 hx2;clear hx2)
    | (go_at_call 67;refine(HIS'.out _ hsm).mono ?_;rintro en w' ⟨rfl,rfl⟩)
  refine(HF.out _ (H0.out.new (HX1.out.trans HX2a.out))).mono ?_;rintro en w5 ⟨hx5,rfl,ts',d',hr2⟩;have HX2:Hid (q9 (· = c.rb) (w.alloc (.cells #[.int .i64 0,.string ⟨#[]⟩,.int .i64 0,.slice none 0 0] 115)) w5):=((HX1.out.trans HX2a.out).mono (fun _ _ f=>f.elim)).trans hx5;have kb:w5.heap[w.heap.size]?=some (.cells #[.int .i64 0,.string ⟨#[]⟩,.int .i64 0,.slice none 0 0] 115):=(HX2.out.block _ (z8 (heap_alloc_new w _)) hrn).trans (heap_alloc_new w _);have z0:=z6 kb 0;have z1:=z6 kb 1;have z2:=z6 kb 2;have z3:=z6 kb 3;have y0:=Q8 kb 0;have y1:=Q8 kb 1;have y2:=Q8 kb 2;have y3:=Q8 kb 3;clear kb;clear hx5;go_wp2_with fail;refine bodyPost_ret (v:=.tuple #[.agg #[.int .i64 0,.string ⟨#[]⟩,.int .i64 0,.slice none 0 0],.bool false]) (by simp[results,results153,go_sem,z0,z1,z2,z3]) rfl ?_;exact U1 HX0.out HX2.out hr2 (Z5 _ _ _ _ _ _) hrb htb hsb HNV.out
 | ok nd ts'=>
  go_enter func153,ntmps153;go_wp2_with first
    | (go_at_call 107;refine(X5 (H0.out)).mono ?_;rintro en w1 ⟨rfl,hx1⟩;have HX1:=q8 hx1;clear hx1)
    | (go_at_call 107;refine(X5 (H0.out.new HX1.out)).mono ?_;rintro en w2 ⟨rfl,hx2⟩;have HX2a:=q8 hx2;clear hx2)
    | (go_at_call 67;refine(HIS'.out _ hsm).mono ?_;rintro en w' ⟨rfl,rfl⟩)
  refine(HF.out _ (H0.out.new (HX1.out.trans HX2a.out))).mono ?_;rintro en w5 ⟨hx5,k,wd,v,sa,sn,sc,rfl,hn,hr2⟩;have HX2:Hid (q9 (· = c.rb) (w.alloc (.cells #[.int .i64 0,.string ⟨#[]⟩,.int .i64 0,.slice none 0 0] 115)) w5):=((HX1.out.trans HX2a.out).mono (fun _ _ f=>f.elim)).trans hx5;have kb:w5.heap[w.heap.size]?=some (.cells #[.int .i64 0,.string ⟨#[]⟩,.int .i64 0,.slice none 0 0] 115):=(HX2.out.block _ (z8 (heap_alloc_new w _)) hrn).trans (heap_alloc_new w _);have z0:=z6 kb 0;have z1:=z6 kb 1;have z2:=z6 kb 2;have z3:=z6 kb 3;have y0:=Q8 kb 0;have y1:=Q8 kb 1;have y2:=Q8 kb 2;have y3:=Q8 kb 3;clear kb;have hsz:=(HX1.out.trans HX2a.out).size;have HPN:=q8 (hn.mono (D':=fun k=>w.heap.size<k) (fun k _ hk=>by have h1:w2.heap.size<=k:=hk;simp at hsz;show w.heap.size<k;omega));clear hx5 hn hsz;go_wp2_with fail;refine bodyPost_ret (v:=.tuple #[.agg #[.int .i64 k,.string wd,.int .i64 v,.slice sa sn sc],.bool true]) (by simp[results,results153,go_sem,z0,z1,z2,z3]) rfl ?_;exact zd9 HX0.out HX2.out hr2 HPN.out (Z5 _ _ _ _ _ _) hrb htb hsb HNV.out
theorem qN6(c:V7)(pl er:Int)(n:Nat):∀ (w:World) (ts:List Tk) (d:Int),ts.length<=n->PR w c ts d pl er->Calls prog 153 #[.pointer (some ⟨c.rb,0,none⟩)] w (X7 w c d pl er (X0 c.N n d ts)):=by
 induction n with
 | zero=>intro w ts d hn h;obtain⟨t,us,rfl⟩:=h.head;simp at hn
 | succ n ih=>
  intro w ts d hn h;obtain⟨t,us,rfl⟩:=h.head;have harb:∀ (l:List UInt8) (a:Int),za8 c.N l=some a->0<=a/\a<=3:=by
   intro l a ha;unfold za8 at ha;cases hf:c.N.find? (fun x=>x.name.toList==l) with
   | none=>rw[hf] at ha;exact absurd ha (by simp)
   | some x=>rw[hf] at ha;simp at ha;rw[<- ha];exact h.ok x (List.mem_of_find?_eq_some hf)
  cases ho:(t.txt.toList==[40]) with
  | true=>
   have ho':t.txt.toList=[40]:=beq_iff_eq.1 ho;have hne:t.txt.toList≠[]:=by rw[ho'];simp
   have h1:=h.wf.tail hne;obtain⟨u,us0,rfl⟩:∃ u us0,us=u::us0:=by
    cases us with
    | nil=>exact absurd rfl h1.ne
    | cons u us0=>exact⟨u,us0,rfl⟩
   refine qo1 _ h ho (fun W hW=>?_);by_cases hd:30<=d
   ·have er':X0 c.N (n+1) d (t::u::us0)=.no 6 t.pos:=by rw[X0,if_pos ho',if_pos hd]
    rw[er'];exact qn8 hW hd
   ·have hd':d<30:=by omega
    by_cases hk:zc7 c.N u.txt.toList=0
    ·have hnm:X6 u.txt.toList=true:=by
      cases hq:X6 u.txt.toList with
      | true=>rfl
      | false=>rw[zc7,if_pos hq] at hk;exact absurd hk (by decide)
     obtain⟨a,ha⟩:∃ a,za8 c.N u.txt.toList=some a:=by
      cases hq:za8 c.N u.txt.toList with
      | some a=>exact⟨a,rfl⟩
      | none=>rw[zc7,if_neg (by rw[hnm];decide),hq,if_pos (by rfl)] at hk;exact absurd hk (by decide)
     have hb:=harb _ _ ha;by_cases h0:a=0
     ·subst h0;have er':X0 c.N (n+1) d (t::u::us0)=.no 4 u.pos:=by
       rw[X0,if_pos ho',if_neg hd];simp[hnm,ha]
      rw[er'];exact qo0 hW hd' hne hnm ha
     ·obtain⟨m,rfl⟩:=Int.eq_ofNat_of_zero_le hb.1;have er':X0 c.N (n+1) d (t::u::us0)=J7 4 3 u.txt (J5 (List.replicate m (zb0 (X0 c.N n (d+1)))) us0):=by
       rw[X0,if_pos ho',if_neg hd];simp only[hnm,ha,if_true];rw[if_neg h0,Int.toNat_natCast]
      rw[er'];exact js0 n m hW hd' hne hnm ha (by omega) (by omega) (by simp at hn;omega) _ (zu4 c.N n (d+1)) (fun W' ts' hl hP=>ih W' ts' (d+1) hl hP)
    ·have er':X0 c.N (n+1) d (t::u::us0)=.no (zc7 c.N u.txt.toList) u.pos:=by
      rw[X0,if_pos ho',if_neg hd];unfold zc7 at hk ⊢;cases hq:X6 u.txt.toList with
      | false=>simp
      | true=>
       rw[hq] at hk;cases ha:za8 c.N u.txt.toList with
       | none=>simp
       | some a=>rw[ha] at hk;exact absurd (by simp) hk
     rw[er'];exact qn9 hW hd' hne hk
  | false=>
   have ho':¬t.txt.toList=[40]:=by simpa using ho
   cases hnm:X6 t.txt.toList with
   | true=>
    have hv:X0 c.N (n+1) d (t::us)=zp9 c.N t us:=by
     rw[X0.eq_def];simp only;rw[if_neg ho',hnm,if_pos rfl];unfold zp9 zB8;rw[hnm];cases ha:za8 c.N t.txt.toList with
     | none=>simp
     | some a=>
      have hb:=harb _ _ ha;by_cases h0:a=0
      ·subst h0;simp
      ·have h4:0<a:=by omega
       have h5:¬a<0:=by omega
       simp[h0,h4,h5]
    rw[hv];exact zY1 _ h ho hnm (fun W hW=>qo4 hW)
   | false=>
    have hv:X0 c.N (n+1) d (t::us)=V5 4 (t::us):=by rw[X0.eq_def];simp only;rw[if_neg ho',hnm,if_neg (by decide)]
    rw[hv];exact qo2 _ h ho hnm (fun W hW=>qe4 4 hW)
theorem qN7(w:World):∀ (k:Nat) (x:ByteArray × Int × Int),Y6[k]?=some x->Sem.run prog (Instr.index 321 (.agg zp0) (.int .i64 (k:Int))) w=.ok (.agg #[.string x.1,.int .i64 x.2.1,.int .i64 x.2.2]) w
 | 0,x,h=>by simp[Y6] at h;subst h;kernel_rfl
 | 1,x,h=>by simp[Y6] at h;subst h;kernel_rfl
 | 2,x,h=>by simp[Y6] at h;subst h;kernel_rfl
 | 3,x,h=>by simp[Y6] at h;subst h;kernel_rfl
 | 4,x,h=>by simp[Y6] at h;subst h;kernel_rfl
 | 5,x,h=>by simp[Y6] at h;subst h;kernel_rfl
 | 6,x,h=>by simp[Y6] at h;subst h;kernel_rfl
 | 7,x,h=>by simp[Y6] at h;subst h;kernel_rfl
 | 8,x,h=>by simp[Y6] at h;subst h;kernel_rfl
 | k+9,x,h=>by simp[Y6] at h
def zf9(l:List UInt8):Option (ByteArray × Int × Int):=Y6.find? (fun x=>x.1.toList==l)
theorem zS6(l:List UInt8):zo1 l=(zf9 l).map (·.2):=by
 have e:∀ (x:List UInt8),(x==l)=decide (l=x):=fun x=>by
  cases h:(x==l) with
  | true=>rw[beq_iff_eq.1 h];simp
  | false=>exact(decide_eq_false (fun e=>by rw[e] at h;simp at h)).symm
 unfold zo1 zf9 Y6;simp only[List.find?,e];have b0:(⟨#[110,111,116]⟩:ByteArray).toList=zk0:=by kernel_rfl
 have b1:(⟨#[97,110,100]⟩:ByteArray).toList=zl0:=by kernel_rfl
 have b2:(⟨#[111,114]⟩:ByteArray).toList=wOr:=by kernel_rfl
 have b3:(⟨#[61,62]⟩:ByteArray).toList=[61,62]:=by kernel_rfl
 have b4:(⟨#[105,102,102]⟩:ByteArray).toList=zo0:=by kernel_rfl
 have b5:(⟨#[61]⟩:ByteArray).toList=[61]:=by kernel_rfl
 have b6:(⟨#[60]⟩:ByteArray).toList=[60]:=by kernel_rfl
 have b7:(⟨#[60,61]⟩:ByteArray).toList=[60,61]:=by kernel_rfl
 have b8:(⟨#[108,101]⟩:ByteArray).toList=wLe:=by kernel_rfl
 rw[b0,b1,b2,b3,b4,b5,b6,b7,b8];by_cases h0:l=zk0
 ·simp[h0]
 by_cases h1:l=zl0
 ·simp[h1,zl0,zk0]
 by_cases h2:l=wOr
 ·simp[h2,zl0,zk0,wOr]
 by_cases h3:l=[61,62]
 ·simp[h3,zl0,zk0,wOr]
 by_cases h4:l=zo0
 ·simp[h4,zl0,zk0,wOr,zo0]
 by_cases h5:l=[61]
 ·simp[h5,zl0,zk0,wOr,zo0]
 by_cases h6:l=[60]
 ·simp[h6,zl0,zk0,wOr,zo0]
 by_cases h7:l=[60,61]
 ·simp[h7,zl0,zk0,wOr,zo0]
 by_cases h8:l=wLe
 ·simp[h8,zl0,zk0,wOr,zo0,wLe]
 simp[h0,h1,h2,h3,h4,h5,h6,h7,h8]
theorem jl8{l:List UInt8}{k:Nat}{x:ByteArray × Int × Int}(ha:(Y6.take k).find? (fun x=>x.1.toList==l)=none)(hx:Y6[k]?=some x)(hq:(x.1.toList==l)=true):zf9 l=some x:=by
 have hlt:k<Y6.length:=by
  rcases Nat.lt_or_ge k Y6.length with h|h
  ·exact h
  ·rw[List.getElem?_eq_none h] at hx;exact absurd hx (by simp)
 have hsp:Y6=Y6.take k++x::Y6.drop (k+1):=by
  conv=>lhs;rw[<- List.take_append_drop k Y6]
  rw[List.drop_eq_getElem_cons hlt];rw[List.getElem?_eq_getElem hlt] at hx;rw[Option.some.inj hx]
 unfold zf9;rw[hsp,List.find?_append,ha];simp[hq]
theorem qZ9{l:List UInt8}{k:Nat}{x:ByteArray × Int × Int}(ha:(Y6.take k).find? (fun x=>x.1.toList==l)=none)(hx:Y6[k]?=some x)(hq:(x.1.toList==l)=false):(Y6.take (k+1)).find? (fun x=>x.1.toList==l)=none:=by rw[List.take_add_one,hx,List.find?_append,ha];simp[hq]
def js1(o:Option (ByteArray × Int × Int)):Value :=
 match o with
 | some x=>.tuple #[.agg #[.string x.1,.int .i64 x.2.1,.int .i64 x.2.2],.bool true]
 | none=>.tuple #[.agg #[.string ⟨#[]⟩,.int .i64 0,.int .i64 0],.bool false]
theorem qN8{w:World}(s:ByteArray)(hg:U4 w):
  Calls prog 145 #[.string s] w fun e w'=>e=.returned (js1 (zf9 s.toList))/\q9 (fun _=>False) w w':=by
 obtain⟨t,fr,hb⟩:=hg;have hx:=qN7;have hlt:=z8 hb;have HB:Hid ((w.alloc (.cells #[.string ⟨#[]⟩,.int .i64 0,.int .i64 0] 270)).heap[0]?=some (.cells zp0 t fr)):=(heap_alloc_old w _ hlt).trans hb;clear hb;go_enter func145,ntmps145;go_wp2_with (refine wpList_load_row rfl 321 _ rfl 0 rfl t zp0 fr _ HB.out underlying321 rfl (by kernel_rfl) ?_)
 go_loopw [7] (fun i wr=>∃ k:Nat,k<=9/\i=.int .i64 k/\(Y6.take k).find? (fun x=>x.1.toList==s.toList)=none/\q9 (fun _=>False) (w.alloc (.cells #[.string ⟨#[]⟩,.int .i64 0,.int .i64 0] 270)) wr) (fun i _=>9-(intOf i).toNat)
 case atStart=>exact⟨0,Nat.zero_le _,rfl,rfl,q9.refl _ _⟩
 case round=>
  obtain⟨k,hk,rfl,ha,hE⟩:=hrel;have HA:=q8 ha;have kb:wr.heap[w.heap.size]?=some (.cells #[.string ⟨#[]⟩,.int .i64 0,.int .i64 0] 270):=(hE.block _ (z8 (heap_alloc_new w _)) (fun f=>f)).trans (heap_alloc_new w _);have z0:=z6 kb 0;have z1:=z6 kb 1;have z2:=z6 kb 2;have y0:=Q8 kb 0;have y1:=Q8 kb 1;have y2:=Q8 kb 2;have hlt0:w.heap.size<wr.heap.size:=z8 kb;have hwn:¬w.heap.size=wr.heap.size:=by omega
  have HE:=q8 hE;have HE0:Hid (q9 (fun _=>False) w wr):=((q9.refl _ w).alloc _).trans hE;clear ha hE kb;by_cases hlt:k<9
  ·obtain⟨x,hx0⟩:∃ x,Y6[k]?=some x:=⟨_,List.getElem?_eq_getElem (l:=Y6) (i:=k) hlt⟩;have hix:∀ w,_:=fun w=>hx w k x hx0
   have HX:=q8 hx0;clear hx0 hx;cases hq:(x.1.toList==s.toList) with
   | true=>go_wp2_with fail;refine bodyPost_ret (v:=.tuple #[.agg #[.string x.1,.int .i64 x.2.1,.int .i64 x.2.2],.bool true]) (by simp[results,results145,go_sem,z0,z1,z2,hlt0]) rfl ⟨by rw[jl8 HA.out HX.out hq];rfl,?_⟩;refine q9.alloc ?_ _;exact((HE0.out.setCell (p:=⟨w.heap.size,0,none⟩) (fun h=>absurd h (Nat.lt_irrefl _)) _).setCell (p:=⟨w.heap.size,1,none⟩) (fun h=>absurd h (Nat.lt_irrefl _)) _).setCell (p:=⟨w.heap.size,2,none⟩) (fun h=>absurd h (Nat.lt_irrefl _)) _
   | false=>
    go_wp2_with fail
    go_roundw
    case measure=>simp[intOf];omega
    case rel=>exact⟨k+1,by omega,by go_num,qZ9 HA.out HX.out hq,HE.out.alloc _⟩
  ·have hnone:zf9 s.toList=none:=by
    have h1:=HA.out;rw[List.take_of_length_le (by show 9<=k;omega)] at h1;exact h1
   have HN:=q8 hnone;clear hnone hx;go_wp2_with fail;refine bodyPost_ret (v:=.tuple #[.agg #[.string ⟨#[]⟩,.int .i64 0,.int .i64 0],.bool false]) (by simp[results,results145,go_sem,z0,z1,z2]) rfl ⟨by rw[HN.out];rfl,?_⟩;exact((HE0.out.setCell (p:=⟨w.heap.size,0,none⟩) (fun h=>absurd h (Nat.lt_irrefl _)) _).setCell (p:=⟨w.heap.size,1,none⟩) (fun h=>absurd h (Nat.lt_irrefl _)) _).setCell (p:=⟨w.heap.size,2,none⟩) (fun h=>absurd h (Nat.lt_irrefl _)) _
theorem H7.of_new{w W:World}{c:V7}{d pl er:Int}{r:Rs (List Nd)}{en:Ending}{w':World}(hx:q9 (fun _=>False) w W)(h:H7 W c d pl er r en w'):H7 w c d pl er r en w':=by
 cases r with
 | no e p=>exact⟨(hx.mono (fun _ _ f=>f.elim)).trans h.1,h.2⟩
 | ok ps ts'=>obtain⟨h1,sa,sn,sc,kids,he,hrow,hr⟩:=h;have:=hx.size;exact⟨(hx.mono (fun _ _ f=>f.elim)).trans h1,sa,sn,sc,kids,he,hrow.mono (fun k _ hk=>Nat.le_trans this hk),hr⟩
theorem qC4{w:World}{c:V7}{ts:List Tk}{d pl er:Int}(n:Nat)(F T:List Tk->Rs Nd)(h:PR w c ts d pl er)(hn:ts.length<=n)(hfF:Fits F)(hfT:Fits T)
  (hf:∀ (w:World) (ts:List Tk),ts.length<=n->PR w c ts d pl er->Calls prog 72 #[.pointer (some ⟨c.rb,0,none⟩)] w (X7 w c d pl er (F ts)))
  (ht:∀ (w:World) (ts:List Tk),ts.length<=n->PR w c ts d pl er->Calls prog 153 #[.pointer (some ⟨c.rb,0,none⟩)] w (X7 w c d pl er (T ts))):
  Calls prog 146 #[.pointer (some ⟨c.rb,0,none⟩),.int .i64 0] w (H7 w c d pl er (J5 [F] ts)):=by
 have H:=q8 h;have HF:=q8 hf;have HT:=q8 ht;have HFF:=q8 hfF;have HTF:=q8 hfT;have HN:=q8 hn;have HRB:=q8 h.rbs;clear h hf ht hfF hfT hn;go_enter func146,ntmps146;go_wp2_with fail;obtain⟨W5,hW5⟩:∃ W5,w.alloc (Obj.cells #[(.func (.func 72) #[.pointer (some ⟨c.rb,0,none⟩)] #[])] 160)=W5:=⟨_,rfl⟩;have hx5:q9 (fun _=>False) w W5:=by rw[<- hW5];exact(q9.refl _ w).alloc _
 have kv5:W5.heap[w.heap.size]?=some (.cells #[(.func (.func 72) #[.pointer (some ⟨c.rb,0,none⟩)] #[])] 160):=by rw[<- hW5];exact heap_alloc_new w _
 rw[hW5];clear hW5;have hcells:∀ (i:Nat) (f:Nat × (List Tk->Rs Nd)),([(72,F)]:List (Nat × (List Tk->Rs Nd)))[i]?=some f->W5.cell? ⟨w.heap.size,i,none⟩=some (.func (.func f.1) #[.pointer (some ⟨c.rb,0,none⟩)] #[]):=fun i f hf2=>
  match i,f,hf2 with
   | 0,f,hf2=>by simp at hf2;subst hf2;exact z6 kv5 0
   | i+1,f,hf2=>by simp at hf2
 have HCALL:=q8 (qe6 w.heap.size 1 [(72,F)] (H.out.new hx5) (by simp) n HN.out
  (by intro f hf2;simp at hf2;rcases hf2 with rfl<;>first|exact HFF.out|exact HTF.out|exact zo2 5 (Or.inr rfl))
  (z8 kv5) (by have:=HRB.out;omega) hcells
  (by intro f hf2;simp at hf2;rcases hf2 with rfl<;>simp)
  (by intro f hf2;simp at hf2;rcases hf2 with rfl<;>first|exact HF.out|exact HT.out|exact fun w ts hl hP=>by obtain⟨t,us,rfl⟩:=hP.head;exact zH4 hP))
 have HX5:=q8 hx5;clear hx5 kv5 hcells;refine HCALL.out.mono ?_;clear HCALL;rintro en w6 hp;have hp6:=H7.of_new HX5.out hp;clear hp
 change H7 w c d pl er (J5 [F] ts) en w6 at hp6
 cases hrr:J5 [F] ts with
 | no e p=>
  rw[hrr] at hp6;obtain⟨hx6,rfl,hr6⟩:=hp6;have HX6:=q8 hx6;have HR6:=q8 hr6;have HRES:=q8 hrr;clear hx6 hr6 hrr;go_wp2_with fail
  go_ret2
  rw[HRES.out];exact⟨HX6.out,rfl,HR6.out⟩
 | ok ps ts'=>
  rw[hrr] at hp6;obtain⟨hx6,sa,sn,sc,kids,rfl,hr6⟩:=hp6;have HX6:=q8 hx6;have HR6:=q8 hr6;have HRES:=q8 hrr;clear hx6 hr6 hrr;go_wp2_with fail
  go_ret2
  rw[HRES.out];exact⟨HX6.out,sa,sn,sc,kids,rfl,HR6.out⟩
theorem qC5{w:World}{c:V7}{ts:List Tk}{d pl er:Int}(n:Nat)(F T:List Tk->Rs Nd)(h:PR w c ts d pl er)(hn:ts.length<=n)(hfF:Fits F)(hfT:Fits T)
  (hf:∀ (w:World) (ts:List Tk),ts.length<=n->PR w c ts d pl er->Calls prog 72 #[.pointer (some ⟨c.rb,0,none⟩)] w (X7 w c d pl er (F ts)))
  (ht:∀ (w:World) (ts:List Tk),ts.length<=n->PR w c ts d pl er->Calls prog 153 #[.pointer (some ⟨c.rb,0,none⟩)] w (X7 w c d pl er (T ts))):
  Calls prog 146 #[.pointer (some ⟨c.rb,0,none⟩),.int .i64 1] w (H7 w c d pl er (J5 [F,F] ts)):=by
 have H:=q8 h;have HF:=q8 hf;have HT:=q8 ht;have HFF:=q8 hfF;have HTF:=q8 hfT;have HN:=q8 hn;have HRB:=q8 h.rbs;clear h hf ht hfF hfT hn;go_enter func146,ntmps146;go_wp2_with fail;obtain⟨W5,hW5⟩:∃ W5,w.alloc (Obj.cells #[(.func (.func 72) #[.pointer (some ⟨c.rb,0,none⟩)] #[]),(.func (.func 72) #[.pointer (some ⟨c.rb,0,none⟩)] #[])] 160)=W5:=⟨_,rfl⟩;have hx5:q9 (fun _=>False) w W5:=by rw[<- hW5];exact(q9.refl _ w).alloc _
 have kv5:W5.heap[w.heap.size]?=some (.cells #[(.func (.func 72) #[.pointer (some ⟨c.rb,0,none⟩)] #[]),(.func (.func 72) #[.pointer (some ⟨c.rb,0,none⟩)] #[])] 160):=by rw[<- hW5];exact heap_alloc_new w _
 rw[hW5];clear hW5;have hcells:∀ (i:Nat) (f:Nat × (List Tk->Rs Nd)),([(72,F),(72,F)]:List (Nat × (List Tk->Rs Nd)))[i]?=some f->W5.cell? ⟨w.heap.size,i,none⟩=some (.func (.func f.1) #[.pointer (some ⟨c.rb,0,none⟩)] #[]):=fun i f hf2=>
  match i,f,hf2 with
   | 0,f,hf2=>by simp at hf2;subst hf2;exact z6 kv5 0
   | 1,f,hf2=>by simp at hf2;subst hf2;exact z6 kv5 1
   | i+2,f,hf2=>by simp at hf2
 have HCALL:=q8 (qe6 w.heap.size 2 [(72,F),(72,F)] (H.out.new hx5) (by simp) n HN.out
  (by intro f hf2;simp at hf2;rcases hf2 with rfl|rfl<;>first|exact HFF.out|exact HTF.out|exact zo2 5 (Or.inr rfl))
  (z8 kv5) (by have:=HRB.out;omega) hcells
  (by intro f hf2;simp at hf2;rcases hf2 with rfl|rfl<;>simp)
  (by intro f hf2;simp at hf2;rcases hf2 with rfl|rfl<;>first|exact HF.out|exact HT.out|exact fun w ts hl hP=>by obtain⟨t,us,rfl⟩:=hP.head;exact zH4 hP))
 have HX5:=q8 hx5;clear hx5 kv5 hcells;refine HCALL.out.mono ?_;clear HCALL;rintro en w6 hp;have hp6:=H7.of_new HX5.out hp;clear hp
 change H7 w c d pl er (J5 [F,F] ts) en w6 at hp6
 cases hrr:J5 [F,F] ts with
 | no e p=>
  rw[hrr] at hp6;obtain⟨hx6,rfl,hr6⟩:=hp6;have HX6:=q8 hx6;have HR6:=q8 hr6;have HRES:=q8 hrr;clear hx6 hr6 hrr;go_wp2_with fail
  go_ret2
  rw[HRES.out];exact⟨HX6.out,rfl,HR6.out⟩
 | ok ps ts'=>
  rw[hrr] at hp6;obtain⟨hx6,sa,sn,sc,kids,rfl,hr6⟩:=hp6;have HX6:=q8 hx6;have HR6:=q8 hr6;have HRES:=q8 hrr;clear hx6 hr6 hrr;go_wp2_with fail
  go_ret2
  rw[HRES.out];exact⟨HX6.out,sa,sn,sc,kids,rfl,HR6.out⟩
theorem qC6{w:World}{c:V7}{ts:List Tk}{d pl er:Int}(n:Nat)(F T:List Tk->Rs Nd)(h:PR w c ts d pl er)(hn:ts.length<=n)(hfF:Fits F)(hfT:Fits T)
  (hf:∀ (w:World) (ts:List Tk),ts.length<=n->PR w c ts d pl er->Calls prog 72 #[.pointer (some ⟨c.rb,0,none⟩)] w (X7 w c d pl er (F ts)))
  (ht:∀ (w:World) (ts:List Tk),ts.length<=n->PR w c ts d pl er->Calls prog 153 #[.pointer (some ⟨c.rb,0,none⟩)] w (X7 w c d pl er (T ts))):
  Calls prog 146 #[.pointer (some ⟨c.rb,0,none⟩),.int .i64 3] w (H7 w c d pl er (J5 [T,T] ts)):=by
 have H:=q8 h;have HF:=q8 hf;have HT:=q8 ht;have HFF:=q8 hfF;have HTF:=q8 hfT;have HN:=q8 hn;have HRB:=q8 h.rbs;clear h hf ht hfF hfT hn;go_enter func146,ntmps146;go_wp2_with fail;obtain⟨W5,hW5⟩:∃ W5,w.alloc (Obj.cells #[(.func (.func 153) #[.pointer (some ⟨c.rb,0,none⟩)] #[]),(.func (.func 153) #[.pointer (some ⟨c.rb,0,none⟩)] #[])] 160)=W5:=⟨_,rfl⟩;have hx5:q9 (fun _=>False) w W5:=by rw[<- hW5];exact(q9.refl _ w).alloc _
 have kv5:W5.heap[w.heap.size]?=some (.cells #[(.func (.func 153) #[.pointer (some ⟨c.rb,0,none⟩)] #[]),(.func (.func 153) #[.pointer (some ⟨c.rb,0,none⟩)] #[])] 160):=by rw[<- hW5];exact heap_alloc_new w _
 rw[hW5];clear hW5;have hcells:∀ (i:Nat) (f:Nat × (List Tk->Rs Nd)),([(153,T),(153,T)]:List (Nat × (List Tk->Rs Nd)))[i]?=some f->W5.cell? ⟨w.heap.size,i,none⟩=some (.func (.func f.1) #[.pointer (some ⟨c.rb,0,none⟩)] #[]):=fun i f hf2=>
  match i,f,hf2 with
   | 0,f,hf2=>by simp at hf2;subst hf2;exact z6 kv5 0
   | 1,f,hf2=>by simp at hf2;subst hf2;exact z6 kv5 1
   | i+2,f,hf2=>by simp at hf2
 have HCALL:=q8 (qe6 w.heap.size 2 [(153,T),(153,T)] (H.out.new hx5) (by simp) n HN.out
  (by intro f hf2;simp at hf2;rcases hf2 with rfl|rfl<;>first|exact HFF.out|exact HTF.out|exact zo2 5 (Or.inr rfl))
  (z8 kv5) (by have:=HRB.out;omega) hcells
  (by intro f hf2;simp at hf2;rcases hf2 with rfl|rfl<;>simp)
  (by intro f hf2;simp at hf2;rcases hf2 with rfl|rfl<;>first|exact HF.out|exact HT.out|exact fun w ts hl hP=>by obtain⟨t,us,rfl⟩:=hP.head;exact zH4 hP))
 have HX5:=q8 hx5;clear hx5 kv5 hcells;refine HCALL.out.mono ?_;clear HCALL;rintro en w6 hp;have hp6:=H7.of_new HX5.out hp;clear hp
 change H7 w c d pl er (J5 [T,T] ts) en w6 at hp6
 cases hrr:J5 [T,T] ts with
 | no e p=>
  rw[hrr] at hp6;obtain⟨hx6,rfl,hr6⟩:=hp6;have HX6:=q8 hx6;have HR6:=q8 hr6;have HRES:=q8 hrr;clear hx6 hr6 hrr;go_wp2_with fail
  go_ret2
  rw[HRES.out];exact⟨HX6.out,rfl,HR6.out⟩
 | ok ps ts'=>
  rw[hrr] at hp6;obtain⟨hx6,sa,sn,sc,kids,rfl,hr6⟩:=hp6;have HX6:=q8 hx6;have HR6:=q8 hr6;have HRES:=q8 hrr;clear hx6 hr6 hrr;go_wp2_with fail
  go_ret2
  rw[HRES.out];exact⟨HX6.out,sa,sn,sc,kids,rfl,HR6.out⟩
theorem qC7{w:World}{c:V7}{ts:List Tk}{d pl er:Int}(n:Nat)(F T:List Tk->Rs Nd)(h:PR w c ts d pl er)(hn:ts.length<=n)(hfF:Fits F)(hfT:Fits T)
  (hf:∀ (w:World) (ts:List Tk),ts.length<=n->PR w c ts d pl er->Calls prog 72 #[.pointer (some ⟨c.rb,0,none⟩)] w (X7 w c d pl er (F ts)))
  (ht:∀ (w:World) (ts:List Tk),ts.length<=n->PR w c ts d pl er->Calls prog 153 #[.pointer (some ⟨c.rb,0,none⟩)] w (X7 w c d pl er (T ts))):
  Calls prog 146 #[.pointer (some ⟨c.rb,0,none⟩),.int .i64 4] w (H7 w c d pl er (J5 [T,T,(V5 5)] ts)):=by
 have H:=q8 h;have HF:=q8 hf;have HT:=q8 ht;have HFF:=q8 hfF;have HTF:=q8 hfT;have HN:=q8 hn;have HRB:=q8 h.rbs;clear h hf ht hfF hfT hn;go_enter func146,ntmps146;go_wp2_with fail;obtain⟨W5,hW5⟩:∃ W5,w.alloc (Obj.cells #[(.func (.func 153) #[.pointer (some ⟨c.rb,0,none⟩)] #[]),(.func (.func 153) #[.pointer (some ⟨c.rb,0,none⟩)] #[]),(.func (.func 186) #[.pointer (some ⟨c.rb,0,none⟩)] #[])] 160)=W5:=⟨_,rfl⟩;have hx5:q9 (fun _=>False) w W5:=by rw[<- hW5];exact(q9.refl _ w).alloc _
 have kv5:W5.heap[w.heap.size]?=some (.cells #[(.func (.func 153) #[.pointer (some ⟨c.rb,0,none⟩)] #[]),(.func (.func 153) #[.pointer (some ⟨c.rb,0,none⟩)] #[]),(.func (.func 186) #[.pointer (some ⟨c.rb,0,none⟩)] #[])] 160):=by rw[<- hW5];exact heap_alloc_new w _
 rw[hW5];clear hW5;have hcells:∀ (i:Nat) (f:Nat × (List Tk->Rs Nd)),([(153,T),(153,T),(186,(V5 5))]:List (Nat × (List Tk->Rs Nd)))[i]?=some f->W5.cell? ⟨w.heap.size,i,none⟩=some (.func (.func f.1) #[.pointer (some ⟨c.rb,0,none⟩)] #[]):=fun i f hf2=>
  match i,f,hf2 with
   | 0,f,hf2=>by simp at hf2;subst hf2;exact z6 kv5 0
   | 1,f,hf2=>by simp at hf2;subst hf2;exact z6 kv5 1
   | 2,f,hf2=>by simp at hf2;subst hf2;exact z6 kv5 2
   | i+3,f,hf2=>by simp at hf2
 have HCALL:=q8 (qe6 w.heap.size 3 [(153,T),(153,T),(186,(V5 5))] (H.out.new hx5) (by simp) n HN.out
  (by intro f hf2;simp at hf2;rcases hf2 with rfl|rfl|rfl<;>first|exact HFF.out|exact HTF.out|exact zo2 5 (Or.inr rfl))
  (z8 kv5) (by have:=HRB.out;omega) hcells
  (by intro f hf2;simp at hf2;rcases hf2 with rfl|rfl|rfl<;>simp)
  (by intro f hf2;simp at hf2;rcases hf2 with rfl|rfl|rfl<;>first|exact HF.out|exact HT.out|exact fun w ts hl hP=>by obtain⟨t,us,rfl⟩:=hP.head;exact zH4 hP))
 have HX5:=q8 hx5;clear hx5 kv5 hcells;refine HCALL.out.mono ?_;clear HCALL;rintro en w6 hp;have hp6:=H7.of_new HX5.out hp;clear hp
 change H7 w c d pl er (J5 [T,T,(V5 5)] ts) en w6 at hp6
 cases hrr:J5 [T,T,(V5 5)] ts with
 | no e p=>
  rw[hrr] at hp6;obtain⟨hx6,rfl,hr6⟩:=hp6;have HX6:=q8 hx6;have HR6:=q8 hr6;have HRES:=q8 hrr;clear hx6 hr6 hrr;go_wp2_with fail
  go_ret2
  rw[HRES.out];exact⟨HX6.out,rfl,HR6.out⟩
 | ok ps ts'=>
  rw[hrr] at hp6;obtain⟨hx6,sa,sn,sc,kids,rfl,hr6⟩:=hp6;have HX6:=q8 hx6;have HR6:=q8 hr6;have HRES:=q8 hrr;clear hx6 hr6 hrr;go_wp2_with fail
  go_ret2
  rw[HRES.out];exact⟨HX6.out,sa,sn,sc,kids,rfl,HR6.out⟩
theorem qC8{w:World}{c:V7}{ts:List Tk}{d pl er:Int}(n:Nat)(F:List Tk->Rs Nd)(h:PR w c ts d pl er)(hn:ts.length<=n)(hfF:Fits F)
  (hf:∀ (w:World) (ts:List Tk),ts.length<=n->PR w c ts d pl er->Calls prog 72 #[.pointer (some ⟨c.rb,0,none⟩)] w (X7 w c d pl er (F ts))):
  Calls prog 146 #[.pointer (some ⟨c.rb,0,none⟩),.int .i64 2] w (H7 w c d pl er (X8 n F ts)):=by
 have HCALL:=q8 (jm1 n F h hn hfF hf);clear h hf hfF hn;go_enter func146,ntmps146;go_wp2_with fail;refine HCALL.out.mono ?_;clear HCALL;rintro en w6 hp6;cases hrr:X8 n F ts with
 | no e p=>
  rw[hrr] at hp6;obtain⟨hx6,rfl,hr6⟩:=hp6;have HX6:=q8 hx6;have HR6:=q8 hr6;have HRES:=q8 hrr;clear hx6 hr6 hrr;go_wp2_with fail
  go_ret2
  rw[HRES.out];exact⟨HX6.out,rfl,HR6.out⟩
 | ok ps ts'=>
  rw[hrr] at hp6;obtain⟨hx6,sa,sn,sc,kids,rfl,hr6⟩:=hp6;have HX6:=q8 hx6;have HR6:=q8 hr6;have HRES:=q8 hrr;clear hx6 hr6 hrr;go_wp2_with fail
  go_ret2
  rw[HRES.out];exact⟨HX6.out,sa,sn,sc,kids,rfl,HR6.out⟩
theorem ja0{w:World}{c:V7}{ts:List Tk}{d pl er:Int}(s:Int)(hs:s=0\/s=1\/s=2\/s=3\/s=4)(n:Nat)(F T:List Tk->Rs Nd)(h:PR w c ts d pl er)(hn:ts.length<=n)(hfF:Fits F)(hfT:Fits T)
  (hf:∀ (w:World) (ts:List Tk),ts.length<=n->PR w c ts d pl er->Calls prog 72 #[.pointer (some ⟨c.rb,0,none⟩)] w (X7 w c d pl er (F ts)))
  (ht:∀ (w:World) (ts:List Tk),ts.length<=n->PR w c ts d pl er->Calls prog 153 #[.pointer (some ⟨c.rb,0,none⟩)] w (X7 w c d pl er (T ts))):
  Calls prog 146 #[.pointer (some ⟨c.rb,0,none⟩),.int .i64 s] w (H7 w c d pl er (l9 s n F T (V5 5) ts)):=by
 rcases hs with rfl|rfl|rfl|rfl|rfl
 ·exact qC4 n F T h hn hfF hfT hf ht
 ·exact qC5 n F T h hn hfF hfT hf ht
 ·exact qC8 n F h hn hfF hf
 ·exact qC6 n F T h hn hfF hfT hf ht
 ·exact qC7 n F T h hn hfF hfT hf ht
theorem zJ2{l:List UInt8}{x:ByteArray × Int × Int}(h:zf9 l=some x):x.1.toList=l/\(x.2.2=0\/x.2.2=1\/x.2.2=2\/x.2.2=3\/x.2.2=4):=by have h1:=List.find?_some h;have h2:=List.mem_of_find?_eq_some h;refine⟨by simpa using h1,?_⟩;simp[Y6] at h2;rcases h2 with rfl|rfl|rfl|rfl|rfl|rfl|rfl|rfl|rfl<;>simp
theorem qd6{w:World}{s:ByteArray}(hg:U4 w)(h:zf9 s.toList=none):
  Calls prog 145 #[.string s] w fun e w'=>e=.returned (.tuple #[.agg #[.string ⟨#[]⟩,.int .i64 0,.int .i64 0],.bool false])/\q9 (fun _=>False) w w':=by
 have:=qN8 s hg;rw[h] at this;exact this
theorem qd7{w:World}{s:ByteArray}{x:ByteArray × Int × Int}(hg:U4 w)(h:zf9 s.toList=some x):
  Calls prog 145 #[.string s] w fun e w'=>e=.returned (.tuple #[.agg #[.string s,.int .i64 x.2.1,.int .i64 x.2.2],.bool true])/\q9 (fun _=>False) w w':=by
 have h1:=qN8 s hg;rw[h] at h1;rw[<- zb9 (zJ2 h).1];rw[<- zb9 (zJ2 h).1] at h1;exact h1
theorem qC9{w:World}{c:V7}{t:Tk}{ts:List Tk}{d pl er:Int}(h:PR w c (t::ts) d pl er)(hd:30<=d):
    Calls prog 108 #[.pointer (some ⟨c.rb,0,none⟩)] w (X7 w c d pl er (.no 6 t.pos)):=by
  have F0:=zh6;have F2:=zk9;have hrb:=h.rbs;have hrn:¬w.heap.size=c.rb:=by omega
  have htb:=h.tbs;have hsb:=h.sbs;have HNV:=q8 h.nvs;have HX0:Hid (q9 (fun _=>False) w (w.alloc (.cells #[.int .i64 0,.string ⟨#[]⟩,.int .i64 0,.slice none 0 0] 115))):=(q9.refl _ w).alloc _;have H0:=q8 (h.new HX0.out);clear h F0 F2;go_enter func108,ntmps108;go_wp2_with first
    | (go_at_call 144;refine(zF5 H0.out hd).mono ?_;rintro en w2 ⟨rfl,hx2,hr2⟩
       have HX2:Hid (q9 (· = c.rb) (w.alloc (.cells #[.int .i64 0,.string ⟨#[]⟩,.int .i64 0,.slice none 0 0] 115)) w2):=hx2;have kb:w2.heap[w.heap.size]?=some (.cells #[.int .i64 0,.string ⟨#[]⟩,.int .i64 0,.slice none 0 0] 115):=(HX2.out.block _ (z8 (heap_alloc_new w _)) hrn).trans (heap_alloc_new w _);have z0:=z6 kb 0;have z1:=z6 kb 1;have z2:=z6 kb 2;have z3:=z6 kb 3;have y0:=Q8 kb 0;have y1:=Q8 kb 1;have y2:=Q8 kb 2;have y3:=Q8 kb 3;clear kb;have HR2:=q8 hr2;clear hx2 hr2)
  refine bodyPost_ret (v:=.tuple #[.agg #[.int .i64 0,.string ⟨#[]⟩,.int .i64 0,.slice none 0 0],.bool false]) (by simp[results,results108,go_sem,z0,z1,z2,z3]) rfl ?_;exact U1 HX0.out HX2.out HR2.out (Z5 _ _ _ _ _ _) hrb htb hsb HNV.out
theorem ja1{w:World}{c:V7}{t u:Tk}{us:List Tk}{d pl er:Int}(h:PR w c (t::u::us) d pl er)(hd:d<30)(hne:t.txt.toList≠[])(ha:zf9 u.txt.toList=none):
    Calls prog 108 #[.pointer (some ⟨c.rb,0,none⟩)] w (X7 w c d pl er (.no 2 u.pos)):=by
  have F0:=zh6;have F2:=zk9;have hrb:=h.rbs;have hrn:¬w.heap.size=c.rb:=by omega
  have htb:=h.tbs;have hsb:=h.sbs;have HNV:=q8 h.nvs;have HX0:Hid (q9 (fun _=>False) w (w.alloc (.cells #[.int .i64 0,.string ⟨#[]⟩,.int .i64 0,.slice none 0 0] 115))):=(q9.refl _ w).alloc _;have H0:=q8 (h.new HX0.out);have HNE:=q8 hne;have HA:=q8 ha;clear h hne ha;go_enter func108,ntmps108;go_wp2_with (go_at_call 144;refine(zm5 H0.out hd HNE.out).mono ?_;rintro en w1 ⟨rfl,hx1,hr1⟩;have HX1:=q8 hx1;have HR1:=q8 hr1;clear hx1 hr1);refine(X5 HR1.out).mono ?_;rintro en w1a ⟨rfl,hx1a⟩;have HX1A:=q8 hx1a;clear hx1a;go_wp2_with fail;refine(qd6 (HR1.out.new HX1A.out).hd HA.out).mono ?_;rintro en w2 ⟨rfl,hx2⟩;have hx3:q9 (fun _=>False) w1 (w2.alloc (.cells #[.string ⟨#[]⟩,.int .i64 0,.int .i64 0] 270)):=(HX1A.out.trans hx2).alloc _;have HX3:=q8 hx3;clear hx2 hx3;go_wp2_with first
    | (go_at_call 110;refine(za3 _ (HR1.out.new HX3.out)).mono ?_;rintro en w4 ⟨rfl,hx4,hr4⟩
       have HX2:Hid (q9 (· = c.rb) (w.alloc (.cells #[.int .i64 0,.string ⟨#[]⟩,.int .i64 0,.slice none 0 0] 115)) w4):=(HX1.out.trans (HX3.out.mono (fun _ _ f=>f.elim))).trans hx4;have kb:w4.heap[w.heap.size]?=some (.cells #[.int .i64 0,.string ⟨#[]⟩,.int .i64 0,.slice none 0 0] 115):=(HX2.out.block _ (z8 (heap_alloc_new w _)) hrn).trans (heap_alloc_new w _);have z0:=z6 kb 0;have z1:=z6 kb 1;have z2:=z6 kb 2;have z3:=z6 kb 3;have y0:=Q8 kb 0;have y1:=Q8 kb 1;have y2:=Q8 kb 2;have y3:=Q8 kb 3;clear kb;have HR2:=q8 hr4;clear hx4 hr4)
  refine bodyPost_ret (v:=.tuple #[.agg #[.int .i64 0,.string ⟨#[]⟩,.int .i64 0,.slice none 0 0],.bool false]) (by simp[results,results108,go_sem,z0,z1,z2,z3]) rfl ?_;exact U1 HX0.out HX2.out HR2.out (Z5 _ _ _ _ _ _) hrb htb hsb HNV.out
theorem jv2{w:World}{c:V7}{t u:Tk}{us:List Tk}{d pl er:Int}(n:Nat)(x:ByteArray × Int × Int)(h:PR w c (t::u::us) d pl er)(hd:d<30)(hne:t.txt.toList≠[])(hx:zf9 u.txt.toList=some x)(hune:u.txt.toList≠[])(hus:us.length<=n)(F T:List Tk->Rs Nd)(hfF:Fits F)(hfT:Fits T)
    (hf:∀ (w:World) (ts:List Tk),ts.length<=n->PR w c ts (d+1) pl er->Calls prog 72 #[.pointer (some ⟨c.rb,0,none⟩)] w (X7 w c (d+1) pl er (F ts)))
    (ht:∀ (w:World) (ts:List Tk),ts.length<=n->PR w c ts (d+1) pl er->Calls prog 153 #[.pointer (some ⟨c.rb,0,none⟩)] w (X7 w c (d+1) pl er (T ts))):
    Calls prog 108 #[.pointer (some ⟨c.rb,0,none⟩)] w (X7 w c d pl er (J7 2 x.2.1 u.txt (l9 x.2.2 n F T (V5 5) us))):=by
  have F0:=zh6;have F2:=zk9;have hrb:=h.rbs;have hrn:¬w.heap.size=c.rb:=by omega
  have htb:=h.tbs;have hsb:=h.sbs;have HNV:=q8 h.nvs;have HX0:Hid (q9 (fun _=>False) w (w.alloc (.cells #[.int .i64 0,.string ⟨#[]⟩,.int .i64 0,.slice none 0 0] 115))):=(q9.refl _ w).alloc _;have H0:=q8 (h.new HX0.out);have HNE:=q8 hne;have HH:=q8 hx;have HUNE:=q8 hune;have hd0:=h.dlo;have HUS:=q8 hus;have HP:=q8 (fun(W:World) (hW:PR W c us (d+1) pl er)=>ja0 x.2.2 (zJ2 hx).2 n F T hW hus hfF hfT hf ht);clear h hne hx hune hfF hfT hf ht hus;go_enter func108,ntmps108;go_wp2_with (go_at_call 144;refine(zm5 H0.out hd HNE.out).mono ?_;rintro en w1 ⟨rfl,hx1,hr1⟩;have HX1:=q8 hx1;have HR1:=q8 hr1;clear hx1 hr1);refine(X5 HR1.out).mono ?_;rintro en w1a ⟨rfl,hx1a⟩;have HX1A:=q8 hx1a;clear hx1a;go_wp2_with fail;refine(qd7 (HR1.out.new HX1A.out).hd HH.out).mono ?_;rintro en w2 ⟨rfl,hx2⟩;have hx3:q9 (fun _=>False) w1 (w2.alloc (.cells #[.string u.txt,.int .i64 x.2.1,.int .i64 x.2.2] 270)):=(HX1A.out.trans hx2).alloc _;have HX3:=q8 hx3;have hs1:=HX1.out.size;have hs2:=(HX1A.out.trans hx2).size;have hsz1:w.heap.size<w1.heap.size:=by simp at hs1;omega
  have hsz2:w1.heap.size<=w2.heap.size:=hs2;have hrb2:c.rb<w2.heap.size:=by omega
  clear hx2 hx3 hs1 hs2;go_wp2_with fail;refine(zr2 (HR1.out.new HX3.out) HUNE.out).mono ?_;rintro en w4 ⟨rfl,hx4,hr4⟩;have kf:w4.heap[w2.heap.size]?=some (.cells #[.string u.txt,.int .i64 x.2.1,.int .i64 x.2.2] 270):=(hx4.block _ (z8 (heap_alloc_new w2 _)) (by show ¬w2.heap.size=c.rb;omega)).trans (heap_alloc_new w2 _);have q2:=z6 kf 2;have hl4:=z8 kf;have hs4:=hx4.size;have HX04:Hid (q9 (· = c.rb) (w.alloc (.cells #[.int .i64 0,.string ⟨#[]⟩,.int .i64 0,.slice none 0 0] 115)) w4):=(HX1.out.trans (HX3.out.mono (fun _ _ f=>f.elim))).trans hx4;have HR4:=q8 hr4;have KF:=q8 kf;clear hx4 hr4 kf hs4;go_wp2_with fail;refine(HP.out w4 HR4.out).mono ?_;clear q2;cases hrr:l9 x.2.2 n F T (V5 5) us with
  | no e p=>
    have HRES:Hid (J7 2 x.2.1 u.txt (l9 x.2.2 n F T (V5 5) us)=.no e p):=by show _=_;rw[hrr];rfl
    clear hrr;rintro en w7 ⟨hx7,rfl,ts',d',hr7⟩;have HX2:Hid (q9 (· = c.rb) (w.alloc (.cells #[.int .i64 0,.string ⟨#[]⟩,.int .i64 0,.slice none 0 0] 115)) w7):=HX04.out.trans hx7;have kb:w7.heap[w.heap.size]?=some (.cells #[.int .i64 0,.string ⟨#[]⟩,.int .i64 0,.slice none 0 0] 115):=(HX2.out.block _ (z8 (heap_alloc_new w _)) hrn).trans (heap_alloc_new w _);have z0:=z6 kb 0;have z1:=z6 kb 1;have z2:=z6 kb 2;have z3:=z6 kb 3;have y0:=Q8 kb 0;have y1:=Q8 kb 1;have y2:=Q8 kb 2;have y3:=Q8 kb 3;clear kb;have HR2:=q8 hr7;clear hx7 hr7;go_wp2_with fail;rw[HRES.out];refine bodyPost_ret (v:=.tuple #[.agg #[.int .i64 0,.string ⟨#[]⟩,.int .i64 0,.slice none 0 0],.bool false]) (by simp[results,results108,go_sem,z0,z1,z2,z3]) rfl ?_;exact U1 HX0.out HX2.out HR2.out (Z5 _ _ _ _ _ _) hrb htb hsb HNV.out
  | ok ps ts'=>
    rintro en w7 ⟨hx7,sa,sn,sc,kids,rfl,hrow7,hr7⟩;obtain⟨v,vs,rfl⟩:=hr7.head;have hl7:w2.heap.size<w7.heap.size:=Nat.lt_of_lt_of_le hl4 hx7.size;have HROW7:Hid (zw7 w7 (fun k=>w.heap.size<k) (.slice sa sn sc) ps kids):=hrow7.mono (fun k _ hk=>by have h5:w4.heap.size<=k:=hk;show w.heap.size<k;omega);have HX07:=q8 (HX04.out.trans hx7);have KF7:=q8 ((hx7.block _ (z8 KF.out) (by show ¬w2.heap.size=c.rb;omega)).trans KF.out);have HR7:=q8 hr7;clear hx7 hr7 hrow7;by_cases hq:v.txt.toList=[41]
    · have HRES:Hid (J7 2 x.2.1 u.txt (l9 x.2.2 n F T (V5 5) us)=.ok (.mk x.2.1 u.txt 0 ps) vs):=by
        show _=_;rw[hrr,J7,zd4,if_pos hq]
      clear hrr;go_wp2_with first
        | (go_at_call 147;refine(zJ4 _ HR7.out (by omega) hq).mono ?_;rintro en w8 ⟨rfl,hx8,hr8⟩
           have HX2:Hid (q9 (· = c.rb) (w.alloc (.cells #[.int .i64 0,.string ⟨#[]⟩,.int .i64 0,.slice none 0 0] 115)) w8):=HX07.out.trans hx8;have kb:w8.heap[w.heap.size]?=some (.cells #[.int .i64 0,.string ⟨#[]⟩,.int .i64 0,.slice none 0 0] 115):=(HX2.out.block _ (z8 (heap_alloc_new w _)) hrn).trans (heap_alloc_new w _);have z0:=z6 kb 0;have z1:=z6 kb 1;have z2:=z6 kb 2;have z3:=z6 kb 3;have y0:=Q8 kb 0;have y1:=Q8 kb 1;have y2:=Q8 kb 2;have y3:=Q8 kb 3;clear kb;have kf8:=(hx8.block _ (z8 KF7.out) (by show ¬w2.heap.size=c.rb;omega)).trans KF7.out;have q80:=z6 kf8 0;have q81:=z6 kf8 1;have HROW8:=q8 (HROW7.out.ext hx8 (fun k _ hk e=>by have h5:w.heap.size<k:=hk;have h6:k=c.rb:=e;omega));rw[show d+1-1=d from by omega] at hr8;have HR2:=q8 hr8;clear hx8 hr8 kf8)
      rw[HRES.out];refine bodyPost_ret (v:=.tuple #[.agg #[.int .i64 x.2.1,.string u.txt,.int .i64 0,.slice sa sn sc],.bool true]) (by simp[results,results108,go_sem,z0,z1,z2,z3]) rfl ?_;exact zd9 HX0.out HX2.out HR2.out (qe7 HROW8.out) (Z5 _ _ _ _ _ _) hrb htb hsb HNV.out
    · have HRES:Hid (J7 2 x.2.1 u.txt (l9 x.2.2 n F T (V5 5) us)=.no (zJ5 2 v.txt.toList) v.pos):=by
        show _=_;rw[hrr,J7,zd4,if_neg hq];unfold zJ5;split<;>rfl
      clear hrr;go_wp2_with first
        | (go_at_call 147;refine(zJ6 _ HR7.out hq).mono ?_;rintro en w8 ⟨rfl,hx8,hr8⟩
           have HX2:Hid (q9 (· = c.rb) (w.alloc (.cells #[.int .i64 0,.string ⟨#[]⟩,.int .i64 0,.slice none 0 0] 115)) w8):=HX07.out.trans hx8;have kb:w8.heap[w.heap.size]?=some (.cells #[.int .i64 0,.string ⟨#[]⟩,.int .i64 0,.slice none 0 0] 115):=(HX2.out.block _ (z8 (heap_alloc_new w _)) hrn).trans (heap_alloc_new w _);have z0:=z6 kb 0;have z1:=z6 kb 1;have z2:=z6 kb 2;have z3:=z6 kb 3;have y0:=Q8 kb 0;have y1:=Q8 kb 1;have y2:=Q8 kb 2;have y3:=Q8 kb 3;clear kb;have HR2:=q8 hr8;clear hx8 hr8)
      rw[HRES.out];refine bodyPost_ret (v:=.tuple #[.agg #[.int .i64 0,.string ⟨#[]⟩,.int .i64 0,.slice none 0 0],.bool false]) (by simp[results,results108,go_sem,z0,z1,z2,z3]) rfl ?_;exact U1 HX0.out HX2.out HR2.out (Z5 _ _ _ _ _ _) hrb htb hsb HNV.out
theorem qD0{w:World}{c:V7}{t:Tk}{ts:List Tk}{d pl er:Int}(r:Rs Nd)(h:PR w c (t::ts) d pl er)(ho:(t.txt.toList==[40])=true)
  (hf:∀ (w:World),PR w c (t::ts) d pl er->Calls prog 108 #[.pointer (some ⟨c.rb,0,none⟩)] w (X7 w c d pl er r)):
  Calls prog 72 #[.pointer (some ⟨c.rb,0,none⟩)] w (X7 w c d pl er r):=by
 have F0:=zh6;have F2:=zk9;have hrb:=h.rbs;have hrn:¬w.heap.size=c.rb:=by omega
 have htb:=h.tbs;have hsb:=h.sbs;have HNV:=q8 h.nvs;have HX0:Hid (q9 (fun _=>False) w (w.alloc (.cells #[.int .i64 0,.string ⟨#[]⟩,.int .i64 0,.slice none 0 0] 115))):=(q9.refl _ w).alloc _;have H0:=q8 (h.new HX0.out);have HF:=q8 hf;have hk:=(zj2 (l:=t.txt.toList)).trans ho;clear F2;clear h hf ho;cases r with
 | no e p=>
  go_enter func72,ntmps72;go_wp2_with first
    | (go_at_call 107;refine(X5 H0.out).mono ?_;rintro en w1 ⟨rfl,hx1⟩;have HX1:=q8 hx1;clear hx1)
  refine(HF.out _ (H0.out.new HX1.out)).mono ?_;rintro en w5 ⟨hx5,rfl,ts',d',hr2⟩;have HX2:Hid (q9 (· = c.rb) (w.alloc (.cells #[.int .i64 0,.string ⟨#[]⟩,.int .i64 0,.slice none 0 0] 115)) w5):=(HX1.out.mono (fun _ _ f=>f.elim)).trans hx5;have kb:w5.heap[w.heap.size]?=some (.cells #[.int .i64 0,.string ⟨#[]⟩,.int .i64 0,.slice none 0 0] 115):=(HX2.out.block _ (z8 (heap_alloc_new w _)) hrn).trans (heap_alloc_new w _);have z0:=z6 kb 0;have z1:=z6 kb 1;have z2:=z6 kb 2;have z3:=z6 kb 3;have y0:=Q8 kb 0;have y1:=Q8 kb 1;have y2:=Q8 kb 2;have y3:=Q8 kb 3;clear kb;clear hx5;go_wp2_with fail;refine bodyPost_ret (v:=.tuple #[.agg #[.int .i64 0,.string ⟨#[]⟩,.int .i64 0,.slice none 0 0],.bool false]) (by simp[results,results72,go_sem,z0,z1,z2,z3]) rfl ?_;exact U1 HX0.out HX2.out hr2 (Z5 _ _ _ _ _ _) hrb htb hsb HNV.out
 | ok nd ts'=>
  go_enter func72,ntmps72;go_wp2_with first
    | (go_at_call 107;refine(X5 H0.out).mono ?_;rintro en w1 ⟨rfl,hx1⟩;have HX1:=q8 hx1;clear hx1)
  refine(HF.out _ (H0.out.new HX1.out)).mono ?_;rintro en w5 ⟨hx5,k,wd,v,sa,sn,sc,rfl,hn,hr2⟩;have HX2:Hid (q9 (· = c.rb) (w.alloc (.cells #[.int .i64 0,.string ⟨#[]⟩,.int .i64 0,.slice none 0 0] 115)) w5):=(HX1.out.mono (fun _ _ f=>f.elim)).trans hx5;have kb:w5.heap[w.heap.size]?=some (.cells #[.int .i64 0,.string ⟨#[]⟩,.int .i64 0,.slice none 0 0] 115):=(HX2.out.block _ (z8 (heap_alloc_new w _)) hrn).trans (heap_alloc_new w _);have z0:=z6 kb 0;have z1:=z6 kb 1;have z2:=z6 kb 2;have z3:=z6 kb 3;have y0:=Q8 kb 0;have y1:=Q8 kb 1;have y2:=Q8 kb 2;have y3:=Q8 kb 3;clear kb;have hsz:=HX1.out.size;have HPN:=q8 (hn.mono (D':=fun k=>w.heap.size<k) (fun k _ hk=>by have h1:w1.heap.size<=k:=hk;simp at hsz;show w.heap.size<k;omega));clear hx5 hn hsz;go_wp2_with fail;refine bodyPost_ret (v:=.tuple #[.agg #[.int .i64 k,.string wd,.int .i64 v,.slice sa sn sc],.bool true]) (by simp[results,results72,go_sem,z0,z1,z2,z3]) rfl ?_;exact zd9 HX0.out HX2.out hr2 HPN.out (Z5 _ _ _ _ _ _) hrb htb hsb HNV.out
theorem qd8{w:World}{c:V7}{t:Tk}{ts:List Tk}{d pl er:Int}(h:PR w c (t::ts) d pl er)(ho:(t.txt.toList==[40])=false)(hw:t.txt.toList=zn9):
    Calls prog 72 #[.pointer (some ⟨c.rb,0,none⟩)] w (X7 w c d pl er (.ok (.mk 0 t.txt 0 []) ts)):=by
  have F0:=zh6;have F2:=zk9;have hrb:=h.rbs;have hrn:¬w.heap.size=c.rb:=by omega
  have htb:=h.tbs;have hsb:=h.sbs;have HNV:=q8 h.nvs;have HX0:Hid (q9 (fun _=>False) w (w.alloc (.cells #[.int .i64 0,.string ⟨#[]⟩,.int .i64 0,.slice none 0 0] 115))):=(q9.refl _ w).alloc _;have H0:=q8 (h.new HX0.out);have hk:=(zj2 (l:=t.txt.toList)).trans ho;have HNE:Hid (t.txt.toList≠[]):=by rw[hw];exact(by decide:(zn9:List UInt8)≠[])
  have e1:(t.txt.toList==[116,114,117,101])=true:=by rw[hw];rfl
  have htx:t.txt=⟨#[116,114,117,101]⟩:=zb9 (hw.trans (by kernel_rfl));have HTX:=q8 htx;clear h ho hw htx;go_enter func72,ntmps72;go_wp2_with first
     | (go_at_call 107;refine(X5 (H0.out)).mono ?_;rintro en w1 ⟨rfl,hx1⟩;have HX1:=q8 hx1;clear hx1)
     | (go_at_call 107;refine(X5 (H0.out.new HX1.out)).mono ?_;rintro en w2 ⟨rfl,hx2⟩;have HX2a:=q8 hx2;clear hx2)
     | (go_at_call 109;refine(zr2 (H0.out.new (HX1.out.trans HX2a.out)) HNE.out).mono ?_;rintro en w4 ⟨rfl,hx4,hr4⟩
        have HX2:Hid (q9 (· = c.rb) (w.alloc (.cells #[.int .i64 0,.string ⟨#[]⟩,.int .i64 0,.slice none 0 0] 115)) w4):=((HX1.out.trans HX2a.out).mono (fun _ _ f=>f.elim)).trans hx4;have kb:w4.heap[w.heap.size]?=some (.cells #[.int .i64 0,.string ⟨#[]⟩,.int .i64 0,.slice none 0 0] 115):=(HX2.out.block _ (z8 (heap_alloc_new w _)) hrn).trans (heap_alloc_new w _);have z0:=z6 kb 0;have z1:=z6 kb 1;have z2:=z6 kb 2;have z3:=z6 kb 3;have y0:=Q8 kb 0;have y1:=Q8 kb 1;have y2:=Q8 kb 2;have y3:=Q8 kb 3;clear kb;have HR2:=q8 hr4;clear hx4 hr4)
  refine bodyPost_ret (v:=.tuple #[.agg #[.int .i64 0,.string ⟨#[116,114,117,101]⟩,.int .i64 0,.slice none 0 0],.bool true]) (by simp[results,results72,go_sem,z0,z1,z2,z3]) rfl ?_;rw[HTX.out];exact zd9 HX0.out HX2.out HR2.out (PN.leaf 0 0 _) (Z5 _ _ _ _ _ _) hrb htb hsb HNV.out
theorem zY2{w:World}{c:V7}{t:Tk}{ts:List Tk}{d pl er:Int}(h:PR w c (t::ts) d pl er)(ho:(t.txt.toList==[40])=false)(hw:t.txt.toList=zh7):
    Calls prog 72 #[.pointer (some ⟨c.rb,0,none⟩)] w (X7 w c d pl er (.ok (.mk 0 t.txt 0 []) ts)):=by
  have F0:=zh6;have F2:=zk9;have hrb:=h.rbs;have hrn:¬w.heap.size=c.rb:=by omega
  have htb:=h.tbs;have hsb:=h.sbs;have HNV:=q8 h.nvs;have HX0:Hid (q9 (fun _=>False) w (w.alloc (.cells #[.int .i64 0,.string ⟨#[]⟩,.int .i64 0,.slice none 0 0] 115))):=(q9.refl _ w).alloc _;have H0:=q8 (h.new HX0.out);have hk:=(zj2 (l:=t.txt.toList)).trans ho;have HNE:Hid (t.txt.toList≠[]):=by rw[hw];exact(by decide:(zh7:List UInt8)≠[])
  have e1:(t.txt.toList==[116,114,117,101])=false:=by rw[hw];rfl
  have e2:(t.txt.toList==[102,97,108,115,101])=true:=by rw[hw];rfl
  have htx:t.txt=⟨#[102,97,108,115,101]⟩:=zb9 (hw.trans (by kernel_rfl));have HTX:=q8 htx;clear h ho hw htx;go_enter func72,ntmps72;go_wp2_with first
     | (go_at_call 107;refine(X5 (H0.out)).mono ?_;rintro en w1 ⟨rfl,hx1⟩;have HX1:=q8 hx1;clear hx1)
     | (go_at_call 107;refine(X5 (H0.out.new HX1.out)).mono ?_;rintro en w2 ⟨rfl,hx2⟩;have HX2a:=q8 hx2;clear hx2)
     | (go_at_call 109;refine(zr2 (H0.out.new (HX1.out.trans HX2a.out)) HNE.out).mono ?_;rintro en w4 ⟨rfl,hx4,hr4⟩
        have HX2:Hid (q9 (· = c.rb) (w.alloc (.cells #[.int .i64 0,.string ⟨#[]⟩,.int .i64 0,.slice none 0 0] 115)) w4):=((HX1.out.trans HX2a.out).mono (fun _ _ f=>f.elim)).trans hx4;have kb:w4.heap[w.heap.size]?=some (.cells #[.int .i64 0,.string ⟨#[]⟩,.int .i64 0,.slice none 0 0] 115):=(HX2.out.block _ (z8 (heap_alloc_new w _)) hrn).trans (heap_alloc_new w _);have z0:=z6 kb 0;have z1:=z6 kb 1;have z2:=z6 kb 2;have z3:=z6 kb 3;have y0:=Q8 kb 0;have y1:=Q8 kb 1;have y2:=Q8 kb 2;have y3:=Q8 kb 3;clear kb;have HR2:=q8 hr4;clear hx4 hr4)
  refine bodyPost_ret (v:=.tuple #[.agg #[.int .i64 0,.string ⟨#[102,97,108,115,101]⟩,.int .i64 0,.slice none 0 0],.bool true]) (by simp[results,results72,go_sem,z0,z1,z2,z3]) rfl ?_;rw[HTX.out];exact zd9 HX0.out HX2.out HR2.out (PN.leaf 0 0 _) (Z5 _ _ _ _ _ _) hrb htb hsb HNV.out
theorem qD1{w:World}{c:V7}{t:Tk}{ts:List Tk}{d pl er:Int}(h:PR w c (t::ts) d pl er)(ho:(t.txt.toList==[40])=false)(hw1:¬t.txt.toList=zn9)(hw2:¬t.txt.toList=zh7):
    Calls prog 72 #[.pointer (some ⟨c.rb,0,none⟩)] w (X7 w c d pl er (.no 2 t.pos)):=by
  have F0:=zh6;have F2:=zk9;have hrb:=h.rbs;have hrn:¬w.heap.size=c.rb:=by omega
  have htb:=h.tbs;have hsb:=h.sbs;have HNV:=q8 h.nvs;have HX0:Hid (q9 (fun _=>False) w (w.alloc (.cells #[.int .i64 0,.string ⟨#[]⟩,.int .i64 0,.slice none 0 0] 115))):=(q9.refl _ w).alloc _;have H0:=q8 (h.new HX0.out);have hk:=(zj2 (l:=t.txt.toList)).trans ho;have e1:(t.txt.toList==[116,114,117,101])=false:=beq_eq_false_iff_ne.2 hw1;have e2:(t.txt.toList==[102,97,108,115,101])=false:=beq_eq_false_iff_ne.2 hw2;clear h ho hw1 hw2;go_enter func72,ntmps72;go_wp2_with first
     | (go_at_call 107;refine(X5 (H0.out)).mono ?_;rintro en w1 ⟨rfl,hx1⟩;have HX1:=q8 hx1;clear hx1)
     | (go_at_call 107;refine(X5 (H0.out.new HX1.out)).mono ?_;rintro en w2 ⟨rfl,hx2⟩;have HX2a:=q8 hx2;clear hx2)
     | (go_at_call 110;refine(za3 _ (H0.out.new (HX1.out.trans HX2a.out))).mono ?_;rintro en w4 ⟨rfl,hx4,hr4⟩
        have HX2:Hid (q9 (· = c.rb) (w.alloc (.cells #[.int .i64 0,.string ⟨#[]⟩,.int .i64 0,.slice none 0 0] 115)) w4):=((HX1.out.trans HX2a.out).mono (fun _ _ f=>f.elim)).trans hx4;have kb:w4.heap[w.heap.size]?=some (.cells #[.int .i64 0,.string ⟨#[]⟩,.int .i64 0,.slice none 0 0] 115):=(HX2.out.block _ (z8 (heap_alloc_new w _)) hrn).trans (heap_alloc_new w _);have z0:=z6 kb 0;have z1:=z6 kb 1;have z2:=z6 kb 2;have z3:=z6 kb 3;have y0:=Q8 kb 0;have y1:=Q8 kb 1;have y2:=Q8 kb 2;have y3:=Q8 kb 3;clear kb;have HR2:=q8 hr4;clear hx4 hr4)
  refine bodyPost_ret (v:=.tuple #[.agg #[.int .i64 0,.string ⟨#[]⟩,.int .i64 0,.slice none 0 0],.bool false]) (by simp[results,results72,go_sem,z0,z1,z2,z3]) rfl ?_;exact U1 HX0.out HX2.out HR2.out (Z5 _ _ _ _ _ _) hrb htb hsb HNV.out
theorem qD2(c:V7)(pl er:Int)(n:Nat):∀ (w:World) (ts:List Tk) (d:Int),ts.length<=n->PR w c ts d pl er->Calls prog 72 #[.pointer (some ⟨c.rb,0,none⟩)] w (X7 w c d pl er (K6 c.N n d ts)):=by
 induction n with
 | zero=>intro w ts d hn h;obtain⟨t,us,rfl⟩:=h.head;simp at hn
 | succ n ih=>
  intro w ts d hn h;obtain⟨t,us,rfl⟩:=h.head;cases ho:(t.txt.toList==[40]) with
  | true=>
   have ho':t.txt.toList=[40]:=beq_iff_eq.1 ho;have hne:t.txt.toList≠[]:=by rw[ho'];simp
   have h1:=h.wf.tail hne;obtain⟨u,us0,rfl⟩:∃ u us0,us=u::us0:=by
    cases us with
    | nil=>exact absurd rfl h1.ne
    | cons u us0=>exact⟨u,us0,rfl⟩
   refine qD0 _ h ho (fun W hW=>?_);by_cases hd:30<=d
   ·have er':K6 c.N (n+1) d (t::u::us0)=.no 6 t.pos:=by rw[K6,if_pos ho',if_pos hd]
    rw[er'];exact qC9 hW hd
   ·have hd':d<30:=by omega
    cases hh:zf9 u.txt.toList with
    | none=>
     have er':K6 c.N (n+1) d (t::u::us0)=.no 2 u.pos:=by rw[K6,if_pos ho',if_neg hd];simp only[zS6,hh,Option.map_none]
     rw[er'];exact ja1 hW hd' hne hh
    | some x=>
     have er':K6 c.N (n+1) d (t::u::us0)=J7 2 x.2.1 u.txt (l9 x.2.2 n (K6 c.N n (d+1)) (X0 c.N n (d+1)) (V5 5) us0):=by rw[K6,if_pos ho',if_neg hd];simp only[zS6,hh,Option.map_some]
     have hune:u.txt.toList≠[]:=by intro e;rw[e] at hh;rw[show zf9 []=none from by kernel_rfl] at hh;cases hh
     rw[er'];exact jv2 n x hW hd' hne hh hune (by simp at hn;omega) _ _ (zV8 c.N n (d+1)) (zu4 c.N n (d+1)) (fun W' ts' hl hP=>ih W' ts' (d+1) hl hP) (fun W' ts' hl hP=>qN6 c pl er n W' ts' (d+1) hl hP)
  | false=>
   have ho':¬t.txt.toList=[40]:=by simpa using ho
   by_cases h1:t.txt.toList=zn9
   ·have er':K6 c.N (n+1) d (t::us)=.ok (.mk 0 t.txt 0 []) us:=by rw[K6.eq_def];simp only;rw[if_neg ho',if_pos (Or.inl h1)]
    rw[er'];exact qd8 h ho h1
   ·by_cases h2:t.txt.toList=zh7
    ·have er':K6 c.N (n+1) d (t::us)=.ok (.mk 0 t.txt 0 []) us:=by rw[K6.eq_def];simp only;rw[if_neg ho',if_pos (Or.inr h2)]
     rw[er'];exact zY2 h ho h2
    ·have er':K6 c.N (n+1) d (t::us)=.no 2 t.pos:=by rw[K6.eq_def];simp only;rw[if_neg ho',if_neg (fun e=>e.elim h1 h2)]
     rw[er'];exact qD1 h ho h1 h2
end Go.Proofs.YtegbdaffhpiacaaGreatDoor
