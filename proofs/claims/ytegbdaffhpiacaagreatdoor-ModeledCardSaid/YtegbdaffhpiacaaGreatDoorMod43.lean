/- A part of the proof. -/
import Derived.Test.YtegbdaffhpiacaaGreatDoorMod10
import Derived.Test.YtegbdaffhpiacaaGreatDoorMod08
namespace Go.Proofs.YtegbdaffhpiacaaGreatDoor
namespace Ar
def okc(c:UInt8):Bool := !zq8 c && !zs1 c
def zJ9(wd:List UInt8):List (List UInt8):=if wd=[] then [] else [wd]
def wds:List UInt8->List UInt8->List (List UInt8)
 | wd,[]=>zJ9 wd++[[]]
 | wd,c::r=>if zq8 c then zJ9 wd++[c]::wds [] r else if zs1 c then zJ9 wd++wds [] r else wds (wd++[c]) r
def txL(t:Tk):List UInt8:=t.txt.toList
theorem zr5(i:Nat)(wd:List UInt8):(zc2 i wd).map txL=zJ9 wd:=by
 unfold zc2 zJ9;split
 ·rfl
 ·simp[txL]
theorem qo6(l:List UInt8):∀ i wd,(zc6 i wd l).map txL=wds wd l:=by
 induction l with
 | nil=>intro i wd;rw[zc6,wds,List.map_append,zr5];simp[txL]
 | cons c r ih=>
  intro i wd;rw[zc6,wds];split
  ·rw[List.map_append,zr5,List.map_cons,ih]
   congr 2
   exact ze5 [c]
  ·split
   ·rw[List.map_append,zr5,ih]
   ·exact ih _ _
theorem qx2:∀ (a wd r:List UInt8),a.all okc=true->wds wd (a++r)=wds (wd++a) r
 | [],wd,r,_=>by simp
 | c::a,wd,r,h=>by simp[okc] at h;rw[List.cons_append,wds,if_neg (by simp[h.1.1]),if_neg (by simp[h.1.2]),qx2 a _ r (by simpa[okc] using h.2)];simp
def Dl2(r:List UInt8):Prop:=∀ c,r.head?=some c->okc c=false
theorem ja3{wd r:List UInt8}(hw:wd≠[])(hr:Dl2 r):wds wd r=wd::wds [] r:=by
 cases r with
 | nil=>simp[wds,zJ9,hw]
 | cons c r=>
  have h:=hr c rfl;simp[okc] at h;rw[wds,wds];by_cases hb:zq8 c=true
  ·rw[if_pos hb,if_pos hb];simp[zJ9,hw]
  ·rw[if_neg hb,if_neg hb];have hl:zs1 c=true:=by
    cases e:zs1 c with
    | true=>rfl
    | false=>simp[e] at h;exact absurd h hb
   rw[if_pos hl,if_pos hl];simp[zJ9,hw]
mutual
def zg0:Nd->List (List UInt8)
 | .mk k w v ps=>if k=1\/k=2\/ps≠[] then [40]::U0 k w v::(za0 ps++[[41]]) else [U0 k w v]
def za0:List Nd->List (List UInt8)
 | []=>[]
 | p::ps=>zg0 p++za0 ps
end
inductive Tx:Nd->Prop
 | mk {k v:Int} {w:ByteArray} {ps:List Nd} (h1:U0 k w v≠[]) (h2:(U0 k w v).all okc=true) (hp:∀ p∈ps,Tx p):Tx (.mk k w v ps)
theorem ja4:Dl2 []:=fun c h=>by simp at h
theorem jm3(r:List UInt8):Dl2 (32::r):=fun c h=>by simp at h;subst h;decide
theorem qO5(r:List UInt8):Dl2 (41::r):=fun c h=>by simp at h;subst h;decide
theorem zS8(ps:List Nd){r:List UInt8}(h:Dl2 r):Dl2 (Q9 ps++r):=by
 cases ps with
 | nil=>exact h
 | cons p ps=>rw[Q9];exact jm3 _
theorem jm4(r:List UInt8):wds [] (32::r)=wds [] r:=by rw[wds,if_neg (by decide),if_pos (by decide)];simp[zJ9]
theorem jm5(r:List UInt8):wds [] (40::r)=[40]::wds [] r:=by rw[wds,if_pos (by decide)];simp[zJ9]
theorem jm6(r:List UInt8):wds [] (41::r)=[41]::wds [] r:=by rw[wds,if_pos (by decide)];simp[zJ9]
theorem qe9{a r:List UInt8}(h1:a≠[])(h2:a.all okc=true)(hr:Dl2 r):wds [] (a++r)=a::wds [] r:=by rw[qx2 a [] r h2,List.nil_append,ja3 h1 hr]
theorem qD4{ps:List Nd}(h:∀ p∈ps,∀ r,Dl2 r->wds [] (j9 p++r)=zg0 p++wds [] r):∀ r,Dl2 r->wds [] (Q9 ps++r)=za0 ps++wds [] r:=by
 induction ps with
 | nil=>intro r _;simp[Q9,za0]
 | cons p ps ih=>intro r hr;rw[Q9,List.cons_append,jm4,List.append_assoc,h p (by simp) _ (zS8 ps hr),ih (fun q hq=>h q (by simp[hq])) r hr,za0,List.append_assoc]
theorem qO6{nd:Nd}(h:Tx nd):∀ r,Dl2 r->wds [] (j9 nd++r)=zg0 nd++wds [] r:=by
 induction h with
 | @mk k v w ps h1 h2 hp ih=>
  intro r hr;rw[j9,zg0];split
  ·rw[List.cons_append,jm5,List.append_assoc,List.append_assoc,List.singleton_append,qe9 h1 h2 (zS8 ps (qO5 _)),qD4 ih _ (qO5 _),jm6];simp
  ·rw[qe9 h1 h2 hr];rfl
theorem zK0{nd:Nd}(h:Tx nd):(toks (j9 nd)).map txL=zg0 nd++[[]]:=by
 have e:=qO6 h [] ja4;rw[List.append_nil] at e;unfold toks;rw[qo6,e]
 rfl
end Ar
namespace Ar
inductive RT(N:List Nm):Nat->Nd->Prop
 | name {d:Nat} {w:ByteArray} (h:X6 w.toList=true) (ha:za8 N w.toList=some 0):RT N d (.mk 3 w 0 [])
 | num {d:Nat} {v:Int} (h1:-1000<=v) (h2:v<=1000):RT N d (.mk 4 ByteArray.empty v [])
 | app {d:Nat} {w:ByteArray} {ps:List Nd} (h:X6 w.toList=true) (hne:ps≠[]) (ha:za8 N w.toList=some (ps.length:Int)) (hd:d<30) (hp:∀ p∈ps,RT N (d+1) p):RT N d (.mk 3 w 0 ps)
inductive RF(N:List Nm):Nat->Nd->Prop
 | truth {d:Nat} {w:ByteArray} (h:w.toList=zn9\/w.toList=zh7):RF N d (.mk 0 w 0 [])
 | con {d:Nat} {w:ByteArray} {s:Int} {ps:List Nd} (hw:zo1 w.toList=some (1,s)) (hs:(s=0/\ps.length=1)\/(s=1/\ps.length=2)\/s=2) (hd:d<30) (hp:∀ p∈ps,RF N (d+1) p):RF N d (.mk 1 w 0 ps)
 | two {d:Nat} {w:ByteArray} {a b:Nd} (hw:zo1 w.toList=some (2,3)) (hd:d<30) (ha:RT N (d+1) a) (hb:RT N (d+1) b):RF N d (.mk 2 w 0 [a,b])
 | le {d:Nat} {w:ByteArray} {a b:Nd} {v:Int} (hw:zo1 w.toList=some (2,4)) (hd:d<30) (ha:RT N (d+1) a) (hb:RT N (d+1) b) (h1:-1000<=v) (h2:v<=1000):RF N d (.mk 2 w 0 [a,b,.mk 5 ByteArray.empty v []])
theorem qD5:((List.range 2001).all fun i=>(ze7 ((i:Int)-1000)).all okc && !X6 (ze7 ((i:Int)-1000)) && !(ze7 ((i:Int)-1000)).isEmpty)=true:=by decide +kernel
theorem qf0{v:Int}(h1:-1000<=v)(h2:v<=1000):(ze7 v).all okc=true/\X6 (ze7 v)=false/\ze7 v≠[]:=by have h:=List.all_eq_true.1 qD5 (v+1000).toNat (List.mem_range.2 (by omega));rw[show(((v+1000).toNat:Nat):Int)-1000=v by omega] at h;simp only[Bool.and_eq_true,Bool.not_eq_true'] at h;exact⟨h.1.1,h.1.2,fun e=>by rw[e] at h;simp at h⟩
theorem qf1{v:Int}(h1:-1000<=v)(h2:v<=1000):numOf (ze7 v)=some v:=by have a:=zs4 h1 h2;simp only[zV9,Bool.and_eq_true] at a;simpa using a.1.1
theorem qo7{c:UInt8}(h:zp6 c=true):okc c=true:=by
 unfold zp6 at h;have h:=of_decide_eq_true h;have h40:c≠40:=by rintro rfl;simp at h
 have h41:c≠41:=by rintro rfl;simp at h
 have h32:c≠32:=by rintro rfl;simp at h
 have h9:c≠9:=by rintro rfl;simp at h
 have h10:c≠10:=by rintro rfl;simp at h
 simp[okc,zq8,zs1,h40,h41,h32,h9,h10]
theorem zy4{l:List UInt8}(h:X6 l=true):l≠[]/\l.all okc=true:=by simp only[X6,Bool.and_eq_true] at h;refine⟨fun e=>?_,List.all_eq_true.2 (fun c hc=>qo7 (List.all_eq_true.1 h.1.1 c hc))⟩;rw[e] at h;simp at h
theorem zD4{l:List UInt8}{ks:Int × Int}(h:zo1 l=some ks):l≠[]/\l.all okc=true:=by
 unfold zo1 at h;split at h
 ·rename_i e;subst e;decide
 split at h
 ·rename_i e;subst e;decide
 split at h
 ·rename_i e;subst e;decide
 split at h
 ·rename_i e;subst e;decide
 split at h
 ·rename_i e;subst e;decide
 split at h
 ·rename_i e;subst e;decide
 split at h
 ·rename_i e;subst e;decide
 split at h
 ·rename_i e;subst e;decide
 split at h
 ·rename_i e;subst e;decide
 simp at h
theorem jm7{ps:List Nd}(h:ps.length=2):∃ p q,ps=[p,q]:=by
 match ps,h with
 | [p,q],_=>exact⟨p,q,rfl⟩
theorem tok_word(k v:Int)(w:ByteArray)(h:¬(k=4\/k=5)):U0 k w v=w.toList:=by rw[U0,if_neg h]
section
variable{N:List Nm}
theorem RT.tx{d:Nat}{nd:Nd}(h:RT N d nd):Tx nd:=by
 induction h with
 | name h ha=>exact .mk (by rw[tok_word _ _ _ (by decide)];exact(zy4 h).1) (by rw[tok_word _ _ _ (by decide)];exact(zy4 h).2) (by simp)
 | num h1 h2=>exact .mk (by rw[U0,if_pos (by decide)];exact(qf0 h1 h2).2.2) (by rw[U0,if_pos (by decide)];exact(qf0 h1 h2).1) (by simp)
 | app h hne ha hd hp ih=>exact .mk (by rw[tok_word _ _ _ (by decide)];exact(zy4 h).1) (by rw[tok_word _ _ _ (by decide)];exact(zy4 h).2) ih
theorem RF.tx{d:Nat}{nd:Nd}(h:RF N d nd):Tx nd:=by
 induction h with
 | truth h=>exact .mk (by rw[tok_word _ _ _ (by decide)];rcases h with e|e<;>rw[e]<;>decide) (by rw[tok_word _ _ _ (by decide)];rcases h with e|e<;>rw[e]<;>decide) (by simp)
 | con hw hs hd hp ih=>exact .mk (by rw[tok_word _ _ _ (by decide)];exact(zD4 hw).1) (by rw[tok_word _ _ _ (by decide)];exact(zD4 hw).2) ih
 | two hw hd ha hb=>exact .mk (by rw[tok_word _ _ _ (by decide)];exact(zD4 hw).1) (by rw[tok_word _ _ _ (by decide)];exact(zD4 hw).2) (fun p hp=>by
   simp at hp;rcases hp with rfl|rfl
   ·exact ha.tx
   ·exact hb.tx)
 | le hw hd ha hb h1 h2=>exact .mk (by rw[tok_word _ _ _ (by decide)];exact(zD4 hw).1) (by rw[tok_word _ _ _ (by decide)];exact(zD4 hw).2) (fun p hp=>by
   simp at hp;rcases hp with rfl|rfl|rfl
   ·exact ha.tx
   ·exact hb.tx
   ·exact .mk (by rw[U0,if_pos (by decide)];exact(qf0 h1 h2).2.2) (by rw[U0,if_pos (by decide)];exact(qf0 h1 h2).1) (by simp))
def Is(ts:List Tk)(ws:List (List UInt8)):Prop:=ts.map txL=ws
theorem Is.app{ts:List Tk}{a b:List (List UInt8)}(h:Is ts (a++b)):∃ t1 t2,ts=t1++t2/\Is t1 a/\Is t2 b:=by obtain⟨t1,t2,e,h1,h2⟩:=List.map_eq_append_iff.1 h;exact⟨t1,t2,e,h1,h2⟩
theorem Is.cons{ts:List Tk}{a:List UInt8}{b:List (List UInt8)}(h:Is ts (a::b)):∃ t t2,ts=t::t2/\t.txt.toList=a/\Is t2 b:=by obtain⟨t,t2,e,h1,h2⟩:=List.map_eq_cons_iff.1 h;exact⟨t,t2,e,h1,h2⟩
theorem Is.nil{ts:List Tk}(h:Is ts []):ts=[]:=List.map_eq_nil_iff.1 h
theorem Tx.head{nd:Nd}(h:Tx nd):∃ a b,zg0 nd=a::b/\a≠[41]:=by
 cases h with
 | @mk k v w ps h1 h2 hp=>
  rw[zg0];split
  ·exact⟨_,_,rfl,by decide⟩
  ·refine⟨_,_,rfl,fun e=>?_⟩;rw[e] at h2;exact absurd h2 (by decide)
theorem qf2{f:List Tk->Rs Nd}:∀ (ps:List Nd) (ts rest:List Tk),(∀ p∈ps,Tx p/\∀ us r,Is us (zg0 p)->f (us++r)=.ok p r)->Is ts (za0 ps)->J5 (List.replicate ps.length (zb0 f)) (ts++rest)=.ok ps rest
 | [],ts,rest,_,h=>by
  rw[za0] at h;rw[h.nil]
  rfl
 | p::ps,ts,rest,hp,h=>by
  rw[za0] at h;obtain⟨t1,t2,rfl,h1,h2⟩:=h.app;obtain⟨htx,hf⟩:=hp p (by simp);obtain⟨a,b,e,hne⟩:=htx.head;have hf1:=hf t1 (t2++rest) h1;rw[e] at h1;obtain⟨t,t3,rfl,ht,_⟩:=h1.cons;rw[List.length_cons,List.replicate_succ,J5];have ha:zb0 f (t::t3++t2++rest)=.ok p (t2++rest):=by rw[List.append_assoc,List.cons_append,zb0,if_neg (by rw[ht];exact hne),<- List.cons_append];exact hf1
  rw[ha];simp only;rw[qf2 ps t2 rest (fun q hq=>hp q (by simp[hq])) h2]
theorem jm8:∀ nd:Nd,1<=(zg0 nd).length
 | .mk k w v ps=>by rw[zg0];split<;>simp
theorem zK1:∀ {ps:List Nd} {p:Nd},p∈ps->(zg0 p).length<=(za0 ps).length
 | q::ps,p,h=>by
  rw[za0,List.length_append];rcases List.mem_cons.1 h with rfl|h
  ·omega
  ·have:=zK1 h;omega
theorem zm6{d:Nat}{nd:Nd}(h:RT N d nd):∀ (n:Nat) (ts rest:List Tk),(zg0 nd).length<=n->Is ts (zg0 nd)->X0 N n d (ts++rest)=.ok nd rest:=by
 induction h with
 | @name d w h ha=>
  intro n ts rest hn hi;rw[zg0,if_neg (by decide),tok_word _ _ _ (by decide)] at hi hn;obtain⟨t,t2,rfl,ht,h2⟩:=hi.cons;rw[h2.nil];obtain⟨m,rfl⟩:∃ m,n=m+1:=⟨n-1,by simp at hn;omega⟩;have h40:t.txt.toList≠[40]:=by rw[ht];intro e;rw[e] at h;exact absurd h (by decide)
  rw[List.singleton_append,X0.eq_def];simp only;rw[if_neg h40,ht,if_pos h,ha];simp only;rw[if_pos trivial,O6 ht]
 | @num d v h1 h2=>
  intro n ts rest hn hi;rw[zg0,if_neg (by decide),U0,if_pos (by decide)] at hi hn;obtain⟨t,t2,rfl,ht,h3⟩:=hi.cons;rw[h3.nil];obtain⟨m,rfl⟩:∃ m,n=m+1:=⟨n-1,by simp at hn;omega⟩;obtain⟨o1,o2,o3⟩:=qf0 h1 h2;have h40:t.txt.toList≠[40]:=by rw[ht];intro e;rw[e] at o1;exact absurd o1 (by decide)
  rw[List.singleton_append,X0.eq_def];simp only;rw[if_neg h40,ht,if_neg (by rw[o2];decide),V5,ht,qf1 h1 h2];simp only;rw[if_neg (by omega)]
 | @app d w ps h hne ha hd hp ih=>
  intro n ts rest hn hi;rw[zg0,if_pos (Or.inr (Or.inr hne)),tok_word _ _ _ (by decide)] at hi hn;obtain⟨t,t2,rfl,ht,h2⟩:=hi.cons;obtain⟨u,t3,rfl,hu,h3⟩:=h2.cons;obtain⟨t4,t5,rfl,h4,h5⟩:=h3.app;obtain⟨z,t6,rfl,hz,h6⟩:=h5.cons;rw[h6.nil];obtain⟨m,rfl⟩:∃ m,n=m+1:=⟨n-1,by simp at hn;omega⟩;have hrow:=qf2 (f:=X0 N m (d+1)) ps t4 (z::rest) (fun p hpm=>⟨(hp p hpm).tx,fun us r hus=>by
   have e:((d:Int)+1)=((d+1:Nat):Int):=by omega
   rw[e];refine ih p hpm m us r ?_ hus;have:=zK1 hpm;simp at hn;omega⟩) h4
  have hl:0<ps.length:=List.length_pos_iff.2 hne;rw[List.cons_append,List.cons_append,X0,if_pos ht,if_neg (by omega),hu,if_pos h,ha];simp only;rw[if_neg (by omega),show((ps.length:Int)).toNat=ps.length by omega,List.append_assoc,List.singleton_append,hrow,J7,zd4,if_pos hz,O6 hu]
theorem zS9{f:List Tk->Rs Nd}:∀ (ps:List Nd) (m:Nat) (ts:List Tk) (z:Tk) (rest:List Tk),(∀ p∈ps,Tx p/\∀ us r,Is us (zg0 p)->f (us++r)=.ok p r)->Is ts (za0 ps)->z.txt.toList=[41]->ps.length<m->X8 m f (ts++z::rest)=.ok ps (z::rest)
 | [],m,ts,z,rest,_,h,hz,hm=>by rw[za0] at h;rw[h.nil];obtain⟨m,rfl⟩:∃ k,m=k+1:=⟨m-1,by simp at hm;omega⟩;rw[List.nil_append,X8,if_pos hz]
 | p::ps,m,ts,z,rest,hp,h,hz,hm=>by rw[za0] at h;obtain⟨t1,t2,rfl,h1,h2⟩:=h.app;obtain⟨htx,hf⟩:=hp p (by simp);obtain⟨a,b,e,hne⟩:=htx.head;have hf1:=hf t1 (t2++z::rest) h1;rw[e] at h1;obtain⟨t,t3,rfl,ht,_⟩:=h1.cons;obtain⟨m,rfl⟩:∃ k,m=k+1:=⟨m-1,by simp at hm;omega⟩;rw[List.append_assoc,List.cons_append,X8,if_neg (by rw[ht];exact hne),<- List.cons_append,hf1];simp only;rw[zS9 ps m t2 z rest (fun q hq=>hp q (by simp[hq])) h2 hz (by simp at hm;omega)]
theorem qx3:∀ ps:List Nd,ps.length<=(za0 ps).length
 | []=>by simp[za0]
 | p::ps=>by have h1:=jm8 p;have h2:=qx3 ps;rw[za0,List.length_append,List.length_cons];omega
theorem qD6{d:Nat}{nd:Nd}(h:RF N d nd):∀ (n:Nat) (ts rest:List Tk),(zg0 nd).length<=n->Is ts (zg0 nd)->K6 N n d (ts++rest)=.ok nd rest:=by
 induction h with
 | @truth d w h=>
  intro n ts rest hn hi;rw[zg0,if_neg (by decide),tok_word _ _ _ (by decide)] at hi hn;obtain⟨t,t2,rfl,ht,h2⟩:=hi.cons;rw[h2.nil];obtain⟨m,rfl⟩:∃ m,n=m+1:=⟨n-1,by simp at hn;omega⟩;have h40:t.txt.toList≠[40]:=by rw[ht];intro e;rcases h with h|h<;>rw[h] at e<;>exact absurd e (by decide)
  rw[List.singleton_append,K6.eq_def];simp only;rw[if_neg h40,ht,if_pos h,O6 ht]
 | @con d w s ps hw hs hd hp ih=>
  intro n ts rest hn hi;rw[zg0,if_pos (Or.inl rfl),tok_word _ _ _ (by decide)] at hi hn;obtain⟨t,t2,rfl,ht,h2⟩:=hi.cons;obtain⟨u,t3,rfl,hu,h3⟩:=h2.cons;obtain⟨t4,t5,rfl,h4,h5⟩:=h3.app;obtain⟨z,t6,rfl,hz,h6⟩:=h5.cons;rw[h6.nil];obtain⟨m,rfl⟩:∃ m,n=m+1:=⟨n-1,by simp at hn;omega⟩;have hlen:=qx3 ps;have hread:∀ p∈ps,Tx p/\∀ us r,Is us (zg0 p)->K6 N m ((d:Int)+1) (us++r)=.ok p r:=fun p hpm=>⟨(hp p hpm).tx,fun us r hus=>by
   have e:((d:Int)+1)=((d+1:Nat):Int):=by omega
   rw[e];refine ih p hpm m us r ?_ hus;have:=zK1 hpm;simp at hn;omega⟩
  have hparts:l9 s m (K6 N m ((d:Int)+1)) (X0 N m ((d:Int)+1)) (V5 5) (t4++z::rest)=.ok ps (z::rest):=by
   unfold l9;rcases hs with⟨rfl,hl⟩|⟨rfl,hl⟩|rfl
   ·rw[if_pos rfl];obtain⟨p,rfl⟩:∃ p,ps=[p]:=List.length_eq_one_iff.1 hl;rw[za0,za0,List.append_nil] at h4;rw[J5,(hread p (by simp)).2 t4 (z::rest) h4]
    rfl
   ·rw[if_neg (by decide),if_pos rfl];obtain⟨p,q,rfl⟩:∃ p q,ps=[p,q]:=jm7 hl;rw[za0,za0,za0,List.append_nil] at h4;obtain⟨t7,t8,rfl,h7,h8⟩:=h4.app;rw[J5,List.append_assoc,(hread p (by simp)).2 t7 (t8++z::rest) h7];simp only;rw[J5,(hread q (by simp)).2 t8 (z::rest) h8]
    rfl
   ·rw[if_neg (by decide),if_neg (by decide),if_neg (by decide),if_neg (by decide)];exact zS9 ps m t4 z rest hread h4 hz (by simp at hn;omega)
  rw[List.cons_append,List.cons_append,K6,if_pos ht,if_neg (by omega),hu,hw];simp only;rw[List.append_assoc,List.singleton_append,hparts,J7,zd4,if_pos hz,O6 hu]
 | @two d w a b hw hd ha hb=>
  intro n ts rest hn hi;rw[zg0,if_pos (Or.inr (Or.inl rfl)),tok_word _ _ _ (by decide),za0,za0,za0,List.append_nil] at hi hn;obtain⟨t,t2,rfl,ht,h2⟩:=hi.cons;obtain⟨u,t3,rfl,hu,h3⟩:=h2.cons;obtain⟨t4,t5,rfl,h4,h5⟩:=h3.app;obtain⟨t7,t8,rfl,h7,h8⟩:=h4.app;obtain⟨z,t6,rfl,hz,h6⟩:=h5.cons;rw[h6.nil];obtain⟨m,rfl⟩:∃ m,n=m+1:=⟨n-1,by simp at hn;omega⟩;have e:((d:Int)+1)=((d+1:Nat):Int):=by omega
  have r1:=zm6 ha m t7 (t8++z::rest) (by simp at hn;omega) h7;have r2:=zm6 hb m t8 (z::rest) (by simp at hn;omega) h8;rw[List.cons_append,List.cons_append,K6,if_pos ht,if_neg (by omega),hu,hw];simp only;rw[l9,if_neg (by decide),if_neg (by decide),if_pos rfl,J5,e,List.append_assoc,List.append_assoc,List.singleton_append,r1];simp only;rw[J5,r2];simp only[J5];rw[J7,zd4,if_pos hz,O6 hu]
 | @le d w a b v hw hd ha hb h1 h2'=>
  intro n ts rest hn hi;rw[zg0,if_pos (Or.inr (Or.inl rfl)),tok_word _ _ _ (by decide),za0,za0,za0,za0,List.append_nil,zg0,if_neg (by decide),U0,if_pos (by decide)] at hi hn;obtain⟨t,t2,rfl,ht,h2⟩:=hi.cons;obtain⟨u,t3,rfl,hu,h3⟩:=h2.cons;obtain⟨t4,t5,rfl,h4,h5⟩:=h3.app;obtain⟨t7,t9,rfl,h7,h9⟩:=h4.app;obtain⟨t8,t10,rfl,h8,h10⟩:=h9.app;obtain⟨y,t11,rfl,hy,h11⟩:=h10.cons;obtain⟨z,t6,rfl,hz,h6⟩:=h5.cons;rw[h6.nil,h11.nil];obtain⟨m,rfl⟩:∃ m,n=m+1:=⟨n-1,by simp at hn;omega⟩;have e:((d:Int)+1)=((d+1:Nat):Int):=by omega
  have r1:=zm6 ha m t7 (t8++y::z::rest) (by simp at hn;omega) h7;have r2:=zm6 hb m t8 (y::z::rest) (by simp at hn;omega) h8;rw[List.cons_append,List.cons_append,K6,if_pos ht,if_neg (by omega),hu,hw];simp only;rw[l9,if_neg (by decide),if_neg (by decide),if_neg (by decide),if_pos rfl,J5,e];simp only[List.append_assoc,List.cons_append,List.nil_append];rw[r1];simp only;rw[J5,r2];simp only;rw[J5,V5,hy,qf1 h1 h2'];simp only;rw[if_neg (by omega)];simp only[J5];rw[J7,zd4,if_pos hz,O6 hu]
theorem zT0{nd:Nd}(h:RF N 0 nd):∃ us,W7 N (j9 nd)=.ok nd us:=by
 have hw:=zK0 h.tx;obtain⟨ts,t2,e,h1,h2⟩:=Is.app hw;obtain⟨z,t3,rfl,hz,h3⟩:=h2.cons;have h3:=h3.nil;subst h3;have hl:(zg0 nd).length<=(toks (j9 nd)).length:=by have:=congrArg List.length hw;simp at this;omega
 have hr:=qD6 h (toks (j9 nd)).length ts [z] hl h1;unfold W7;have e0:((0:Nat):Int)=0:=rfl;rw[e0] at hr;rw[e] at hr ⊢;rw[hr];simp only;rw[if_pos hz];exact⟨_,rfl⟩
end
end Ar
end Go.Proofs.YtegbdaffhpiacaaGreatDoor
