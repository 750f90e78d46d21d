/- Plain: what is written in its one form is read as it was; Plain: what is written in its one form is read as it was: reading. -/
import Derived.Test.YtegbdaffhpiacaaGreatDoorBck12
import Derived.Test.YtegbdaffhpiacaaGreatDoorBck10
namespace Go.Proofs.YtegbdaffhpiacaaGreatDoor
namespace Ar
def okc (c:UInt8):Bool := !zo9 c && !zq1 c
def zH8 (wd:List UInt8):List (List UInt8):=if wd=[] then [] else [wd]
def wds:List UInt8->List UInt8->List (List UInt8)
 | wd,[]=>zH8 wd++[[]]
 | wd,c :: r=>if zo9 c then zH8 wd++[c] :: wds [] r else if zq1 c then zH8 wd++wds [] r else wds (wd++[c]) r
def txL (t:Tk):List UInt8:=t.txt.toList
theorem zp5 (i:Nat) (wd:List UInt8):(zb3 i wd).map txL=zH8 wd:=by
 unfold zb3 zH8
 split
 ·rfl
 ·simp [txL]
theorem qk4 (l:List UInt8):∀ i wd,(zb6 i wd l).map txL=wds wd l:=by
 induction l with
 | nil=>intro i wd;rw [zb6,wds,List.map_append,zp5];simp [txL]
 | cons c r ih =>
  intro i wd
  rw [zb6,wds]
  split
  ·rw [List.map_append,zp5,List.map_cons,ih]
   congr 2
   exact zd2 [c]
  ·split
   ·rw [List.map_append,zp5,ih]
   ·exact ih _ _
theorem qt1:∀ (a wd r:List UInt8),a.all okc=true->wds wd (a++r)=wds (wd++a) r
 | [],wd,r,_=>by simp
 | c :: a,wd,r,h=>by
  simp [okc] at h
  rw [List.cons_append,wds,if_neg (by simp [h.1.1]),if_neg (by simp [h.1.2]),qt1 a _ r (by simpa [okc] using h.2)]
  simp
def Dl2 (r:List UInt8):Prop:=∀ c,r.head?=some c->okc c=false
theorem qV3 {wd r:List UInt8} (hw:wd ≠ []) (hr:Dl2 r):wds wd r=wd :: wds [] r:=by
 cases r with
 | nil=>simp [wds,zH8,hw]
 | cons c r =>
  have h:=hr c rfl
  simp [okc] at h
  rw [wds,wds]
  by_cases hb:zo9 c=true
  ·rw [if_pos hb,if_pos hb];simp [zH8,hw]
  ·rw [if_neg hb,if_neg hb]
   have hl:zq1 c=true:=by
    cases e:zq1 c with
    | true=>rfl
    | false=>simp [e] at h;exact absurd h hb
   rw [if_pos hl,if_pos hl];simp [zH8,hw]
mutual
def zf8:Nd->List (List UInt8)
 | .mk k w v ps=>if k=1\/k=2\/ps ≠ [] then [40] :: U2 k w v :: (y9 ps++[[41]]) else [U2 k w v]
def y9:List Nd->List (List UInt8)
 | []=>[]
 | p :: ps=>zf8 p++y9 ps
end
inductive Tx:Nd->Prop
 | mk {k v:Int} {w:ByteArray} {ps:List Nd} (h1:U2 k w v ≠ []) (h2:(U2 k w v).all okc=true) (hp:∀ p∈ps,Tx p):Tx (.mk k w v ps)
theorem qV4:Dl2 []:=fun c h=>by simp at h
theorem jg8 (r:List UInt8):Dl2 (32 :: r):=fun c h=>by simp at h;subst h;decide
theorem qJ5 (r:List UInt8):Dl2 (41 :: r):=fun c h=>by simp at h;subst h;decide
theorem zP2 (ps:List Nd) {r:List UInt8} (h:Dl2 r):Dl2 (Q9 ps++r):=by
 cases ps with
 | nil=>exact h
 | cons p ps=>rw [Q9];exact jg8 _
theorem jg9 (r:List UInt8):wds [] (32 :: r)=wds [] r:=by
 rw [wds,if_neg (by decide),if_pos (by decide)];simp [zH8]
theorem jh0 (r:List UInt8):wds [] (40 :: r)=[40] :: wds [] r:=by
 rw [wds,if_pos (by decide)];simp [zH8]
theorem jh1 (r:List UInt8):wds [] (41 :: r)=[41] :: wds [] r:=by
 rw [wds,if_pos (by decide)];simp [zH8]
theorem qa5 {a r:List UInt8} (h1:a ≠ []) (h2:a.all okc=true) (hr:Dl2 r):wds [] (a++r)=a :: wds [] r:=by
 rw [qt1 a [] r h2,List.nil_append,qV3 h1 hr]
theorem qz0 {ps:List Nd} (h:∀ p∈ps,∀ r,Dl2 r->wds [] (Z1 p++r)=zf8 p++wds [] r):∀ r,Dl2 r->wds [] (Q9 ps++r)=y9 ps++wds [] r:=by
 induction ps with
 | nil=>intro r _;simp [Q9,y9]
 | cons p ps ih =>
  intro r hr
  rw [Q9,List.cons_append,jg9,List.append_assoc,h p (by simp) _ (zP2 ps hr),ih (fun q hq=>h q (by simp [hq])) r hr,y9,List.append_assoc]
theorem qJ6 {nd:Nd} (h:Tx nd):∀ r,Dl2 r->wds [] (Z1 nd++r)=zf8 nd++wds [] r:=by
 induction h with
 | @mk k v w ps h1 h2 hp ih =>
  intro r hr
  rw [Z1,zf8]
  split
  ·rw [List.cons_append,jh0,List.append_assoc,List.append_assoc,List.singleton_append,qa5 h1 h2 (zP2 ps (qJ5 _)),qz0 ih _ (qJ5 _),jh1]
   simp
  ·rw [qa5 h1 h2 hr];rfl
theorem qk5 {nd:Nd} (h:Tx nd):(toks (Z1 nd)).map txL=zf8 nd++[[]]:=by
 have e:=qJ6 h [] qV4
 rw [List.append_nil] at e
 unfold toks
 rw [qk4,e]
 rfl
end Ar
namespace Ar
inductive RT (N:List Nm):Nat->Nd->Prop
 | name {d:Nat} {w:ByteArray} (h:X4 w.toList=true) (ha:za0 N w.toList=some 0):RT N d (.mk 3 w 0 [])
 | num {d:Nat} {v:Int} (h1 : -1000<=v) (h2:v<=1000):RT N d (.mk 4 ByteArray.empty v [])
 | app {d:Nat} {w:ByteArray} {ps:List Nd} (h:X4 w.toList=true) (hne:ps ≠ []) (ha:za0 N w.toList=some (ps.length:Int)) (hd:d < 30) (hp:∀ p∈ps,RT N (d+1) p):RT N d (.mk 3 w 0 ps)
inductive RF (N:List Nm):Nat->Nd->Prop
 | truth {d:Nat} {w:ByteArray} (h:w.toList=zl8\/w.toList=zg6):RF N d (.mk 0 w 0 [])
 | con {d:Nat} {w:ByteArray} {s:Int} {ps:List Nd} (hw:zl9 w.toList=some (1,s)) (hs:(s=0/\ps.length=1)\/(s=1/\ps.length=2)\/s=2) (hd:d < 30) (hp:∀ p∈ps,RF N (d+1) p):RF N d (.mk 1 w 0 ps)
 | two {d:Nat} {w:ByteArray} {a b:Nd} (hw:zl9 w.toList=some (2,3)) (hd:d < 30) (ha:RT N (d+1) a) (hb:RT N (d+1) b):RF N d (.mk 2 w 0 [a,b])
 | le {d:Nat} {w:ByteArray} {a b:Nd} {v:Int} (hw:zl9 w.toList=some (2,4)) (hd:d < 30) (ha:RT N (d+1) a) (hb:RT N (d+1) b) (h1 : -1000<=v) (h2:v<=1000):RF N d (.mk 2 w 0 [a,b,.mk 5 ByteArray.empty v []])
theorem qz1:((List.range 2001).all fun i=>(zd4 ((i:Int) - 1000)).all okc && !X4 (zd4 ((i:Int) - 1000)) && !(zd4 ((i:Int) - 1000)).isEmpty)=true:=by decide +kernel
theorem qa6 {v:Int} (h1 : -1000<=v) (h2:v<=1000):(zd4 v).all okc=true/\X4 (zd4 v)=false/\zd4 v ≠ []:=by
 have h:=List.all_eq_true.1 qz1 (v+1000).toNat (List.mem_range.2 (by omega))
 rw [show (((v+1000).toNat:Nat):Int) - 1000=v by omega] at h
 simp only [Bool.and_eq_true,Bool.not_eq_true'] at h
 exact ⟨h.1.1,h.1.2,fun e=>by rw [e] at h;simp at h⟩
theorem qa7 {v:Int} (h1 : -1000<=v) (h2:v<=1000):numOf (zd4 v)=some v:=by
 have a:=zq3 h1 h2
 simp only [zS2,Bool.and_eq_true] at a
 simpa using a.1.1
theorem qk6 {c:UInt8} (h:zn4 c=true):okc c=true:=by
 unfold zn4 at h
 have h:=of_decide_eq_true h
 have h40:c ≠ 40:=by rintro rfl;simp at h
 have h41:c ≠ 41:=by rintro rfl;simp at h
 have h32:c ≠ 32:=by rintro rfl;simp at h
 have h9:c ≠ 9:=by rintro rfl;simp at h
 have h10:c ≠ 10:=by rintro rfl;simp at h
 simp [okc,zo9,zq1,h40,h41,h32,h9,h10]
theorem zw7 {l:List UInt8} (h:X4 l=true):l ≠ []/\l.all okc=true:=by
 simp only [X4,Bool.and_eq_true] at h
 refine ⟨fun e=>?_,List.all_eq_true.2 (fun c hc=>qk6 (List.all_eq_true.1 h.1.1 c hc))⟩
 rw [e] at h
 simp at h
theorem zB6 {l:List UInt8} {ks:Int × Int} (h:zl9 l=some ks):l ≠ []/\l.all okc=true:=by
 unfold zl9 at h
 split at h
 ·rename_i e;subst e;decide
 split at h
 ·rename_i e;subst e;decide
 split at h
 ·rename_i e;subst e;decide
 split at h
 ·rename_i e;subst e;decide
 split at h
 ·rename_i e;subst e;decide
 split at h
 ·rename_i e;subst e;decide
 split at h
 ·rename_i e;subst e;decide
 split at h
 ·rename_i e;subst e;decide
 split at h
 ·rename_i e;subst e;decide
 simp at h
theorem jh2 {ps:List Nd} (h:ps.length=2):∃ p q,ps=[p,q]:=by
 match ps,h with
 | [p,q],_=>exact ⟨p,q,rfl⟩
theorem tok_word (k v:Int) (w:ByteArray) (h:¬(k=4\/k=5)):U2 k w v=w.toList:=by rw [U2,if_neg h]
section
variable {N:List Nm}
theorem RT.tx {d:Nat} {nd:Nd} (h:RT N d nd):Tx nd:=by
 induction h with
 | name h ha=>exact .mk (by rw [tok_word _ _ _ (by decide)];exact (zw7 h).1) (by rw [tok_word _ _ _ (by decide)];exact (zw7 h).2) (by simp)
 | num h1 h2=>exact .mk (by rw [U2,if_pos (by decide)];exact (qa6 h1 h2).2.2) (by rw [U2,if_pos (by decide)];exact (qa6 h1 h2).1) (by simp)
 | app h hne ha hd hp ih=>exact .mk (by rw [tok_word _ _ _ (by decide)];exact (zw7 h).1) (by rw [tok_word _ _ _ (by decide)];exact (zw7 h).2) ih
theorem RF.tx {d:Nat} {nd:Nd} (h:RF N d nd):Tx nd:=by
 induction h with
 | truth h=>exact .mk (by rw [tok_word _ _ _ (by decide)];rcases h with e | e <;> rw [e] <;> decide) (by rw [tok_word _ _ _ (by decide)];rcases h with e | e <;> rw [e] <;> decide) (by simp)
 | con hw hs hd hp ih=>exact .mk (by rw [tok_word _ _ _ (by decide)];exact (zB6 hw).1) (by rw [tok_word _ _ _ (by decide)];exact (zB6 hw).2) ih
 | two hw hd ha hb=>exact .mk (by rw [tok_word _ _ _ (by decide)];exact (zB6 hw).1) (by rw [tok_word _ _ _ (by decide)];exact (zB6 hw).2) (fun p hp=>by
   simp at hp
   rcases hp with rfl | rfl
   ·exact ha.tx
   ·exact hb.tx)
 | le hw hd ha hb h1 h2=>exact .mk (by rw [tok_word _ _ _ (by decide)];exact (zB6 hw).1) (by rw [tok_word _ _ _ (by decide)];exact (zB6 hw).2) (fun p hp=>by
   simp at hp
   rcases hp with rfl | rfl | rfl
   ·exact ha.tx
   ·exact hb.tx
   ·exact .mk (by rw [U2,if_pos (by decide)];exact (qa6 h1 h2).2.2) (by rw [U2,if_pos (by decide)];exact (qa6 h1 h2).1) (by simp))
def Is (ts:List Tk) (ws:List (List UInt8)):Prop:=ts.map txL=ws
theorem Is.app {ts:List Tk} {a b:List (List UInt8)} (h:Is ts (a++b)):∃ t1 t2,ts=t1++t2/\Is t1 a/\Is t2 b:=by
 obtain ⟨t1,t2,e,h1,h2⟩:=List.map_eq_append_iff.1 h
 exact ⟨t1,t2,e,h1,h2⟩
theorem Is.cons {ts:List Tk} {a:List UInt8} {b:List (List UInt8)} (h:Is ts (a :: b)):∃ t t2,ts=t :: t2/\t.txt.toList=a/\Is t2 b:=by
 obtain ⟨t,t2,e,h1,h2⟩:=List.map_eq_cons_iff.1 h
 exact ⟨t,t2,e,h1,h2⟩
theorem Is.nil {ts:List Tk} (h:Is ts []):ts=[]:=List.map_eq_nil_iff.1 h
theorem Tx.head {nd:Nd} (h:Tx nd):∃ a b,zf8 nd=a :: b/\a ≠ [41]:=by
 cases h with
 | @mk k v w ps h1 h2 hp =>
  rw [zf8]
  split
  ·exact ⟨_,_,rfl,by decide⟩
  ·refine ⟨_,_,rfl,fun e=>?_⟩
   rw [e] at h2
   exact absurd h2 (by decide)
theorem qa8 {f:List Tk->Rs Nd}:∀ (ps:List Nd) (ts rest:List Tk),(∀ p∈ps,Tx p/\∀ us r,Is us (zf8 p)->f (us++r)=.ok p r)->Is ts (y9 ps)->J0 (List.replicate ps.length (za2 f)) (ts++rest)=.ok ps rest
 | [],ts,rest,_,h=>by
  rw [y9] at h
  rw [h.nil]
  rfl
 | p :: ps,ts,rest,hp,h=>by
  rw [y9] at h
  obtain ⟨t1,t2,rfl,h1,h2⟩:=h.app
  obtain ⟨htx,hf⟩:=hp p (by simp)
  obtain ⟨a,b,e,hne⟩:=htx.head
  have hf1:=hf t1 (t2++rest) h1
  rw [e] at h1
  obtain ⟨t,t3,rfl,ht,_⟩:=h1.cons
  rw [List.length_cons,List.replicate_succ,J0]
  have ha:za2 f (t :: t3++t2++rest)=.ok p (t2++rest):=by
   rw [List.append_assoc,List.cons_append,za2,if_neg (by rw [ht];exact hne),<- List.cons_append]
   exact hf1
  rw [ha]
  simp only
  rw [qa8 ps t2 rest (fun q hq=>hp q (by simp [hq])) h2]
theorem jh3:∀ nd:Nd,1<=(zf8 nd).length
 | .mk k w v ps=>by rw [zf8];split <;> simp
theorem zH9:∀ {ps:List Nd} {p:Nd},p∈ps->(zf8 p).length<=(y9 ps).length
 | q :: ps,p,h=>by
  rw [y9,List.length_append]
  rcases List.mem_cons.1 h with rfl | h
  ·omega
  ·have:=zH9 h;omega
theorem zr6 {d:Nat} {nd:Nd} (h:RT N d nd):∀ (n:Nat) (ts rest:List Tk),(zf8 nd).length<=n->Is ts (zf8 nd)->X0 N n d (ts++rest)=.ok nd rest:=by
 induction h with
 | @name d w h ha =>
  intro n ts rest hn hi
  rw [zf8,if_neg (by decide),tok_word _ _ _ (by decide)] at hi hn
  obtain ⟨t,t2,rfl,ht,h2⟩:=hi.cons
  rw [h2.nil]
  obtain ⟨m,rfl⟩:∃ m,n=m+1:=⟨n - 1,by simp at hn;omega⟩
  have h40:t.txt.toList ≠ [40]:=by
   rw [ht]
   intro e
   rw [e] at h
   exact absurd h (by decide)
  rw [List.singleton_append,X0.eq_def]
  simp only
  rw [if_neg h40,ht,if_pos h,ha]
  simp only
  rw [if_pos trivial,x9 ht]
 | @num d v h1 h2 =>
  intro n ts rest hn hi
  rw [zf8,if_neg (by decide),U2,if_pos (by decide)] at hi hn
  obtain ⟨t,t2,rfl,ht,h3⟩:=hi.cons
  rw [h3.nil]
  obtain ⟨m,rfl⟩:∃ m,n=m+1:=⟨n - 1,by simp at hn;omega⟩
  obtain ⟨o1,o2,o3⟩:=qa6 h1 h2
  have h40:t.txt.toList ≠ [40]:=by
   rw [ht]
   intro e
   rw [e] at o1
   exact absurd o1 (by decide)
  rw [List.singleton_append,X0.eq_def]
  simp only
  rw [if_neg h40,ht,if_neg (by rw [o2];decide),W7,ht,qa7 h1 h2]
  simp only
  rw [if_neg (by omega)]
 | @app d w ps h hne ha hd hp ih =>
  intro n ts rest hn hi
  rw [zf8,if_pos (Or.inr (Or.inr hne)),tok_word _ _ _ (by decide)] at hi hn
  obtain ⟨t,t2,rfl,ht,h2⟩:=hi.cons
  obtain ⟨u,t3,rfl,hu,h3⟩:=h2.cons
  obtain ⟨t4,t5,rfl,h4,h5⟩:=h3.app
  obtain ⟨z,t6,rfl,hz,h6⟩:=h5.cons
  rw [h6.nil]
  obtain ⟨m,rfl⟩:∃ m,n=m+1:=⟨n - 1,by simp at hn;omega⟩
  have hrow:=qa8 (f:=X0 N m (d+1)) ps t4 (z :: rest) (fun p hpm=>⟨(hp p hpm).tx,fun us r hus=>by
   have e:((d:Int)+1)=((d+1:Nat):Int):=by omega
   rw [e]
   refine ih p hpm m us r ?_ hus
   have:=zH9 hpm
   simp at hn
   omega⟩) h4
  have hl:0 < ps.length:=List.length_pos_iff.2 hne
  rw [List.cons_append,List.cons_append,X0,if_pos ht,if_neg (by omega),hu,if_pos h,ha]
  simp only
  rw [if_neg (by omega),show ((ps.length:Int)).toNat=ps.length by omega,List.append_assoc,List.singleton_append,hrow,J6,zc4,if_pos hz,x9 hu]
theorem zP3 {f:List Tk->Rs Nd}:∀ (ps:List Nd) (m:Nat) (ts:List Tk) (z:Tk) (rest:List Tk),(∀ p∈ps,Tx p/\∀ us r,Is us (zf8 p)->f (us++r)=.ok p r)->Is ts (y9 ps)->z.txt.toList=[41]->ps.length < m->X6 m f (ts++z :: rest)=.ok ps (z :: rest)
 | [],m,ts,z,rest,_,h,hz,hm=>by
  rw [y9] at h
  rw [h.nil]
  obtain ⟨m,rfl⟩:∃ k,m=k+1:=⟨m - 1,by simp at hm;omega⟩
  rw [List.nil_append,X6,if_pos hz]
 | p :: ps,m,ts,z,rest,hp,h,hz,hm=>by
  rw [y9] at h
  obtain ⟨t1,t2,rfl,h1,h2⟩:=h.app
  obtain ⟨htx,hf⟩:=hp p (by simp)
  obtain ⟨a,b,e,hne⟩:=htx.head
  have hf1:=hf t1 (t2++z :: rest) h1
  rw [e] at h1
  obtain ⟨t,t3,rfl,ht,_⟩:=h1.cons
  obtain ⟨m,rfl⟩:∃ k,m=k+1:=⟨m - 1,by simp at hm;omega⟩
  rw [List.append_assoc,List.cons_append,X6,if_neg (by rw [ht];exact hne),<- List.cons_append,hf1]
  simp only
  rw [zP3 ps m t2 z rest (fun q hq=>hp q (by simp [hq])) h2 hz (by simp at hm;omega)]
theorem qt2:∀ ps:List Nd,ps.length<=(y9 ps).length
 | []=>by simp [y9]
 | p :: ps=>by
  have h1:=jh3 p
  have h2:=qt2 ps
  rw [y9,List.length_append,List.length_cons]
  omega
theorem qz2 {d:Nat} {nd:Nd} (h:RF N d nd):∀ (n:Nat) (ts rest:List Tk),(zf8 nd).length<=n->Is ts (zf8 nd)->K6 N n d (ts++rest)=.ok nd rest:=by
 induction h with
 | @truth d w h =>
  intro n ts rest hn hi
  rw [zf8,if_neg (by decide),tok_word _ _ _ (by decide)] at hi hn
  obtain ⟨t,t2,rfl,ht,h2⟩:=hi.cons
  rw [h2.nil]
  obtain ⟨m,rfl⟩:∃ m,n=m+1:=⟨n - 1,by simp at hn;omega⟩
  have h40:t.txt.toList ≠ [40]:=by
   rw [ht]
   intro e
   rcases h with h | h <;> rw [h] at e <;> exact absurd e (by decide)
  rw [List.singleton_append,K6.eq_def]
  simp only
  rw [if_neg h40,ht,if_pos h,x9 ht]
 | @con d w s ps hw hs hd hp ih =>
  intro n ts rest hn hi
  rw [zf8,if_pos (Or.inl rfl),tok_word _ _ _ (by decide)] at hi hn
  obtain ⟨t,t2,rfl,ht,h2⟩:=hi.cons
  obtain ⟨u,t3,rfl,hu,h3⟩:=h2.cons
  obtain ⟨t4,t5,rfl,h4,h5⟩:=h3.app
  obtain ⟨z,t6,rfl,hz,h6⟩:=h5.cons
  rw [h6.nil]
  obtain ⟨m,rfl⟩:∃ m,n=m+1:=⟨n - 1,by simp at hn;omega⟩
  have hlen:=qt2 ps
  have hread:∀ p∈ps,Tx p/\∀ us r,Is us (zf8 p)->K6 N m ((d:Int)+1) (us++r)=.ok p r:=fun p hpm=>⟨(hp p hpm).tx,fun us r hus=>by
   have e:((d:Int)+1)=((d+1:Nat):Int):=by omega
   rw [e]
   refine ih p hpm m us r ?_ hus
   have:=zH9 hpm
   simp at hn
   omega⟩
  have hparts:O4 s m (K6 N m ((d:Int)+1)) (X0 N m ((d:Int)+1)) (W7 5) (t4++z :: rest)=.ok ps (z :: rest):=by
   unfold O4
   rcases hs with ⟨rfl,hl⟩ | ⟨rfl,hl⟩ | rfl
   ·rw [if_pos rfl]
    obtain ⟨p,rfl⟩:∃ p,ps=[p]:=List.length_eq_one_iff.1 hl
    rw [y9,y9,List.append_nil] at h4
    rw [J0,(hread p (by simp)).2 t4 (z :: rest) h4]
    rfl
   ·rw [if_neg (by decide),if_pos rfl]
    obtain ⟨p,q,rfl⟩:∃ p q,ps=[p,q]:=jh2 hl
    rw [y9,y9,y9,List.append_nil] at h4
    obtain ⟨t7,t8,rfl,h7,h8⟩:=h4.app
    rw [J0,List.append_assoc,(hread p (by simp)).2 t7 (t8++z :: rest) h7]
    simp only
    rw [J0,(hread q (by simp)).2 t8 (z :: rest) h8]
    rfl
   ·rw [if_neg (by decide),if_neg (by decide),if_neg (by decide),if_neg (by decide)]
    exact zP3 ps m t4 z rest hread h4 hz (by simp at hn;omega)
  rw [List.cons_append,List.cons_append,K6,if_pos ht,if_neg (by omega),hu,hw]
  simp only
  rw [List.append_assoc,List.singleton_append,hparts,J6,zc4,if_pos hz,x9 hu]
 | @two d w a b hw hd ha hb =>
  intro n ts rest hn hi
  rw [zf8,if_pos (Or.inr (Or.inl rfl)),tok_word _ _ _ (by decide),y9,y9,y9,List.append_nil] at hi hn
  obtain ⟨t,t2,rfl,ht,h2⟩:=hi.cons
  obtain ⟨u,t3,rfl,hu,h3⟩:=h2.cons
  obtain ⟨t4,t5,rfl,h4,h5⟩:=h3.app
  obtain ⟨t7,t8,rfl,h7,h8⟩:=h4.app
  obtain ⟨z,t6,rfl,hz,h6⟩:=h5.cons
  rw [h6.nil]
  obtain ⟨m,rfl⟩:∃ m,n=m+1:=⟨n - 1,by simp at hn;omega⟩
  have e:((d:Int)+1)=((d+1:Nat):Int):=by omega
  have r1:=zr6 ha m t7 (t8++z :: rest) (by simp at hn;omega) h7
  have r2:=zr6 hb m t8 (z :: rest) (by simp at hn;omega) h8
  rw [List.cons_append,List.cons_append,K6,if_pos ht,if_neg (by omega),hu,hw]
  simp only
  rw [O4,if_neg (by decide),if_neg (by decide),if_pos rfl,J0,e,List.append_assoc,List.append_assoc,List.singleton_append,r1]
  simp only
  rw [J0,r2]
  simp only [J0]
  rw [J6,zc4,if_pos hz,x9 hu]
 | @le d w a b v hw hd ha hb h1 h2' =>
  intro n ts rest hn hi
  rw [zf8,if_pos (Or.inr (Or.inl rfl)),tok_word _ _ _ (by decide),y9,y9,y9,y9,List.append_nil,zf8,if_neg (by decide),U2,if_pos (by decide)] at hi hn
  obtain ⟨t,t2,rfl,ht,h2⟩:=hi.cons
  obtain ⟨u,t3,rfl,hu,h3⟩:=h2.cons
  obtain ⟨t4,t5,rfl,h4,h5⟩:=h3.app
  obtain ⟨t7,t9,rfl,h7,h9⟩:=h4.app
  obtain ⟨t8,t10,rfl,h8,h10⟩:=h9.app
  obtain ⟨y,t11,rfl,hy,h11⟩:=h10.cons
  obtain ⟨z,t6,rfl,hz,h6⟩:=h5.cons
  rw [h6.nil,h11.nil]
  obtain ⟨m,rfl⟩:∃ m,n=m+1:=⟨n - 1,by simp at hn;omega⟩
  have e:((d:Int)+1)=((d+1:Nat):Int):=by omega
  have r1:=zr6 ha m t7 (t8++y :: z :: rest) (by simp at hn;omega) h7
  have r2:=zr6 hb m t8 (y :: z :: rest) (by simp at hn;omega) h8
  rw [List.cons_append,List.cons_append,K6,if_pos ht,if_neg (by omega),hu,hw]
  simp only
  rw [O4,if_neg (by decide),if_neg (by decide),if_neg (by decide),if_pos rfl,J0,e]
  simp only [List.append_assoc,List.cons_append,List.nil_append]
  rw [r1]
  simp only
  rw [J0,r2]
  simp only
  rw [J0,W7,hy,qa7 h1 h2']
  simp only
  rw [if_neg (by omega)]
  simp only [J0]
  rw [J6,zc4,if_pos hz,x9 hu]
theorem qz3 {nd:Nd} (h:RF N 0 nd):∃ us,X8 N (Z1 nd)=.ok nd us:=by
 have hw:=qk5 h.tx
 obtain ⟨ts,t2,e,h1,h2⟩:=Is.app hw
 obtain ⟨z,t3,rfl,hz,h3⟩:=h2.cons
 have h3:=h3.nil
 subst h3
 have hl:(zf8 nd).length<=(toks (Z1 nd)).length:=by
  have:=congrArg List.length hw
  simp at this
  omega
 have hr:=qz2 h (toks (Z1 nd)).length ts [z] hl h1
 unfold X8
 have e0:((0:Nat):Int)=0:=rfl
 rw [e0] at hr
 rw [e] at hr ⊢
 rw [hr]
 simp only
 rw [if_pos hz]
 exact ⟨_,rfl⟩
end
end Ar
end Go.Proofs.YtegbdaffhpiacaaGreatDoor
