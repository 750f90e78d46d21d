/- A part of the proof. -/
import Derived.Test.YtegbdaffhpiacaaGreatDoorMod03
import Derived.Lib.ItoaNum
namespace Go.Proofs.YtegbdaffhpiacaaGreatDoor
section
namespace Ar
inductive NOk:Nd->Prop
 | mk {k v:Int} {w:ByteArray} {ps:List Nd} (h:k=4\/k=5 -> -1000<=v/\v<=1000) (hp:∀ p∈ps,NOk p):NOk (.mk k w v ps)
def Oks(f:List Tk->Rs Nd):Prop:=∀ ts nd ts',f ts=.ok nd ts'->NOk nd
theorem zB4(fs:List (List Tk->Rs Nd))(h:∀ f∈fs,Oks f):∀ ts ps ts',J5 fs ts=.ok ps ts'->∀ p∈ps,NOk p:=by
 induction fs with
 | nil=>intro ts ps ts' e;simp[J5] at e;obtain⟨rfl,rfl⟩:=e;intro p hp;exact absurd hp (by simp)
 | cons f fs ih=>
  intro ts ps ts' e;unfold J5 at e;split at e
  ·exact absurd e (by simp)
  ·rename_i a us hf;split at e
   ·exact absurd e (by simp)
   ·rename_i as vs hr;simp only[Rs.ok.injEq] at e;obtain⟨rfl,rfl⟩:=e;intro p hp;rcases List.mem_cons.1 hp with rfl|hp
    ·exact h f (List.mem_cons_self ..) _ _ _ hf
    ·exact ih (fun g hg=>h g (List.mem_cons_of_mem _ hg)) _ _ _ hr p hp
theorem qU8(m:Nat)(f:List Tk->Rs Nd)(h:Oks f):∀ ts ps ts',X8 m f ts=.ok ps ts'->∀ p∈ps,NOk p:=by
 induction m with
 | zero=>intro ts ps ts' e;exact absurd e (by simp[X8])
 | succ m ih=>
  intro ts ps ts' e;cases ts with
  | nil=>exact absurd e (by simp[X8])
  | cons t ts=>
   unfold X8 at e;split at e
   ·simp only[Rs.ok.injEq] at e;obtain⟨rfl,rfl⟩:=e;intro p hp;exact absurd hp (by simp)
   ·split at e
    ·exact absurd e (by simp)
    ·rename_i a us hf;split at e
     ·exact absurd e (by simp)
     ·rename_i as vs hr;simp only[Rs.ok.injEq] at e;obtain⟨rfl,rfl⟩:=e;intro p hp;rcases List.mem_cons.1 hp with rfl|hp
      ·exact h _ _ _ hf
      ·exact ih _ _ _ hr p hp
theorem qA3(k:Int):Oks (V5 k):=by
 intro ts nd ts' e;cases ts with
 | nil=>exact absurd e (by simp[V5])
 | cons t ts=>
  simp only[V5] at e;split at e
  ·exact absurd e (by simp)
  ·split at e
   ·exact absurd e (by simp)
   ·rename_i v _ hv;simp only[Rs.ok.injEq] at e;obtain⟨rfl,rfl⟩:=e;exact .mk (fun _=>by omega) (fun p hp=>absurd hp (by simp))
theorem zO5{e k:Int}{w:ByteArray}{r:Rs (List Nd)}{nd:Nd}{ts':List Tk}(hk:¬(k=4\/k=5))(hr:∀ ps us,r=.ok ps us->∀ p∈ps,NOk p)(h:J7 e k w r=.ok nd ts'):NOk nd:=by
 cases r with
 | no e p=>exact absurd h (by simp[J7])
 | ok ps us=>
  simp only[J7] at h;cases us with
  | nil=>exact absurd h (by simp[zd4])
  | cons v vs=>
   simp only[zd4] at h;split at h
   ·simp only[Rs.ok.injEq] at h;obtain⟨rfl,rfl⟩:=h;exact .mk (fun h=>absurd h hk) (hr ps _ rfl)
   ·split at h<;>exact absurd h (by simp)
theorem jg9{f:List Tk->Rs Nd}(h:Oks f):Oks (zb0 f):=by
 intro ts nd ts' e;cases ts with
 | nil=>exact absurd e (by simp[zb0])
 | cons t ts=>
  simp only[zb0] at e;split at e
  ·exact absurd e (by simp)
  ·exact h _ _ _ e
theorem qU9(N:List Nm)(n:Nat):∀ d,Oks (X0 N n d):=by
 induction n with
 | zero=>intro d ts nd ts' e;exact absurd e (by simp[X0])
 | succ n ih=>
  intro d ts nd ts' e;cases ts with
  | nil=>exact absurd e (by simp[X0])
  | cons t ts=>
   unfold X0 at e;split at e
   ·split at e
    ·exact absurd e (by simp)
    ·split at e
     ·exact absurd e (by simp)
     ·rename_i u us;split at e
      ·split at e
       ·exact absurd e (by simp)
       ·rename_i a _;split at e
        ·exact absurd e (by simp)
        ·exact zO5 (by decide) (fun ps vs hr=>zB4 _ (fun f hf=>by rw[(List.mem_replicate.1 hf).2];exact jg9 (ih (d+1))) us ps vs hr) e
      ·exact absurd e (by simp)
   ·split at e
    ·split at e
     ·exact absurd e (by simp)
     ·split at e
      ·simp only[Rs.ok.injEq] at e;obtain⟨rfl,rfl⟩:=e;exact .mk (fun h=>absurd h (by decide)) (fun p hp=>absurd hp (by simp))
      ·exact absurd e (by simp)
    ·exact qA3 4 _ _ _ e
theorem jh0{l:List UInt8}{ks:Int × Int}(h:zo1 l=some ks):¬(ks.1=4\/ks.1=5):=by
 unfold zo1 at h
 repeat' (split at h)
 all_goals first|(simp only[Option.some.injEq] at h;subst h;decide)|exact absurd h (by simp)
theorem qV0(N:List Nm)(n:Nat):∀ d,Oks (K6 N n d):=by
 induction n with
 | zero=>intro d ts nd ts' e;exact absurd e (by simp[K6])
 | succ n ih=>
  intro d ts nd ts' e;cases ts with
  | nil=>exact absurd e (by simp[K6])
  | cons t ts=>
   unfold K6 at e;split at e
   ·split at e
    ·exact absurd e (by simp)
    ·split at e
     ·exact absurd e (by simp)
     ·rename_i u us;split at e
      ·exact absurd e (by simp)
      ·rename_i ks hks;refine zO5 (jh0 hks) (fun ps vs hr=>?_) e;unfold l9 at hr;have hT:=qU9 N n (d+1);have hF:=ih (d+1);split at hr
       ·exact zB4 _ (by intro f hf;simp at hf;subst hf;exact hF) us ps vs hr
       ·split at hr
        ·exact zB4 _ (by intro f hf;simp at hf;subst hf;exact hF) us ps vs hr
        ·split at hr
         ·exact zB4 _ (by intro f hf;simp at hf;subst hf;exact hT) us ps vs hr
         ·split at hr
          ·exact zB4 _ (by intro f hf;simp at hf;rcases hf with rfl|rfl<;>first|exact hT|exact qA3 5) us ps vs hr
          ·exact qU8 _ _ hF us ps vs hr
   ·split at e
    ·simp only[Rs.ok.injEq] at e;obtain⟨rfl,rfl⟩:=e;exact .mk (fun h=>absurd h (by decide)) (fun p hp=>absurd hp (by simp))
    ·exact absurd e (by simp)
end Ar
namespace Ar
inductive Y5:Nd->Prop
 | num {v:Int} (h1:-1000<=v) (h2:v<=1000):Y5 (.mk 4 ByteArray.empty v [])
 | app {w:ByteArray} {ps:List Nd} (hw:X6 w.toList=true) (hl:ps.length<=3) (hp:∀ p∈ps,Y5 p):Y5 (.mk 3 w 0 ps)
def AtW(l:List UInt8):Prop:=l=[61]\/l=[60]\/l=[60,61]\/l=wLe
instance (l:List UInt8):Decidable (AtW l):=inferInstanceAs (Decidable (l=[61]\/l=[60]\/l=[60,61]\/l=wLe))
inductive zk1:Nd->Prop
 | truth {w:ByteArray} (hw:¬AtW w.toList):zk1 (.mk 0 w 0 [])
 | con {w:ByteArray} {ps:List Nd} (hw:¬AtW w.toList) (hp:∀ p∈ps,zk1 p):zk1 (.mk 1 w 0 ps)
 | two {w:ByteArray} {a b:Nd} (hw:w.toList=[61]\/w.toList=[60]\/w.toList=[60,61]) (ha:Y5 a) (hb:Y5 b):zk1 (.mk 2 w 0 [a,b])
 | le {w:ByteArray} {a b:Nd} {v:Int} (hw:w.toList=wLe) (ha:Y5 a) (hb:Y5 b) (h1:-1000<=v) (h2:v<=1000):zk1 (.mk 2 w 0 [a,b,.mk 5 ByteArray.empty v []])
theorem zI0{P:Nd->Prop}(fs:List (List Tk->Rs Nd))(h:∀ f∈fs,∀ ts nd ts',f ts=.ok nd ts'->P nd):∀ ts ps ts',J5 fs ts=.ok ps ts'->(∀ p∈ps,P p)/\ps.length=fs.length:=by
 induction fs with
 | nil=>intro ts ps ts' e;simp[J5] at e;obtain⟨rfl,rfl⟩:=e;exact⟨fun p hp=>absurd hp (by simp),rfl⟩
 | cons f fs ih=>
  intro ts ps ts' e;unfold J5 at e;split at e
  ·exact absurd e (by simp)
  ·rename_i a us hf;split at e
   ·exact absurd e (by simp)
   ·rename_i as vs hr;simp only[Rs.ok.injEq] at e;obtain⟨rfl,rfl⟩:=e;obtain⟨h1,h2⟩:=ih (fun g hg=>h g (List.mem_cons_of_mem _ hg)) us as _ hr;refine⟨fun p hp=>?_,by simp[h2]⟩;rcases List.mem_cons.1 hp with rfl|hp
    ·exact h f (by simp) _ _ _ hf
    ·exact h1 p hp
theorem jg4{P Q:Nd->Prop}{f g:List Tk->Rs Nd}(hf:∀ ts nd ts',f ts=.ok nd ts'->P nd)(hg:∀ ts nd ts',g ts=.ok nd ts'->Q nd){ts ts':List Tk}{ps:List Nd}(e:J5 [f,g] ts=.ok ps ts'):∃ a b,ps=[a,b]/\P a/\Q b:=by
 simp only[J5] at e;split at e
 ·exact absurd e (by simp)
 ·rename_i a us h1;split at e
  ·exact absurd e (by simp)
  ·rename_i as vs h2;split at h2
   ·exact absurd h2 (by simp)
   ·rename_i b xs h3;simp only[Rs.ok.injEq] at e h2;obtain⟨rfl,rfl⟩:=h2;obtain⟨rfl,rfl⟩:=e;exact⟨a,b,rfl,hf _ _ _ h1,hg _ _ _ h3⟩
theorem ju2{P Q R:Nd->Prop}{f g h:List Tk->Rs Nd}(hf:∀ ts nd ts',f ts=.ok nd ts'->P nd)(hg:∀ ts nd ts',g ts=.ok nd ts'->Q nd)(hh:∀ ts nd ts',h ts=.ok nd ts'->R nd){ts ts':List Tk}{ps:List Nd}(e:J5 [f,g,h] ts=.ok ps ts'):∃ a b c,ps=[a,b,c]/\P a/\Q b/\R c:=by
 unfold J5 at e;split at e
 ·exact absurd e (by simp)
 ·rename_i a us h1;split at e
  ·exact absurd e (by simp)
  ·rename_i as vs h2;simp only[Rs.ok.injEq] at e;obtain⟨rfl,rfl⟩:=e;obtain⟨b,c,rfl,hb,hc⟩:=jg4 hg hh h2;exact⟨a,b,c,rfl,hf _ _ _ h1,hb,hc⟩
theorem qk1{P:Nd->Prop}{f:List Tk->Rs Nd}(h:∀ ts nd ts',f ts=.ok nd ts'->P nd)(m:Nat):∀ ts ps ts',X8 m f ts=.ok ps ts'->∀ p∈ps,P p:=by
 induction m with
 | zero=>intro ts ps ts' e;simp[X8] at e
 | succ m ih=>
  intro ts ps ts' e;cases ts with
  | nil=>simp[X8] at e
  | cons t ts=>
   unfold X8 at e;split at e
   ·simp only[Rs.ok.injEq] at e;obtain⟨rfl,rfl⟩:=e;exact fun p hp=>absurd hp (by simp)
   ·split at e
    ·exact absurd e (by simp)
    ·rename_i a us hf;split at e
     ·exact absurd e (by simp)
     ·rename_i as vs hr;simp only[Rs.ok.injEq] at e;obtain⟨rfl,rfl⟩:=e;intro p hp;rcases List.mem_cons.1 hp with rfl|hp
      ·exact h _ _ _ hf
      ·exact ih us as _ hr p hp
theorem zE2{e k:Int}{w:ByteArray}{r:Rs (List Nd)}{nd:Nd}{ts':List Tk}(h:J7 e k w r=.ok nd ts'):∃ ps us,r=.ok ps us/\nd=.mk k w 0 ps:=by
 cases r with
 | no e p=>exact absurd h (by simp[J7])
 | ok ps us=>
  simp only[J7] at h;cases us with
  | nil=>exact absurd h (by simp[zd4])
  | cons v vs=>
   simp only[zd4] at h;split at h
   ·simp only[Rs.ok.injEq] at h;obtain⟨rfl,rfl⟩:=h;exact⟨ps,_,rfl,rfl⟩
   ·split at h<;>exact absurd h (by simp)
theorem qt7{k:Int}{ts ts':List Tk}{nd:Nd}(e:V5 k ts=.ok nd ts'):∃ v,nd=.mk k ByteArray.empty v [] /\ -1000<=v/\v<=1000:=by
 cases ts with
 | nil=>exact absurd e (by simp[V5])
 | cons t ts=>
  simp only[V5] at e;split at e
  ·exact absurd e (by simp)
  ·split at e
   ·exact absurd e (by simp)
   ·rename_i v _ hv;simp only[Rs.ok.injEq] at e;obtain⟨rfl,rfl⟩:=e;exact⟨v,rfl,by omega,by omega⟩
theorem jq4{f:List Tk->Rs Nd}{ts ts':List Tk}{nd:Nd}(e:zb0 f ts=.ok nd ts'):∃ us,f us=.ok nd ts':=by
 cases ts with
 | nil=>exact absurd e (by simp[zb0])
 | cons t ts=>
  simp only[zb0] at e;split at e
  ·exact absurd e (by simp)
  ·exact⟨_,e⟩
def zA8(N:List Nm):Prop:=∀ x∈N,0<=x.ar/\x.ar<=3
theorem qk2{N:List Nm}(h:zA8 N){l:List UInt8}{a:Int}(e:za8 N l=some a):a<=3:=by unfold za8 at e;obtain⟨x,hx,rfl⟩:=Option.map_eq_some_iff.1 e;exact(h x (List.mem_of_find?_eq_some hx)).2
theorem zN7{N:List Nm}(hN:zA8 N)(n:Nat):∀ d ts nd ts',X0 N n d ts=.ok nd ts'->Y5 nd:=by
 induction n with
 | zero=>intro d ts nd ts' e;exact absurd e (by simp[X0])
 | succ n ih=>
  intro d ts nd ts' e;cases ts with
  | nil=>exact absurd e (by simp[X0])
  | cons t ts=>
   unfold X0 at e;split at e
   ·split at e
    ·exact absurd e (by simp)
    ·split at e
     ·exact absurd e (by simp)
     ·rename_i u us;split at e
      ·rename_i hnm;split at e
       ·exact absurd e (by simp)
       ·rename_i a ha;split at e
        ·exact absurd e (by simp)
        ·obtain⟨ps,vs,hr,rfl⟩:=zE2 e;obtain⟨h1,h2⟩:=zI0 (P:=Y5) _ (fun f hf ts nd ts' he=>by
          rw[(List.mem_replicate.1 hf).2] at he;obtain⟨us',he'⟩:=jq4 he;exact ih (d+1) _ _ _ he') us ps vs hr
         have:=qk2 hN ha;rw[List.length_replicate] at h2;exact .app hnm (by omega) h1
      ·exact absurd e (by simp)
   ·split at e
    ·rename_i hnm;split at e
     ·exact absurd e (by simp)
     ·split at e
      ·simp only[Rs.ok.injEq] at e;obtain⟨rfl,rfl⟩:=e;exact .app hnm (by simp) (fun p hp=>absurd hp (by simp))
      ·exact absurd e (by simp)
    ·obtain⟨v,rfl,h1,h2⟩:=qt7 e;exact .num h1 h2
theorem qU2{l:List UInt8}{ks:Int × Int}(h:zo1 l=some ks):((ks=(1,0)\/ks=(1,1)\/ks=(1,2))/\¬AtW l)\/(ks=(2,3)/\(l=[61]\/l=[60]\/l=[60,61]))\/(ks=(2,4)/\l=wLe):=by
 unfold zo1 at h
 repeat' (split at h)
 all_goals first|(simp at h;done)|(simp only[Option.some.injEq] at h;subst h)
 all_goals first|(rename_i e;subst e;(refine .inl ⟨?_,?_⟩<;>first|decide|(simp;done)))|(rename_i e;subst e;refine .inr (.inl ⟨rfl,?_⟩);(simp;done))|(rename_i e;subst e;exact .inr (.inr ⟨rfl,rfl⟩))
theorem qt8{N:List Nm}(hN:zA8 N)(n:Nat):∀ d ts nd ts',K6 N n d ts=.ok nd ts'->zk1 nd:=by
 induction n with
 | zero=>intro d ts nd ts' e;exact absurd e (by simp[K6])
 | succ n ih=>
  intro d ts nd ts' e;cases ts with
  | nil=>exact absurd e (by simp[K6])
  | cons t ts=>
   unfold K6 at e;split at e
   ·split at e
    ·exact absurd e (by simp)
    ·split at e
     ·exact absurd e (by simp)
     ·rename_i u us;split at e
      ·exact absurd e (by simp)
      ·rename_i ks hks;obtain⟨ps,vs,hr,rfl⟩:=zE2 e;have hT:=zN7 hN n (d+1);have hF:=ih (d+1);rcases qU2 hks with⟨(rfl|rfl|rfl),hw⟩|⟨rfl,hw⟩|⟨rfl,hw⟩
       ·exact .con hw (zI0 [_] (fun f hf=>by simp at hf;subst hf;exact hF) us ps vs hr).1
       ·exact .con hw (zI0 [_,_] (fun f hf=>by simp at hf;subst hf;exact hF) us ps vs hr).1
       ·exact .con hw (qk1 hF _ us ps vs hr)
       ·obtain⟨a,b,rfl,ha,hb⟩:=jg4 hT hT (ts:=us) hr;exact .two hw ha hb
       ·obtain⟨a,b,c,rfl,ha,hb,hc⟩:=ju2 (R:=fun nd=>∃ v,nd=.mk 5 ByteArray.empty v [] /\ -1000<=v/\v<=1000) hT hT (fun ts nd ts' e=>qt7 e) (ts:=us) hr;obtain⟨v,rfl,h1,h2⟩:=hc;exact .le hw ha hb h1 h2
   ·split at e
    ·rename_i hw;simp only[Rs.ok.injEq] at e;obtain⟨rfl,rfl⟩:=e;refine .truth ?_;rcases hw with hw|hw<;>(rw[hw];decide)
    ·exact absurd e (by simp)
end Ar
namespace Ar
def zo3(c:UInt8):Bool:=c != 32 && c != 40 && c != 41
def Dl(r:List UInt8):Prop:=∀ c∈r.head?,zo3 c=false
theorem zo4:∀ {a b r s:List UInt8},a.all zo3=true->b.all zo3=true->Dl r->Dl s->a++r=b++s->a=b/\r=s:=by
 intro a
 induction a with
 | nil=>
  intro b r s _ hb hr _ h;cases b with
  | nil=>exact⟨rfl,h⟩
  | cons c b=>simp at h hb;subst h;exact absurd (hr c (by simp)) (by rw[hb.1];decide)
 | cons c a ih=>
  intro b r s ha hb hr hs h;cases b with
  | nil=>simp at h ha;subst h;exact absurd (hs c (by simp)) (by rw[ha.1];decide)
  | cons d b=>simp only[List.all_cons,Bool.and_eq_true] at ha hb;simp only[List.cons_append,List.cons.injEq] at h;obtain⟨rfl,h⟩:=h;obtain⟨rfl,rfl⟩:=ih ha.2 hb.2 hr hs h;exact⟨rfl,rfl⟩
def zV9(v:Int):Bool:=numOf (ze7 v)==some v && (ze7 v).all zo3 && ((ze7 v).head?.any (fun c => !zp6 c))
theorem qJ4:((List.range 2001).all fun i=>zV9 ((i:Int)-1000))=true:=by decide +kernel
theorem zs4{v:Int}(h1:-1000<=v)(h2:v<=1000):zV9 v=true:=by
 have h:=List.all_eq_true.1 qJ4 (v+1000).toNat (List.mem_range.2 (by omega));have e:(((v+1000).toNat:Nat):Int)-1000=v:=by omega
 rwa [e] at h
theorem qk3{v u:Int}(h1:-1000<=v)(h2:v<=1000)(h3:-1000<=u)(h4:u<=1000)(h:ze7 v=ze7 u):v=u:=by have a:=zs4 h1 h2;have b:=zs4 h3 h4;simp only[zV9,Bool.and_eq_true,beq_iff_eq] at a b;have:=a.1.1;rw[h,b.1.1] at this;exact(Option.some.inj this).symm
theorem zA9{v:Int}(h1:-1000<=v)(h2:v<=1000):(ze7 v).all zo3=true:=by have a:=zs4 h1 h2;simp only[zV9,Bool.and_eq_true] at a;exact a.1.2
theorem zE3{v:Int}(h1:-1000<=v)(h2:v<=1000):∃ c l,ze7 v=c::l/\zp6 c=false/\c≠40:=by
 have a:=zs4 h1 h2;simp only[zV9,Bool.and_eq_true] at a;cases hi:ze7 v with
 | nil=>rw[hi] at a;exact absurd a.2 (by simp)
 | cons c l=>rw[hi] at a;refine⟨c,l,rfl,by simpa using a.2,?_⟩;intro e;subst e;exact absurd a.1.2 (by simp[zo3])
theorem qt9{c:UInt8}(h:zp6 c=true):zo3 c=true:=by simp only[zp6,decide_eq_true_eq] at h;simp only[zo3,Bool.and_eq_true,bne_iff_ne];refine⟨⟨?_,?_⟩,?_⟩<;>(intro e;subst e;exact absurd h (by decide))
theorem zB0{l:List UInt8}(h:X6 l=true):l.all zo3=true/\∃ c r,l=c::r/\zp6 c=true/\c≠40:=by
 simp only[X6,Bool.and_eq_true,decide_eq_true_eq] at h;have ha:=h.1.1;refine⟨List.all_eq_true.2 (fun c hc=>qt9 (List.all_eq_true.1 ha c hc)),?_⟩;cases l with
 | nil=>exact absurd h.2.1 (by decide)
 | cons c r=>have hc:=List.all_eq_true.1 ha c (by simp);refine⟨c,r,rfl,hc,?_⟩;intro e;subst e;exact absurd hc (by decide)
theorem qU3(r:List UInt8):Dl (32::r):=by intro c hc;simp at hc;subst hc;decide
theorem qk4(r:List UInt8):Dl (41::r):=by intro c hc;simp at hc;subst hc;decide
theorem zk2(p:Nd)(ps:List Nd)(r:List UInt8):Dl (Q9 (p::ps)++r):=by rw[Q9];exact qU3 _
theorem zk3(v:Int):j9 (.mk 4 ByteArray.empty v [])=ze7 v:=by rw[j9,if_neg (by decide),U0,if_pos (by decide)]
theorem zg2(w:ByteArray):j9 (.mk 3 w 0 [])=w.toList:=by rw[j9,if_neg (by decide),U0,if_neg (by decide)]
theorem zk4(w:ByteArray)(p:Nd)(ps:List Nd):j9 (.mk 3 w 0 (p::ps))=40::(w.toList++(Q9 (p::ps)++[41])):=by rw[j9,if_pos (Or.inr (Or.inr (by simp))),U0,if_neg (by decide)];simp
theorem qu0(v:Int):j9 (.mk 5 ByteArray.empty v [])=ze7 v:=by rw[j9,if_neg (by decide),U0,if_pos (by decide)]
theorem zu5(w:ByteArray)(ps:List Nd):j9 (.mk 2 w 0 ps)=40::(w.toList++(Q9 ps++[41])):=by rw[j9,if_pos (Or.inr (Or.inl rfl)),U0,if_neg (by decide)];simp
theorem qJ5{ps:List Nd}(h:∀ p∈ps,∀ q r s,Y5 q->Dl r->Dl s->j9 p++r=j9 q++s->p=q/\r=s):∀ {qs:List Nd} {r s:List UInt8},(∀ q∈qs,Y5 q)->Q9 ps++41::r=Q9 qs++41::s->ps=qs/\r=s:=by
 induction ps with
 | nil=>
  intro qs r s _ e;cases qs with
  | nil=>simp[Q9] at e;exact⟨rfl,e⟩
  | cons q qs=>simp[Q9] at e
 | cons p ps ih=>
  intro qs r s hq e;cases qs with
  | nil=>simp[Q9] at e
  | cons q qs=>
   simp only[Q9,List.cons_append,List.append_assoc,List.cons.injEq,true_and] at e;have d1:Dl (Q9 ps++41::r):=by
    cases ps with
    | nil=>exact qk4 _
    | cons a as=>exact zk2 a as _
   have d2:Dl (Q9 qs++41::s):=by
    cases qs with
    | nil=>exact qk4 _
    | cons a as=>exact zk2 a as _
   obtain⟨rfl,e2⟩:=h p (by simp) q _ _ (hq q (by simp)) d1 d2 e;obtain⟨rfl,rfl⟩:=ih (fun x hx=>h x (List.mem_cons_of_mem _ hx)) (fun x hx=>hq x (List.mem_cons_of_mem _ hx)) e2;exact⟨rfl,rfl⟩
theorem zN8{a:Nd}(ha:Y5 a):∀ b r s,Y5 b->Dl r->Dl s->j9 a++r=j9 b++s->a=b/\r=s:=by
 induction ha with
 | num h1 h2=>
  intro b r s hb hr hs e;cases hb with
  | num h3 h4=>rw[zk3,zk3] at e;obtain⟨e1,rfl⟩:=zo4 (zA9 h1 h2) (zA9 h3 h4) hr hs e;rw[qk3 h1 h2 h3 h4 e1];exact⟨rfl,rfl⟩
  | @app w ps hw _ _=>
   obtain⟨c,l,hc,hlc,hc40⟩:=zE3 h1 h2;obtain⟨d,l2,hd,hld,_⟩:=(zB0 hw).2;cases ps with
   | nil=>rw[zk3,zg2,hc,hd] at e;simp only[List.cons_append,List.cons.injEq] at e;rw[e.1,hld] at hlc;exact absurd hlc (by decide)
   | cons p ps=>rw[zk3,zk4,hc] at e;simp only[List.cons_append,List.cons.injEq] at e;exact absurd e.1 hc40
 | @app w ps hw _ hp ih=>
  intro b r s hb hr hs e;obtain⟨hwt,d,l2,hd,hld,hd40⟩:=zB0 hw;cases hb with
  | num h3 h4=>
   obtain⟨c,l,hc,hlc,hc40⟩:=zE3 h3 h4;cases ps with
   | nil=>rw[zk3,zg2,hc,hd] at e;simp only[List.cons_append,List.cons.injEq] at e;rw[<- e.1,hld] at hlc;exact absurd hlc (by decide)
   | cons p ps=>rw[zk3,zk4,hc] at e;simp only[List.cons_append,List.cons.injEq] at e;exact absurd e.1.symm hc40
  | @app w' qs hw' _ hq=>
   obtain⟨hwt',d',l2',hd',hld',hd40'⟩:=zB0 hw';cases ps with
   | nil=>
    cases qs with
    | nil=>rw[zg2,zg2] at e;obtain⟨e1,rfl⟩:=zo4 hwt hwt' hr hs e;rw[zb9 e1];exact⟨rfl,rfl⟩
    | cons q qs=>rw[zg2,zk4,hd] at e;simp only[List.cons_append,List.cons.injEq] at e;exact absurd e.1 hd40
   | cons p ps=>
    cases qs with
    | nil=>rw[zg2,zk4,hd'] at e;simp only[List.cons_append,List.cons.injEq] at e;exact absurd e.1.symm hd40'
    | cons q qs=>rw[zk4,zk4] at e;simp only[List.cons_append,List.append_assoc,List.cons.injEq,true_and] at e;obtain⟨e1,e2⟩:=zo4 hwt hwt' (zk2 p ps _) (zk2 q qs _) e;obtain⟨e3,rfl⟩:=qJ5 (ps:=p::ps) ih hq e2;rw[zb9 e1,e3];exact⟨rfl,rfl⟩
theorem qJ6{a b:Nd}(ha:Y5 a)(hb:Y5 b)(h:j9 a=j9 b):a=b :=
 (zN8 ha b [] [] hb (by intro c hc;simp at hc) (by intro c hc;simp at hc) (by rw[h])).1
inductive zs5:Nd->Prop
 | two {w:ByteArray} {a b:Nd} (hw:w.toList=[61]\/w.toList=[60]\/w.toList=[60,61]) (ha:Y5 a) (hb:Y5 b):zs5 (.mk 2 w 0 [a,b])
 | le {w:ByteArray} {a b:Nd} {v:Int} (hw:w.toList=wLe) (ha:Y5 a) (hb:Y5 b) (h1:-1000<=v) (h2:v<=1000):zs5 (.mk 2 w 0 [a,b,.mk 5 ByteArray.empty v []])
theorem zp7{w w':ByteArray}{a b a' b':Nd}{xs ys:List Nd}(hw:w.toList.all zo3=true)(hw':w'.toList.all zo3=true)(ha:Y5 a)(hb:Y5 b)(ha':Y5 a')(hb':Y5 b')(e:j9 (.mk 2 w 0 (a::b::xs))=j9 (.mk 2 w' 0 (a'::b'::ys))):
  w=w'/\a=a'/\b=b'/\Q9 xs++[41]=Q9 ys++[41]:=by
 rw[zu5,zu5] at e;simp only[List.cons.injEq,true_and] at e;obtain⟨e1,e2⟩:=zo4 hw hw' (zk2 _ _ _) (zk2 _ _ _) e;simp only[Q9,List.cons_append,List.append_assoc,List.cons.injEq,true_and] at e2;obtain⟨rfl,e3⟩:=zN8 ha _ _ _ ha' (qU3 _) (qU3 _) e2;simp only[List.cons.injEq,true_and] at e3;have d:∀ zs:List Nd,Dl (Q9 zs++[41]):=by
  intro zs;cases zs with
  | nil=>exact qk4 _
  | cons z zs=>exact zk2 z zs _
 obtain⟨rfl,e4⟩:=zN8 hb _ _ _ hb' (d xs) (d ys) e3;exact⟨zb9 e1,rfl,rfl,e4⟩
theorem zI1{l:List UInt8}(h:l=[61]\/l=[60]\/l=[60,61]):l.all zo3=true:=by rcases h with rfl|rfl|rfl<;>decide
theorem qa8{l:List UInt8}(h:l=wLe):l.all zo3=true:=by subst h;decide
theorem qJ7{x y:Nd}(hx:zs5 x)(hy:zs5 y)(e:j9 x=j9 y):x=y:=by
 cases hx with
 | two hw ha hb=>
  cases hy with
  | two hw' ha' hb'=>
   obtain⟨rfl,rfl,rfl,_⟩:=zp7 (zI1 hw) (zI1 hw') ha hb ha' hb' e
   rfl
  | le hw' ha' hb' _ _=>obtain⟨_,_,_,h⟩:=zp7 (zI1 hw) (qa8 hw') ha hb ha' hb' e;simp[Q9] at h
 | le hw ha hb h1 h2=>
  cases hy with
  | two hw' ha' hb'=>obtain⟨_,_,_,h⟩:=zp7 (qa8 hw) (zI1 hw') ha hb ha' hb' e;simp[Q9] at h
  | le hw' ha' hb' h3 h4=>obtain⟨rfl,rfl,rfl,h⟩:=zp7 (qa8 hw) (qa8 hw') ha hb ha' hb' e;simp only[Q9,qu0,List.cons_append,List.append_assoc,List.nil_append,List.cons.injEq,true_and] at h;obtain⟨e1,_⟩:=zo4 (zA9 h1 h2) (zA9 h3 h4) (qk4 _) (qk4 _) h;rw[qk3 h1 h2 h3 h4 e1]
theorem zu6{t:Nd}(h:Y5 t):∀ x∈J0 true t,Y5 x:=by
 induction h with
 | num h1 h2=>intro x hx;simp[J0,Z0,O7] at hx;subst hx;exact .num h1 h2
 | app hw hl hp ih=>
  intro x hx;simp only[J0,List.mem_append] at hx;rcases hx with hx|hx
  ·simp[O7] at hx;subst hx;exact .app hw hl hp
  ·obtain⟨p,hp',hx⟩:=Y9.1 hx;exact ih p hp' x hx
theorem k9{t:Nd}(h:Y5 t):J0 false t=[]:=by
 induction h with
 | num h1 h2=>simp[J0,Z0,O7]
 | @app w ps hw hl hp ih=>
  simp only[J0];rw[if_neg (by simp[O7])];have:Z0 false ps=[]:=by
   clear hl hp
   induction ps with
   | nil=>rfl
   | cons p ps ih2=>rw[Z0,ih p (by simp),ih2 (fun q hq=>ih q (List.mem_cons_of_mem _ hq))];rfl
  rw[this]
  rfl
theorem zE4{f:Nd}(h:zk1 f):(∀ x∈J0 true f,Y5 x)/\(∀ x∈J0 false f,zs5 x):=by
 induction h with
 | truth _=>exact⟨fun x hx=>by simp[J0,Z0,O7] at hx,fun x hx=>by simp[J0,Z0,O7] at hx⟩
 | con _ hp ih=>
  refine⟨fun x hx=>?_,fun x hx=>?_⟩
  all_goals
   simp only[J0] at hx;rw[if_neg (by simp[O7])] at hx;obtain⟨p,hp',hx⟩:=Y9.1 (by simpa using hx)
  ·exact(ih p hp').1 x hx
  ·exact(ih p hp').2 x hx
 | two hw ha hb=>
  refine⟨fun x hx=>?_,fun x hx=>?_⟩
  ·simp[J0,Z0,O7] at hx;rcases hx with hx|hx
   ·exact zu6 ha x hx
   ·exact zu6 hb x hx
  ·simp[J0,Z0,O7,k9 ha,k9 hb] at hx;subst hx;exact .two hw ha hb
 | le hw ha hb h1 h2=>
  refine⟨fun x hx=>?_,fun x hx=>?_⟩
  ·simp[J0,Z0,O7] at hx;rcases hx with hx|hx
   ·exact zu6 ha x hx
   ·exact zu6 hb x hx
  ·simp[J0,Z0,O7,k9 ha,k9 hb] at hx;subst hx;exact .le hw ha hb h1 h2
theorem zB1{x:Nd}(h:Y5 x)(t:Bool):(J0 t x).length<=(j9 x).length:=by
 induction h with
 | @num v h1 h2=>obtain⟨c,l,e,_⟩:=zE3 h1 h2;rw[zk3,e];cases t<;>simp[J0,Z0,O7]
 | @app w ps hw hl hp ih=>
  have hs:(Z0 t ps).length<=(Q9 ps).length:=by
   clear hl hp
   induction ps with
   | nil=>simp[Z0]
   | cons p ps ih2=>have h1:=ih p (by simp);have h2:=ih2 (fun q hq=>ih q (List.mem_cons_of_mem _ hq));simp only[Z0,Q9,List.length_append,List.length_cons];omega
  obtain⟨_,c,l,e,_⟩:=zB0 hw;have h1:(J0 t (.mk 3 w 0 ps)).length<=1+(Z0 t ps).length:=by simp only[J0,List.length_append];split<;>simp
  cases ps with
  | nil=>rw[zg2,e];simp[Z0] at h1;simp;omega
  | cons p ps=>rw[zk4];simp only[List.length_cons,List.length_append] at *;omega
theorem qk5{x:Nd}(h:zk1 x)(t:Bool):(J0 t x).length<=(j9 x).length:=by
 induction h with
 | truth _=>cases t<;>simp[J0,Z0,O7]
 | @con w ps _ hp ih=>
  have hs:(Z0 t ps).length<=(Q9 ps).length:=by
   clear hp
   induction ps with
   | nil=>simp[Z0]
   | cons p ps ih2=>have h1:=ih p (by simp);have h2:=ih2 (fun q hq=>ih q (List.mem_cons_of_mem _ hq));simp only[Z0,Q9,List.length_append,List.length_cons];omega
  have h1:(J0 t (.mk 1 w 0 ps)).length=(Z0 t ps).length:=by simp only[J0,List.length_append];cases t<;>simp[O7]
  have h2:(Q9 ps).length<=(j9 (.mk 1 w 0 ps)).length:=by rw[j9,if_pos (Or.inl rfl)];simp only[List.length_cons,List.length_append];omega
  omega
 | @two w a b hw ha hb=>
  have h1:=zB1 ha t;have h2:=zB1 hb t;have h3:(J0 t (.mk 2 w 0 [a,b])).length<=1+(J0 t a).length+(J0 t b).length:=by simp only[J0,Z0,List.length_append,List.length_nil];split<;>simp<;>omega
  rw[zu5];simp only[Q9,List.length_cons,List.length_append,List.length_nil];omega
 | @le w a b v hw ha hb _ _=>
  have h1:=zB1 ha t;have h2:=zB1 hb t;have h3:(J0 t (.mk 2 w 0 [a,b,.mk 5 ByteArray.empty v []])).length<=1+(J0 t a).length+(J0 t b).length:=by simp only[J0,Z0,List.length_append,List.length_nil];rw[if_neg (c:=O7 t 5=true) (by cases t<;>decide)];split<;>simp<;>omega
  rw[zu5];simp only[Q9,List.length_cons,List.length_append,List.length_nil];omega
end Ar
namespace Ar
open Classical in
noncomputable def putN(T:List Nd)(x:Nd):List Nd:=if x∈T then T else T++[x]
theorem zp8{T:List Nd}{x:Nd}(h:x∈T):putN T x=T:=by unfold putN;rw[if_pos h]
theorem zk5{T:List Nd}{x:Nd}(h:¬x∈T):putN T x=T++[x]:=by unfold putN;rw[if_neg h]
theorem zh3{T:List Nd}{x y:Nd}:y∈putN T x↔y∈T\/y=x:=by
 by_cases h:x∈T
 ·rw[zp8 h];constructor
  ·exact .inl
  ·rintro(h'|rfl)
   ·exact h'
   ·exact h
 ·rw[zk5 h];simp
theorem zB2{T:List Nd}{x:Nd}:T <+:putN T x:=by
 by_cases h:x∈T
 ·rw[zp8 h];exact List.prefix_refl _
 ·rw[zk5 h];exact List.prefix_append _ _
theorem zk6{T:List Nd}{x:Nd}(hT:T.Nodup):(putN T x).Nodup:=by
 by_cases h:x∈T
 ·rw[zp8 h];exact hT
 ·rw[zk5 h,List.nodup_append];refine⟨hT,by simp,?_⟩;intro a ha b hb e;simp at hb;subst hb e;exact h ha
theorem zN9{T:List Nd}{x:Nd}:(putN T x).length<=T.length+1:=by
 by_cases h:x∈T
 ·rw[zp8 h];omega
 ·rw[zk5 h];simp
mutual
noncomputable def addT:List Nd->Nd->List Nd
 | T,.mk k w v ps=>putN (addTs T ps) (.mk k w v ps)
noncomputable def addTs:List Nd->List Nd->List Nd
 | T,[]=>T
 | T,p::ps=>addTs (addT T p) ps
end
theorem zx8(T:List Nd)(ps:List Nd)(p:Nd):addTs T (ps++[p])=addT (addTs T ps) p:=by
 induction ps generalizing T with
 | nil=>simp[addTs]
 | cons q qs ih=>simp[addTs,ih]
def parts:Nd->List Nd
 | .mk _ _ _ ps=>ps
def Cl(T:List Nd):Prop:=∀ (i:Nat) (x:Nd),T[i]?=some x->Y5 x/\∀ p∈parts x,p∈T.take i
theorem Cl.take{T:List Nd}(h:Cl T)(n:Nat):Cl (T.take n):=by intro i x hx;have hi:=(List.getElem?_eq_some_iff.1 hx).1;simp at hi;rw[List.getElem?_take_of_lt (by omega)] at hx;obtain⟨h1,h2⟩:=h i x hx;refine⟨h1,fun p hp=>?_⟩;rw[List.take_take,Nat.min_eq_left (by omega)];exact h2 p hp
theorem Cl.part{T:List Nd}(h:Cl T){x p:Nd}(hx:x∈T)(hp:p∈parts x):p∈T:=by obtain⟨i,hi⟩:=List.mem_iff_getElem?.1 hx;exact List.mem_of_mem_take ((h i x hi).2 p hp)
theorem Cl.put{T:List Nd}(h:Cl T){x:Nd}(hx:Y5 x)(hp:∀ p∈parts x,p∈T):Cl (putN T x):=by
 by_cases hin:x∈T
 ·rw[zp8 hin];exact h
 ·rw[zk5 hin];intro i y hy;by_cases hi:i<T.length
  ·rw[List.getElem?_append_left hi] at hy;obtain⟨h1,h2⟩:=h i y hy;refine⟨h1,fun p hp'=>?_⟩;rw[List.take_append_of_le_length (by omega)];exact h2 p hp'
  ·have hi2:=(List.getElem?_eq_some_iff.1 hy).1;simp at hi2;have:i=T.length:=by omega
   subst this;rw[List.getElem?_append_right (Nat.le_refl _)] at hy;simp at hy;subst hy;refine⟨hx,fun p hp'=>?_⟩;rw[List.take_append_of_le_length (Nat.le_refl _),List.take_of_length_le (Nat.le_refl _)];exact hp p hp'
structure zO0(T T':List Nd)(xs:List Nd):Prop where
 pre:T <+:T'
 nd:T.Nodup->T'.Nodup
 cl:Cl T->Cl T'
 mem:∀ y,y∈T'↔y∈T\/y∈xs
 len:T'.length<=T.length+xs.length
theorem zO0.trans{T T' T'':List Nd}{xs ys:List Nd}(h:zO0 T T' xs)(k:zO0 T' T'' ys):zO0 T T'' (xs++ys) :=
 ⟨h.pre.trans k.pre,fun hn=>k.nd (h.nd hn),fun hc=>k.cl (h.cl hc),fun y=>by rw[k.mem,h.mem];simp[or_assoc],by rw[List.length_append];have:=h.len;have:=k.len;omega⟩
theorem zO0.refl(T:List Nd):zO0 T T []:=⟨List.prefix_refl _,id,id,fun y=>by simp,by simp⟩
theorem qJ8{x:Nd}(h:Y5 x):∀ T,∃ xs,zO0 T (addT T x) xs/\(∀ y,y∈xs↔y∈J0 true x)/\xs.length=(J0 true x).length:=by
 induction h with
 | @num v h1 h2=>
  intro T;refine⟨[.mk 4 ByteArray.empty v []],⟨zB2,zk6,fun hc=>?_,fun y=>?_,?_⟩,fun y=>by simp[J0,Z0,O7],by simp[J0,Z0,O7]⟩
  ·simp only[addT,addTs];exact hc.put (.num h1 h2) (fun p hp=>absurd hp (by simp[parts]))
  ·simp only[addT,addTs,zh3,List.mem_singleton]
  ·simp only[addT,addTs];exact zN9
 | @app w ps hw hl hp ih=>
  intro T;have hs:∀ (qs:List Nd),(∀ q∈qs,q∈ps)->∀ T,∃ xs,zO0 T (addTs T qs) xs/\(∀ y,y∈xs↔y∈Z0 true qs)/\xs.length=(Z0 true qs).length:=by
   intro qs
   induction qs with
   | nil=>intro _ T;exact⟨[],zO0.refl T,fun y=>by simp[Z0],rfl⟩
   | cons q qs ih2=>intro hq T;obtain⟨xs,h1,h2,h3⟩:=ih q (hq q (by simp)) T;obtain⟨ys,k1,k2,k3⟩:=ih2 (fun r hr=>hq r (List.mem_cons_of_mem _ hr)) (addT T q);exact⟨xs++ys,h1.trans k1,fun y=>by simp only[Z0,List.mem_append,h2,k2],by simp only[Z0,List.length_append,h3,k3]⟩
  obtain⟨xs,h1,h2,h3⟩:=hs ps (fun q hq=>hq) T;have hself:∀ p∈ps,p∈J0 true p:=by intro p hp';have hk:=hp p hp';cases hk<;>simp[J0,O7]
  refine⟨xs++[.mk 3 w 0 ps],⟨?_,?_,?_,?_,?_⟩,?_,?_⟩
  ·simp only[addT];exact h1.pre.trans zB2
  ·intro hn;simp only[addT];exact zk6 (h1.nd hn)
  ·intro hc;simp only[addT];refine(h1.cl hc).put (.app hw hl hp) (fun p hp'=>?_);rw[h1.mem,h2,Y9];exact .inr ⟨p,hp',hself p hp'⟩
  ·intro y;simp only[addT,zh3,h1.mem,List.mem_append,List.mem_singleton,or_assoc]
  ·simp only[addT,List.length_append];have:=zN9 (T:=addTs T ps) (x:=.mk 3 w 0 ps);have:=h1.len;simp;omega
  ·intro y;simp only[List.mem_append,List.mem_singleton,h2,J0];rw[if_pos (by simp[O7])];simp[or_comm]
  ·simp only[J0,List.length_append,h3];rw[if_pos (by simp[O7])];simp;omega
theorem qJ9(T:List Nd)(x:Nd):x∈addT T x:=by cases x;simp only[addT,zh3];exact .inr trivial
/-! ### Where a tree stands -/
open Classical in
noncomputable def idx(T:List Nd)(x:Nd):Nat:=T.findIdx (fun y=>decide (y=x))
open Classical in
theorem zc1{T:List Nd}{x:Nd}(h:x∈T):T[idx T x]?=some x:=by have hl:idx T x<T.length:=List.findIdx_lt_length_of_exists ⟨x,h,by simp⟩;have h1:=List.findIdx_getElem (w:=hl);rw[List.getElem?_eq_getElem hl];have h2:T[idx T x]=x:=of_decide_eq_true h1;exact congrArg some h2
theorem idx_at{T:List Nd}(hT:T.Nodup){x:Nd}{i:Nat}(h:T[i]?=some x):idx T x=i:=by
 have h1:=zc1 (List.mem_of_getElem? h);obtain⟨hi,e1⟩:=List.getElem?_eq_some_iff.1 h;obtain⟨hj,e2⟩:=List.getElem?_eq_some_iff.1 h1;have hp:=List.pairwise_iff_getElem.1 hT;rcases Nat.lt_trichotomy (idx T x) i with hlt|heq|hgt
 ·exact absurd (e2.trans e1.symm) (hp _ _ hj hi hlt)
 ·exact heq
 ·exact absurd (e1.trans e2.symm) (hp _ _ hi hj hgt)
theorem zI2{T T':List Nd}(h:T <+:T'){x:Nd}(hx:x∈T):idx T' x=idx T x:=by obtain⟨r,rfl⟩:=h;unfold idx;rw[List.findIdx_append,if_pos (List.findIdx_lt_length_of_exists ⟨x,hx,by simp⟩)]
theorem zB3{T:List Nd}{x y:Nd}(hx:x∈T)(hy:y∈T)(h:idx T x=idx T y):x=y:=by have h1:=zc1 hx;rw[h,zc1 hy] at h1;exact(Option.some.inj h1).symm
end Ar
namespace Ar
abbrev Itp:=List UInt8->List Int->Int
mutual
def Y1(I:Itp):Nd->Int
 | .mk k w v ps=>if k=4 then v else I w.toList (zB9 I ps)
def zB9(I:Itp):List Nd->List Int
 | []=>[]
 | p::ps=>Y1 I p::zB9 I ps
end
theorem zo6(I:Itp)(ps:List Nd):zB9 I ps=ps.map (Y1 I):=by
 induction ps with
 | nil=>rfl
 | cons p ps ih=>simp[zB9,ih]
def zi2(w:List UInt8)(a b c:Int):Bool :=
 if w=[61] then decide (a=b) else if w=[60] then decide (a<b) else if w=[60,61] then decide (a<=b) else decide (a<=b+c)
def bnd:List Nd->Int
 | [.mk _ _ c _]=>c
 | _=>0
def zd7(val:Nd->Int):Nd->Bool
 | .mk _ w _ (a::b::r)=>zi2 w.toList (val a) (val b) (bnd r)
 | _=>false
def con(w:List UInt8)(bs:List Bool):Bool :=
 if w=zk0 then !(bs.getD 0 false) else if w=[61,62] then !(bs.getD 0 false) || bs.getD 1 false else if w=zo0 then bs.getD 0 false==bs.getD 1 false
 else if w=wOr then bs.any id else bs.all id
mutual
def ftr(α:Nd->Bool):Nd->Bool
 | .mk k w v ps=>if k=2 then α (.mk k w v ps) else if k=0 then decide (w.toList=zn9) else con w.toList (qb1 α ps)
def qb1(α:Nd->Bool):List Nd->List Bool
 | []=>[]
 | p::ps=>ftr α p::qb1 α ps
end
theorem qk8(α:Nd->Bool)(ps:List Nd):qb1 α ps=ps.map (ftr α):=by
 induction ps with
 | nil=>rfl
 | cons p ps ih=>simp[qb1,ih]
def Sat(L:List Nd):Prop:=∃ I,∀ f∈L,ftr (zd7 (Y1 I)) f=true
structure Good(T:List Nd)(v:Nd->Int):Prop where
 num:∀ n,.mk 4 ByteArray.empty n []∈T->v (.mk 4 ByteArray.empty n [])=n
 fn:∀ w ps qs,.mk 3 w 0 ps∈T->.mk 3 w 0 qs∈T->ps.map v=qs.map v->v (.mk 3 w 0 ps)=v (.mk 3 w 0 qs)
theorem O6{a b:ByteArray}(h:a.toList=b.toList):a=b:=by rw[ByteArray.toList_eq,ByteArray.toList_eq] at h;cases a;cases b;simp at h;rw[h]
theorem jh6(I:Itp)(T:List Nd):Good T (Y1 I) :=
 ⟨fun n _=>by simp[Y1],fun w ps qs _ _ h=>by simp only[Y1,zo6];rw[h]⟩
open Classical in
noncomputable def itpOf(T:List Nd)(v:Nd->Int):Itp:=fun w as=>
 if h:∃ x:ByteArray × List Nd,.mk 3 x.1 0 x.2∈T/\x.1.toList=w/\x.2.map v=as then v (.mk 3 h.choose.1 0 h.choose.2) else 0
theorem qA4{T:List Nd}{v:Nd->Int}(hg:Good T v)(hc:∀ x∈T,∀ p∈parts x,p∈T){x:Nd}(hx:Y5 x):x∈T->Y1 (itpOf T v) x=v x:=by
 induction hx with
 | @num n _ _=>intro h;rw[hg.num n h];simp[Y1]
 | @app w ps hw hl hp ih=>
  intro h;have e:zB9 (itpOf T v) ps=ps.map v:=by rw[zo6];exact List.map_congr_left fun p hp'=>ih p hp' (hc _ h p hp')
  simp only[Y1];rw[if_neg (by decide),e];have hex:∃ x:ByteArray × List Nd,Nd.mk 3 x.1 0 x.2∈T/\x.1.toList=w.toList/\x.2.map v=ps.map v:=⟨(w,ps),h,rfl,rfl⟩;unfold itpOf;rw[dif_pos hex];have hs:=hex.choose_spec;have hw':hex.choose.1=w:=O6 hs.2.1;have h1:=hs.1;rw[hw'] at h1 ⊢;exact hg.fn w _ _ h1 h hs.2.2
theorem zP2{u v:Nd->Int}{x:Nd}(h:∀ p∈(parts x).take 2,u p=v p):zd7 u x=zd7 v x:=by
 cases x with
 | mk k w n ps=>
  match ps,h with
  | [],_=>rfl
  | [_],_=>rfl
  | a::b::r,h=>have ha:=h a (by simp[parts]);have hb:=h b (by simp[parts]);simp only[zd7];rw[ha,hb]
theorem zE8{α β:Nd->Bool}{f:Nd}(hf:zk1 f):(∀ x∈J0 false f,α x = β x)->ftr α f=ftr β f:=by
 induction hf with
 | truth _=>intro _;simp[ftr]
 | @con w ps _ hp ih=>
  intro h;simp only[ftr,qk8];rw[if_neg (by decide),if_neg (by decide),if_neg (by decide),if_neg (by decide)]
  congr 1
  refine List.map_congr_left fun p hp'=>ih p hp' fun x hx=>h x ?_
  simp only[J0];exact List.mem_append_right _ (Y9.2 ⟨p,hp',hx⟩)
 | two hw ha hb=>intro h;simp only[ftr,if_pos];exact h _ (by simp[J0,O7])
 | le hw ha hb h1 h2=>intro h;simp only[ftr,if_pos];exact h _ (by simp[J0,O7])
end Ar
namespace Ar
structure At where
 wd:List UInt8
 i:Nat
 j:Nat
 b:Int
def At.tr(x:At)(v:Nat->Int):Bool:=zi2 x.wd (v x.i) (v x.j) x.b
def At.Ok(x:At):Prop:=(x.wd=[61]\/x.wd=[60]\/x.wd=[60,61]\/x.wd=wLe)/\(x.wd≠wLe->x.b=0)
def At.ex(x:At):Int:=if x.wd=[60] then -1 else x.b
theorem At.tr_eq{x:At}(v:Nat->Int)(h:x.wd=[61]):x.tr v=decide (v x.i=v x.j):=by unfold At.tr zi2;rw[if_pos h]
theorem qb5:wLe≠[61]/\wLe≠[60]/\wLe≠[60,61]:=by decide
theorem At.tr_ex{x:At}(v:Nat->Int)(ho:x.Ok)(h:x.wd≠[61]):x.tr v=decide (v x.i-v x.j<=x.ex):=by
 unfold At.tr zi2 At.ex;rw[if_neg h];obtain⟨h1,h2⟩:=ho;rcases h1 with e|e|e|e
 ·exact absurd e h
 ·rw[if_pos e,if_pos e];rw[decide_eq_decide];omega
 ·have hb:=h2 (by rw[e];exact fun q=>qb5.2.2 q.symm);rw[if_neg (by rw[e];decide),if_pos e,if_neg (by rw[e];decide)];rw[decide_eq_decide];omega
 ·rw[if_neg (by rw[e];exact qb5.2.1),if_neg (by rw[e];exact qb5.2.2),if_neg (by rw[e];exact qb5.2.1)];rw[decide_eq_decide];omega
structure Fx where
 n:Nat
 num:Nat->Option Int
 tw:List (Nat × Nat)
 prs:Nat × Nat->List (Nat × Nat)
 far:Int
structure Fx.V(F:Fx)(v:Nat->Int):Prop where
 zero:v F.n=0
 num:∀ i x,i<F.n->F.num i=some x->v i=x
 fn:∀ p∈F.tw,(∀ q∈F.prs p,v q.1=v q.2)->v p.1=v p.2
 near:∀ i j,i<=F.n->j<=F.n->v i-v j<=F.far
def Fx.Ok(F:Fx):Prop:=∀ p∈F.tw,(p.1<F.n/\p.2<F.n)/\∀ q∈F.prs p,q.1<F.n/\q.2<F.n
def HA(As:List (At × Bool))(k:Nat)(v:Nat->Int):Prop:=∀ x,As[k]?=some x->x.1.tr v=x.2
theorem HA.app{As Bs:List (At × Bool)}{k:Nat}(hk:k<As.length)(v:Nat->Int):HA (As++Bs) k v↔HA As k v:=by unfold HA;rw[List.getElem?_append_left hk]
def U7(T:Tb)(x:At × Bool):Prop :=
 if x.1.wd=[61] then(x.2=true->T.by_ x.1.i x.1.j<=0/\T.by_ x.1.j x.1.i<=0)
 else if x.2=true then T.by_ x.1.i x.1.j<=x.1.ex else T.by_ x.1.j x.1.i <= -x.1.ex-1
theorem U7.le{n:Nat}{T T':Tb}{x:At × Bool}(h:U7 T x)(hl:TLe n T' T)(hi:x.1.i<n)(hj:x.1.j<n):U7 T' x:=by
 have h1:=hl x.1.i x.1.j hi hj;have h2:=hl x.1.j x.1.i hj hi;unfold U7 at h ⊢;split
 ·rename_i e;rw[if_pos e] at h;intro e2;have:=h e2;omega
 ·rename_i e;rw[if_neg e] at h;split
  ·rename_i e2;rw[if_pos e2] at h;omega
  ·rename_i e2;rw[if_neg e2] at h;omega
def ze1(T:Tb)(x:At × Bool):Prop:=x.1.wd=[61]->x.2=false->T.by_ x.1.i x.1.j≠0/\T.by_ x.1.j x.1.i≠0
def zg3(F:Fx)(T:Tb)(p:Nat × Nat):Prop:=(∀ q∈F.prs p,T.by_ q.1 q.2<=0/\T.by_ q.2 q.1<=0)->T.by_ p.1 p.2<=0/\T.by_ p.2 p.1<=0
def qW1(F:Fx)(T:Tb):Prop:=∀ i x,i<F.n->F.num i=some x->T.by_ i F.n<=x/\T.by_ F.n i <= -x
theorem qW1.le{F:Fx}{T T':Tb}(h:qW1 F T)(hl:TLe (F.n+1) T' T):qW1 F T':=fun i x hi e=>by have:=h i x hi e;have:=hl i F.n (by omega) (by omega);have:=hl F.n i (by omega) (by omega);omega
def gr(F:Fx)(T:Tb)(i:Nat):Int:=T.by_ i F.n
theorem zW6{F:Fx}{H:Nat->(Nat->Int)->Prop}{K:Nat}{T:Tb}(h:V9 (F.n+1) F.far F.V H K T){i j:Nat}(hi:i<=F.n)(hj:j<=F.n):gr F T i-gr F T j<=T.by_ i j:=by have:=h.tri i j F.n (by omega) (by omega) (by omega);unfold gr;omega
theorem ji0{F:Fx}{As:List (At × Bool)}{K:Nat}{T:Tb}(h:V9 (F.n+1) F.far F.V (HA As) K T)(hn:qW1 F T)(hF:F.Ok)(hm:∀ p∈F.tw,zg3 F T p)
  (htw:∀ p∈F.tw,gr F T p.1=gr F T p.2\/(∃ q∈F.prs p,gr F T q.1≠gr F T q.2)\/(∀ q∈F.prs p,T.by_ q.1 q.2<=0/\T.by_ q.2 q.1<=0)):F.V (gr F T):=by
 refine⟨h.diag F.n (by omega),fun i x hi e=>?_,fun p hp hq=>?_,fun i j hi hj=>?_⟩
 ·have h1:=hn i x hi e;have h2:=h.tri i F.n i (by omega) (by omega) (by omega);have h3:=h.diag i (by omega);unfold gr;omega
 ·rcases htw p hp with e|⟨q,hq1,hq2⟩|e
  ·exact e
  ·exact absurd (hq q hq1) hq2
  ·have h1:=hm p hp e;have h2:=(hF p hp).1;have h3:=zW6 h (i:=p.1) (j:=p.2) (by omega) (by omega);have h4:=zW6 h (i:=p.2) (j:=p.1) (by omega) (by omega);omega
 ·have h1:=zW6 h hi hj;have h2:=h.hi i j (by omega) (by omega);omega
theorem ji1{F:Fx}{As:List (At × Bool)}{K:Nat}{T:Tb}(h:V9 (F.n+1) F.far F.V (HA As) K T){x:At × Bool}(ho:x.1.Ok)(hi:x.1.i<F.n)(hj:x.1.j<F.n)(ht:U7 T x)(hp:ze1 T x)(hx:x.1.tr (gr F T)≠x.2):
  gr F T x.1.i=gr F T x.1.j/\(0<T.by_ x.1.i x.1.j\/0<T.by_ x.1.j x.1.i):=by
 have g1:=zW6 h (i:=x.1.i) (j:=x.1.j) (by omega) (by omega);have g2:=zW6 h (i:=x.1.j) (j:=x.1.i) (by omega) (by omega);by_cases e:x.1.wd=[61]
 ·rw[At.tr_eq _ e] at hx;unfold U7 at ht;rw[if_pos e] at ht;cases e2:x.2 with
  | true=>rw[e2] at hx;have:=ht e2;exact absurd (decide_eq_true (by omega)) hx
  | false=>rw[e2] at hx;have h1:=hp e e2;have h2:=h.tri x.1.i x.1.j x.1.i (by omega) (by omega) (by omega);have h3:=h.diag x.1.i (by omega);refine⟨by simpa using hx,?_⟩;omega
 ·rw[At.tr_ex _ ho e] at hx;unfold U7 at ht;rw[if_neg e] at ht;cases e2:x.2 with
  | true=>rw[e2] at hx;rw[if_pos e2] at ht;exact absurd (decide_eq_true (by omega)) hx
  | false=>rw[e2] at hx;rw[if_neg (by rw[e2];decide)] at ht;exact absurd (decide_eq_false (by omega)) hx
theorem qA7{F:Fx}{As:List (At × Bool)}{K:Nat}{T:Tb}(h:V9 (F.n+1) F.far F.V (HA As) K T)(ht:∀ x∈As,U7 T x){o p:Nat}(ho:o<F.n)(hp:p<F.n)(hg:gr F T o=gr F T p)(hb:0<T.by_ p o)(yes:Bool):((⟨[60],o,p,0⟩:At),yes) ∉ As/\o≠p:=by
 constructor
 ·intro hm;have h1:=ht _ hm;unfold U7 at h1;rw[if_neg (by simp)] at h1;have g1:=zW6 h (i:=o) (j:=p) (by omega) (by omega);cases yes with
  | true=>simp[At.ex] at h1;omega
  | false=>simp[At.ex] at h1;omega
 ·rintro rfl;have:=h.diag o (by omega);omega
theorem zE9{x:At}{v:Nat->Int}(ho:x.Ok)(e:x.wd≠[61])(h:x.tr v=true):v x.i-v x.j<=x.ex:=by rw[At.tr_ex _ ho e] at h;simpa using h
theorem zP7{x:At}{v:Nat->Int}(ho:x.Ok)(e:x.wd≠[61])(h:x.tr v=false):v x.j-v x.i <= -x.ex-1:=by
 rw[At.tr_ex _ ho e] at h;have:¬(v x.i-v x.j<=x.ex):=by simpa using h
 omega
end Ar
namespace Ar
structure St where
 q:Nat
 yes:Bool
 turned:Bool
 blame:M3
def atQ(A:List At)(q:Nat):At:=match A[q]? with
 | some x=>x
 | none=>⟨[60],(q-A.length)/12,(q-A.length)%12,0⟩
def ans(A:List At)(tr:List St):List (At × Bool):=tr.map (fun s=>(atQ A s.q,s.yes))
theorem qA8(A:List At)(tr:List St):(ans A tr).length=tr.length:=by simp[ans]
theorem zI3(A:List At)(tr:List St)(k:Nat):(ans A tr)[k]?=(tr[k]?).map (fun s=>(atQ A s.q,s.yes)):=by simp[ans]
theorem qA9(A:List At)(tr us:List St):ans A (tr++us)=ans A tr++ans A us:=by simp[ans]
theorem qW2(A:List At)(tr:List St)(k:Nat):ans A (tr.take k)=(ans A tr).take k:=by simp[ans]
def zS1(tr:List St)(n:Nat)(x:Nat):Prop:=∀ k s,k<n->tr[k]?=some s->x.testBit s.q=s.yes
def isW(A:List At)(v:Nat->Int)(x:Nat):Prop:=∀ k a,A[k]?=some a->x.testBit k=a.tr v
structure zb4(F:Fx)(A:List At)(W:Nat)(allowed:Nat->Bool)(tr:List St)(left:List (Nat->Bool))(l0:Nat->Bool):Prop where
 len:left.length=min tr.length A.length+1
 ats:∀ k s,tr[k]?=some s->(k<A.length↔s.q<A.length)
 nd:(tr.map (·.q)).Nodup
 qlt:∀ s∈tr,s.q<A.length+144
 lf:∀ n l,left[n]?=some l->∀ x,x<W->(l x=true↔l0 x=true/\zS1 tr n x)
 sub:∀ x,x<W->l0 x=true->allowed x=true
 snd:∀ v,F.V v->∀ x,x<W->allowed x=true->isW A v x->l0 x=true
 tn:∀ k s,tr[k]?=some s->J8 k s.blame/\(s.turned=true->∀ v,F.V v->Hs (HA (ans A tr)) s.blame v->(atQ A s.q).tr v=s.yes)/\(s.turned=false->s.blame=M3.none)
 some_:∃ x,x<W/\l0 x=true/\zS1 tr A.length x
theorem zb4.few{F:Fx}{A:List At}{W:Nat}{al l0:Nat->Bool}{tr:List St}{left:List (Nat->Bool)}(h:zb4 F A W al tr left l0):tr.length<=A.length+144:=by
 have h1:=h.nd;have h2:∀ q∈tr.map (·.q),q<A.length+144:=by intro q hq;obtain⟨s,hs,rfl⟩:=List.mem_map.1 hq;exact h.qlt s hs
 have key:∀ (M:Nat) (l:List Nat),l.Nodup->(∀ q∈l,q<M)->l.length<=M:=by
  intro M
  induction M with
  | zero=>
   intro l _ hl;cases l with
   | nil=>simp
   | cons a b=>exact absurd (hl a (by simp)) (by omega)
  | succ M ih=>
   intro l hn hl;by_cases hm:M∈l
   ·have e:=List.length_erase_of_mem hm;have:=ih (l.erase M) (hn.erase M) (fun q hq=>by
     have h1:=hl q (List.mem_of_mem_erase hq);have h2:q≠M:=fun e=>by subst e;exact(List.Nodup.not_mem_erase hn) hq
     omega)
    have:=List.length_pos_of_mem hm;omega
   ·have:=ih l hn (fun q hq=>by
     have h1:=hl q hq;have h2:q≠M:=fun e=>by subst e;exact hm hq
     omega)
    omega
 have:=key _ _ h1 h2;simpa using this
theorem zb4.start(F:Fx)(A:List At)(W:Nat)(al:Nat->Bool)(h:∃ x,x<W/\al x=true):zb4 F A W al [] [al] al:=by
 obtain⟨x,hx,ha⟩:=h;refine⟨by simp,by simp,by simp,by simp,?_,fun _ _ e=>e,fun _ _ _ _ e _=>e,by simp,x,hx,ha,fun k s hk e=>by simp at e⟩;intro n l hl x _;have:n=0:=by
  rcases Nat.eq_zero_or_pos n with e|e
  ·exact e
  ·rw[List.getElem?_eq_none (by simp;omega)] at hl;simp at hl
 subst this;simp at hl;subst hl;exact⟨fun e=>⟨e,fun k s hk=>by omega⟩,fun e=>e.1⟩
theorem zd8{α:Type}{l:List α}{x y:α}{k:Nat}(h:(l++[x])[k]?=some y):(k<l.length/\l[k]?=some y)\/(k=l.length/\y=x):=by
 by_cases hk:k<l.length
 ·rw[List.getElem?_append_left hk] at h;exact .inl ⟨hk,h⟩
 ·rw[List.getElem?_append_right (by omega)] at h;have h2:k-l.length=0:=by
   rcases Nat.eq_zero_or_pos (k-l.length) with e|e
   ·exact e
   ·rw[List.getElem?_eq_none (by simp;omega)] at h;simp at h
  rw[h2] at h;simp at h;exact .inr ⟨by omega,h.symm⟩
theorem zF0{tr:List St}{s:St}{n x:Nat}(hn:n<=tr.length):zS1 (tr++[s]) n x↔zS1 tr n x:=by
 constructor
 ·intro h k t hk e;exact h k t hk (by rw[List.getElem?_append_left (by omega)];exact e)
 ·intro h k t hk e;rw[List.getElem?_append_left (by omega)] at e;exact h k t hk e
theorem zw5{tr:List St}{s:St}{n x:Nat}(hn:tr.length<n):zS1 (tr++[s]) n x↔zS1 tr n x/\x.testBit s.q=s.yes:=by
 constructor
 ·intro h;refine⟨fun k t hk e=>?_,h tr.length s hn (by simp)⟩;have hk2:k<tr.length:=(List.getElem?_eq_some_iff.1 e).1;exact h k t hk (by rw[List.getElem?_append_left hk2];exact e)
 ·rintro⟨h1,h2⟩ k t hk e;rcases zd8 e with⟨_,e⟩|⟨_,rfl⟩
  ·exact h1 k t hk e
  ·exact h2
theorem zP8{l:List Nat}{x:Nat}(h:l.Nodup)(hx:x ∉ l):(l++[x]).Nodup:=by rw[List.nodup_append];refine⟨h,by simp,fun a ha b hb e=>?_⟩;simp at hb;subst hb e;exact hx ha
theorem qB0{F:Fx}{A:List At}{W:Nat}{al l0:Nat->Bool}{tr:List St}{left:List (Nat->Bool)}(h:zb4 F A W al tr left l0){s:St}(hb:J8 tr.length s.blame)(ht:s.turned=true->∀ v,F.V v->Hs (HA (ans A tr)) s.blame v->(atQ A s.q).tr v=s.yes)(ht0:s.turned=false->s.blame=M3.none):
  ∀ k t,(tr++[s])[k]?=some t->J8 k t.blame/\(t.turned=true->∀ v,F.V v->Hs (HA (ans A (tr++[s]))) t.blame v->(atQ A t.q).tr v=t.yes)/\(t.turned=false->t.blame=M3.none):=by
 intro k t e;rcases zd8 e with⟨hk,e⟩|⟨rfl,rfl⟩
 ·obtain⟨h1,h2,h3⟩:=h.tn k t e;refine⟨h1,fun et v hv hh=>h2 et v hv (fun j hj=>?_),h3⟩;have hj2:=h1 j hj;have:=hh j hj;rw[qA9,HA.app (by rw[qA8];omega)] at this;exact this
 ·refine⟨hb,fun et v hv hh=>ht et v hv (fun j hj=>?_),ht0⟩;have hj2:=hb j hj;have:=hh j hj;rw[qA9,HA.app (by rw[qA8];omega)] at this;exact this
theorem zb4.atom{F:Fx}{A:List At}{W:Nat}{al l0 l:Nat->Bool}{tr:List St}{left:List (Nat->Bool)}(h:zb4 F A W al tr left l0){s:St}(hq:s.q<A.length)(hl:tr.length<A.length)(hf:s.q ∉ tr.map (·.q))(ht:s.turned=false)(hb:s.blame=M3.none)
  (hx:∃ x,x<W/\l0 x=true/\zS1 tr A.length x/\x.testBit s.q=s.yes) {last:Nat->Bool} (hlast:left[left.length-1]?=some last) (hle:∀ x,x<W->(l x=true↔last x=true/\x.testBit s.q=s.yes)):zb4 F A W al (tr++[s]) (left++[l]) l0:=by
 have hlen:=h.len;refine⟨by simp;omega,?_,?_,?_,?_,h.sub,h.snd,?_,?_⟩
 ·intro k t e;rcases zd8 e with⟨_,e⟩|⟨rfl,rfl⟩
  ·exact h.ats k t e
  ·exact⟨fun _=>hq,fun _=>hl⟩
 ·rw[List.map_append];exact zP8 h.nd hf
 ·intro t hm;rcases List.mem_append.1 hm with e|e
  ·exact h.qlt t e
  ·simp at e;subst e;omega
 ·intro n m hm x hxw;rcases zd8 hm with⟨hn,e⟩|⟨hn,rfl⟩
  ·rw[zF0 (by omega)];exact h.lf n m e x hxw
  ·rw[hle x hxw,h.lf _ _ hlast x hxw];have e1:n=tr.length+1:=by omega
   have e2:left.length-1=tr.length:=by omega
   rw[e1,e2,zw5 (by omega)];constructor
   ·rintro⟨⟨a,b⟩,c⟩;exact⟨a,⟨fun k t hk e=>b k t (by have:=(List.getElem?_eq_some_iff.1 e).1;omega) e,c⟩⟩
   ·rintro⟨a,b,c⟩;exact⟨⟨a,fun k t hk e=>b k t (by omega) e⟩,c⟩
 ·exact qB0 h (by rw[hb];exact J8.none _) (fun e=>by rw[ht] at e;simp at e) (fun _=>hb)
 ·obtain⟨x,h1,h2,h3,h4⟩:=hx;exact⟨x,h1,h2,(zw5 (by omega)).2 ⟨h3,h4⟩⟩
theorem zb4.split{F:Fx}{A:List At}{W:Nat}{al l0:Nat->Bool}{tr:List St}{left:List (Nat->Bool)}(h:zb4 F A W al tr left l0){s:St}(hq:A.length<=s.q)(hq2:s.q<A.length+144)(hl:A.length<=tr.length)(hf:s.q ∉ tr.map (·.q))(hb:J8 tr.length s.blame)
  (ht:s.turned=true->∀ v,F.V v->Hs (HA (ans A tr)) s.blame v->(atQ A s.q).tr v=s.yes) (ht0:s.turned=false->s.blame=M3.none):zb4 F A W al (tr++[s]) left l0:=by
 have hlen:=h.len;refine⟨by simp;omega,?_,?_,?_,?_,h.sub,h.snd,qB0 h hb ht ht0,?_⟩
 ·intro k t e;rcases zd8 e with⟨_,e⟩|⟨rfl,rfl⟩
  ·exact h.ats k t e
  ·omega
 ·rw[List.map_append];exact zP8 h.nd hf
 ·intro t hm;rcases List.mem_append.1 hm with e|e
  ·exact h.qlt t e
  ·simp at e;subst e;omega
 ·intro n m hm x hxw;have:n<left.length:=(List.getElem?_eq_some_iff.1 hm).1;rw[zF0 (by omega)];exact h.lf n m hm x hxw
 ·obtain⟨x,h1,h2,h3⟩:=h.some_;exact⟨x,h1,h2,(zF0 (by omega)).2 h3⟩
theorem U8{α:Type}{l:List α}{c k:Nat}{x:α}(h:(l.take c)[k]?=some x):k<c/\l[k]?=some x:=by
 rw[List.getElem?_take] at h;split at h
 ·rename_i hk;exact⟨hk,h⟩
 ·simp at h
theorem zu9{tr:List St}{c n x:Nat}:zS1 (tr.take c) n x↔zS1 tr (min c n) x:=by
 constructor
 ·intro h k s hk e;exact h k s (by omega) (by rw[List.getElem?_take,if_pos (by omega)];exact e)
 ·intro h k s hk e;obtain⟨h1,h2⟩:=U8 e;exact h k s (by omega) h2
theorem zI4{A:List At}{tr:List St}{c k:Nat}(hk:k<c)(v:Nat->Int):HA (ans A (tr.take c)) k v↔HA (ans A tr) k v:=by unfold HA;rw[qW2,List.getElem?_take,if_pos hk]
theorem zb4.leave{F:Fx}{A:List At}{W:Nat}{al l0:Nat->Bool}{tr:List St}{left:List (Nat->Bool)}(h:zb4 F A W al tr left l0)(c:Nat)(hc:c<=tr.length):zb4 F A W al (tr.take c) (left.take (min c A.length+1)) l0:=by
 have hlen:=h.len;refine⟨by simp;omega,?_,?_,?_,?_,h.sub,h.snd,?_,?_⟩
 ·intro k s e;exact h.ats k s (U8 e).2
 ·rw[List.map_take];exact h.nd.sublist (List.take_sublist _ _)
 ·intro s hs;exact h.qlt s (List.mem_of_mem_take hs)
 ·intro n l e x hx;obtain⟨h1,h2⟩:=U8 e;rw[zu9,show min c n=n by omega];exact h.lf n l h2 x hx
 ·intro k s e;obtain⟨hk,e⟩:=U8 e;obtain⟨h1,h2,h3⟩:=h.tn k s e;refine⟨h1,fun et v hv hh=>h2 et v hv (fun j hj=>?_),h3⟩;have:=h1 j hj;exact(zI4 (by omega) v).1 (hh j hj)
 ·obtain⟨x,h1,h2,h3⟩:=h.some_;refine⟨x,h1,h2,?_⟩;rw[zu9];intro k s hk e;exact h3 k s (by omega) e
theorem zb4.exclude{F:Fx}{A:List At}{W:Nat}{al l0 l1:Nat->Bool}{tr:List St}{left left':List (Nat->Bool)}(h:zb4 F A W al tr left l0){B:M3}(hat:∀ k,B.has k=true->k<A.length)(hbad:∀ v,F.V v->¬Hs (HA (ans A tr)) B v)
  (same:Nat->Bool) (hs:∀ x,x<W->(same x=true↔∀ k s,B.has k=true->tr[k]?=some s->x.testBit s.q=s.yes))
  (hlen:left'.length=left.length) (hl:∀ (n:Nat) (l l':Nat->Bool),left[n]?=some l->left'[n]?=some l'->∀ x,x<W->l' x=(l x && !same x)) (hl1:∀ x,x<W->l1 x=(l0 x && !same x))
  (c:Nat) (hc:c<left'.length) (hx:∃ x,x<W/\∃ l,left'[c]?=some l/\l x=true):zb4 F A W al (tr.take c) (left'.take (c+1)) l1:=by
 have hln:=h.len;refine⟨by simp;omega,?_,?_,?_,?_,?_,?_,?_,?_⟩
 ·intro k s e;exact h.ats k s (U8 e).2
 ·rw[List.map_take];exact h.nd.sublist (List.take_sublist _ _)
 ·intro s hs';exact h.qlt s (List.mem_of_mem_take hs')
 ·intro n l e x hxw;obtain⟨h1,h2⟩:=U8 e;obtain⟨m,hm⟩:∃ m,left[n]?=some m:=⟨left[n]'(by omega),List.getElem?_eq_getElem (by omega)⟩;rw[zu9,show min c n=n by omega,hl n m l hm h2 x hxw,hl1 x hxw];have:=h.lf n m hm x hxw;simp only[Bool.and_eq_true];rw[this];constructor
  ·rintro⟨⟨a,b⟩,d⟩;exact⟨⟨a,d⟩,b⟩
  ·rintro⟨⟨a,d⟩,b⟩;exact⟨⟨a,b⟩,d⟩
 ·intro x hxw e;rw[hl1 x hxw] at e;simp only[Bool.and_eq_true] at e;exact h.sub x hxw e.1
 ·intro v hv x hxw ha hw;rw[hl1 x hxw];simp only[Bool.and_eq_true,Bool.not_eq_true'];refine⟨h.snd v hv x hxw ha hw,?_⟩;cases e:same x with
  | false=>rfl
  | true=>
   exfalso;refine hbad v hv (fun k hk=>?_);intro y hy;rw[zI3] at hy;cases e2:tr[k]? with
   | none=>rw[e2] at hy;simp at hy
   | some s=>rw[e2] at hy;simp at hy;subst hy;have hq:=(h.ats k s e2).1 (hat k hk);have h3:=(hs x hxw).1 e k s hk e2;obtain⟨a,ha'⟩:∃ a,A[s.q]?=some a:=⟨A[s.q]'hq,List.getElem?_eq_getElem hq⟩;have h4:=hw s.q a ha';show(atQ A s.q).tr v=s.yes;unfold atQ;rw[ha'];show a.tr v=s.yes;rw[<- h4,h3]
 ·intro k s e;obtain⟨hk,e⟩:=U8 e;obtain⟨h1,h2,h3⟩:=h.tn k s e;refine⟨h1,fun et v hv hh=>h2 et v hv (fun j hj=>?_),h3⟩;have:=h1 j hj;exact(zI4 (by omega) v).1 (hh j hj)
 ·obtain⟨x,hxw,l,hl',e⟩:=hx;obtain⟨m,hm⟩:∃ m,left[c]?=some m:=⟨left[c]'(by omega),List.getElem?_eq_getElem (by omega)⟩;rw[hl c m l hm hl' x hxw] at e;simp only[Bool.and_eq_true] at e;have h5:=(h.lf c m hm x hxw).1 e.1;refine⟨x,hxw,?_,?_⟩
  ·rw[hl1 x hxw];simp only[Bool.and_eq_true];exact⟨h5.1,e.2⟩
  ·rw[zu9];intro k s hk e3;exact h5.2 k s (by omega) e3
theorem zb4.none_left{F:Fx}{A:List At}{W:Nat}{al l0:Nat->Bool}{tr:List St}{left:List (Nat->Bool)}(h:zb4 F A W al tr left l0){B:M3}(hat:∀ k,B.has k=true->k<A.length)(hbad:∀ v,F.V v->¬Hs (HA (ans A tr)) B v)
  (same:Nat->Bool) (hs:∀ x,x<W->(same x=true↔∀ k s,B.has k=true->tr[k]?=some s->x.testBit s.q=s.yes)) (hn:∀ x,x<W->(l0 x && !same x)=false):∀ v,F.V v->∀ x,x<W->al x=true->¬isW A v x:=by
 intro v hv x hxw ha hw;have h1:=h.snd v hv x hxw ha hw;have h2:=hn x hxw;rw[h1] at h2;simp at h2;refine hbad v hv (fun k hk=>?_);intro y hy;rw[zI3] at hy;cases e2:tr[k]? with
 | none=>rw[e2] at hy;simp at hy
 | some s=>rw[e2] at hy;simp at hy;subst hy;have hq:=(h.ats k s e2).1 (hat k hk);have h3:=(hs x hxw).1 h2 k s hk e2;obtain⟨a,ha'⟩:∃ a,A[s.q]?=some a:=⟨A[s.q]'hq,List.getElem?_eq_getElem hq⟩;have h4:=hw s.q a ha';show(atQ A s.q).tr v=s.yes;unfold atQ;rw[ha'];show a.tr v=s.yes;rw[<- h4,h3]
theorem zP9{F:Fx}{A:List At}{W:Nat}{al l0:Nat->Bool}{tr:List St}{left:List (Nat->Bool)}(h:zb4 F A W al tr left l0){B:M3}(hbad:∀ v,F.V v->¬Hs (HA (ans A tr)) B v){p:Nat}{s:St}(hp:tr[p]?=some s)(hlast:∀ k,B.has k=true->k<=p):
  J8 p ((B.sub (M3.of p)).or s.blame)/\(∀ v,F.V v->Hs (HA (ans A (tr.take p))) ((B.sub (M3.of p)).or s.blame) v->(atQ A s.q).tr v = !s.yes)/\(s.turned=true->∀ v,F.V v->¬Hs (HA (ans A (tr.take p))) ((B.sub (M3.of p)).or s.blame) v):=by
 obtain⟨h1,h2,h3⟩:=h.tn p s hp;have hbl:J8 p ((B.sub (M3.of p)).or s.blame):=by
  refine J8.or (fun k hk=>?_) h1;rw[M3.has_sub] at hk;simp only[Bool.and_eq_true,Bool.not_eq_true'] at hk;have h4:=hlast k hk.1;have h5:=M3.has_lt hk.1;by_cases e:k=p
  ·subst e;rw[M3.has_of h5] at hk;simp at hk
  ·omega
 have key:∀ v,F.V v->Hs (HA (ans A (tr.take p))) ((B.sub (M3.of p)).or s.blame) v->¬(atQ A s.q).tr v=s.yes:=by
  intro v hv hh e;refine hbad v hv (fun k hk=>?_);by_cases ek:k=p
  ·subst ek;intro y hy;rw[zI3,hp] at hy;simp at hy;subst hy;exact e
  ·have hk2:=hlast k hk;have h5:=M3.has_lt hk;refine(zI4 (c:=p) (by omega) v).1 (hh k ?_);rw[M3.has_or,M3.has_sub,hk];have:(M3.of p).has k=false:=by
    by_cases hp2:p<192
    ·rw[M3.has_of hp2];simpa using ek
    ·have e3:M3.of p=⟨0,0,BitVec.twoPow 64 (p-128)⟩:=by unfold M3.of;rw[if_neg (by omega),if_neg (by omega)]
     rw[e3];unfold M3.has;split
     ·simp
     ·split
      ·simp
      ·simp[BitVec.getLsbD_twoPow];omega
   rw[this]
   rfl
 refine⟨hbl,fun v hv hh=>?_,fun et v hv hh=>?_⟩
 ·have:=key v hv hh;cases e1:(atQ A s.q).tr v<;>cases e2:s.yes<;>simp_all
 ·refine key v hv hh (h2 et v hv (fun k hk=>?_));have:=h1 k hk;refine(zI4 (c:=p) (by omega) v).1 (hh k ?_);rw[M3.has_or,hk];simp
def pot:Nat->List St->Nat
 | _,[]=>0
 | 0,_::_=>0
 | m+1,s::tr=>(if s.turned=true then 2 else 1)*3^m+pot m tr
theorem qb7:∀ (m:Nat) (tr:List St),pot m tr<3^m
 | 0,[]=>by simp[pot]
 | 0,_::_=>by simp[pot]
 | m+1,[]=>by simp[pot];exact Nat.pos_of_ne_zero (by simp)
 | m+1,s::tr=>by have:=qb7 m tr;simp only[pot,Nat.pow_succ];split<;>omega
theorem ql1:∀ (m:Nat) (tr:List St) (s:St),tr.length<m->pot m tr<pot m (tr++[s])
 | 0,_,_,h=>by omega
 | m+1,[],s,_=>by have:0<3^m:=Nat.pos_of_ne_zero (by simp);simp only[pot,List.nil_append];split<;>omega
 | m+1,t::tr,s,h=>by have:=ql1 m tr s (by simp at h;omega);simp only[pot,List.cons_append];omega
theorem ql2:∀ (m:Nat) (tr:List St) (p:Nat) (s t:St),tr.length<=m->tr[p]?=some s->s.turned=false->t.turned=true->pot m tr<pot m (tr.take p++[t])
 | 0,[],_,_,_,_,e,_,_=>by simp at e
 | 0,_::_,_,_,_,h,_,_,_=>by simp at h
 | m+1,[],_,_,_,_,e,_,_=>by simp at e
 | m+1,u::tr,0,s,t,h,e,e1,e2=>by simp at e;subst e;have:=qb7 m tr;simp only[pot,List.take_zero,List.nil_append];rw[e1,e2];simp;omega
 | m+1,u::tr,p+1,s,t,h,e,e1,e2=>by have:=ql2 m tr p s t (by simp at h;omega) (by simpa using e) e1 e2;simp only[pot,List.take_succ_cons,List.cons_append];omega
end Ar
namespace Ar
def Z9(l:List (BitVec 64))(n:Nat):Bool:=(l.getD (n/64) 0).getLsbD (n%64)
theorem jl2{l:List (BitVec 64)}{n:Nat}(h:n<64*l.length):n/64<l.length:=by omega
theorem zx9{l:List (BitVec 64)}{n:Nat}(h:n<64*l.length):∃ x,l[n/64]?=some x/\Z9 l n=x.getLsbD (n%64):=by
 have h1:=jl2 h;refine⟨l[n/64],List.getElem?_eq_getElem h1,?_⟩;unfold Z9;rw[List.getD_eq_getElem?_getD,List.getElem?_eq_getElem h1]
 rfl
theorem zW7{l:List (BitVec 64)}{n:Nat}{x:BitVec 64}(h:l[n/64]?=some x):Z9 l n=x.getLsbD (n%64):=by
 unfold Z9;rw[List.getD_eq_getElem?_getD,h]
 rfl
def U3(l:List (BitVec 64)):List (BitVec 64):=l.map (~~~ ·)
def V6(l m:List (BitVec 64)):List (BitVec 64):=List.zipWith (· &&& ·) l m
def qb8(l m:List (BitVec 64)):List (BitVec 64):=List.zipWith (· ||| ·) l m
def zf3(k:Nat):List (BitVec 64):=List.replicate k 0
theorem zg4{l:List (BitVec 64)}{n:Nat}(h:n<64*l.length):Z9 (U3 l) n = !Z9 l n:=by obtain⟨x,h1,h2⟩:=zx9 h;rw[h2,zW7 (x := ~~~x) (by simp[U3,h1])];simp[show n%64<64 by omega]
theorem zj0{l m:List (BitVec 64)}{n:Nat}(h:n<64*l.length)(he:m.length=l.length):Z9 (V6 l m) n=(Z9 l n && Z9 m n):=by obtain⟨x,h1,h2⟩:=zx9 h;obtain⟨y,h3,h4⟩:=zx9 (l:=m) (n:=n) (by omega);rw[h2,h4,zW7 (x:=x &&& y) (by simp[V6,List.getElem?_zipWith,h1,h3])];simp
theorem zC4{l m:List (BitVec 64)}{n:Nat}(h:n<64*l.length)(he:m.length=l.length):Z9 (qb8 l m) n=(Z9 l n || Z9 m n):=by obtain⟨x,h1,h2⟩:=zx9 h;obtain⟨y,h3,h4⟩:=zx9 (l:=m) (n:=n) (by omega);rw[h2,h4,zW7 (x:=x ||| y) (by simp[qb8,List.getElem?_zipWith,h1,h3])];simp
theorem zq0(k n:Nat):Z9 (zf3 k) n=false:=by unfold Z9 zf3;rw[List.getD_eq_getElem?_getD,List.getElem?_replicate];split<;>simp
theorem O9(l:List (BitVec 64)):(U3 l).length=l.length:=by simp[U3]
theorem zd2{l m:List (BitVec 64)}(h:m.length=l.length):(V6 l m).length=l.length:=by simp[V6,h]
theorem zk7{l m:List (BitVec 64)}(h:m.length=l.length):(qb8 l m).length=l.length:=by simp[qb8,h]
theorem U6(k:Nat):(zf3 k).length=k:=by simp[zf3]
def pat(i a:Nat):BitVec 64 :=
 if a<6 then(match a with
  | 0=>0xAAAAAAAAAAAAAAAA#64
  | 1=>0xCCCCCCCCCCCCCCCC#64
  | 2=>0xF0F0F0F0F0F0F0F0#64
  | 3=>0xFF00FF00FF00FF00#64
  | 4=>0xFFFF0000FFFF0000#64
  | _=>0xFFFFFFFF00000000#64)
 else if i.testBit (a-6)=true then BitVec.allOnes 64 else 0
theorem ji2:∀ a,a<6->∀ b,b<64->(pat 0 a).getLsbD b=b.testBit a:=by decide
theorem zI5(n a:Nat):(pat (n/64) a).getLsbD (n%64)=n.testBit a:=by
 by_cases h:a<6
 ·have h1:=ji2 a h (n%64) (by omega);have h2:pat (n/64) a=pat 0 a:=by unfold pat;rw[if_pos h,if_pos h]
  rw[h2,h1];rw[show(64:Nat)=2^6 from rfl,Nat.testBit_mod_two_pow];simp[h]
 ·unfold pat;rw[if_neg h];have h1:(n/64).testBit (a-6)=n.testBit a:=by
   rw[show(64:Nat)=2^6 from rfl,Nat.testBit_div_two_pow]
   congr 1
   omega
  rw[h1];cases n.testBit a with
  | true=>show(BitVec.allOnes 64).getLsbD (n%64)=true;rw[BitVec.getLsbD_allOnes];exact decide_eq_true (by omega)
  | false=>simp
def X4(k a:Nat)(yes:Bool):List (BitVec 64):=(List.range k).map (fun i=>if yes=true then pat i a else ~~~pat i a)
theorem x8(k a:Nat)(yes:Bool):(X4 k a yes).length=k:=by simp[X4]
theorem zs9{k a n:Nat}{yes:Bool}(h:n<64*k):Z9 (X4 k a yes) n=(n.testBit a==yes):=by
 have h1:n/64<k:=by omega
 rw[zW7 (x:=if yes=true then pat (n/64) a else ~~~pat (n/64) a) (by simp[X4,List.getElem?_map,List.getElem?_range h1])];cases yes with
 | true=>simp only[if_true];rw[zI5];simp
 | false=>simp only[Bool.false_eq_true,if_false];rw[BitVec.getLsbD_not,zI5];simp[show n%64<64 by omega]
theorem qW3{l:List (BitVec 64)}:(∀ x∈l,x=0)↔∀ n,n<64*l.length->Z9 l n=false:=by
 constructor
 ·intro h n hn;obtain⟨x,h1,h2⟩:=zx9 hn;rw[h2,h x (List.mem_of_getElem? h1)];simp
 ·intro h x hx;obtain⟨i,hi,e⟩:=List.getElem_of_mem hx;apply BitVec.eq_of_getLsbD_eq;intro b hb;have h1:=h (64*i+b) (by omega);rw[zW7 (x:=x) (by rw[show(64*i+b)/64=i by omega,List.getElem?_eq_getElem hi,e]),show(64*i+b)%64=b by omega] at h1;rw[h1];simp
def ql3(p:Nat->Bool):Nat->Nat
 | 0=>0
 | n+1=>ql3 p n+(if p n=true then 1 else 0)
theorem qB1(p q:Nat->Bool):∀ n,(∀ x,x<n->q x=true->p x=true)->ql3 q n<=ql3 p n
 | 0,_=>Nat.le_refl _
 | n+1,h=>by have h1:=qB1 p q n (fun x hx=>h x (by omega));have h2:=h n (by omega);simp only[ql3];cases e1:q n<;>cases e2:p n<;>simp_all<;>omega
theorem qB2(p q:Nat->Bool):∀ n,(∀ x,x<n->q x=true->p x=true)->(∃ x,x<n/\p x=true/\q x=false)->ql3 q n<ql3 p n
 | 0,_,h=>by obtain⟨x,hx,_⟩:=h;omega
 | n+1,h,hx=>by
  obtain⟨x,hx1,hx2,hx3⟩:=hx;have h1:=qB1 p q n (fun x hx=>h x (by omega));simp only[ql3];by_cases e:x=n
  ·subst e;simp[hx2,hx3];omega
  ·have h2:=qB2 p q n (fun x hx=>h x (by omega)) ⟨x,by omega,hx2,hx3⟩;have h3:=h n (by omega);cases e1:q n<;>cases e2:p n<;>simp_all<;>omega
end Ar
namespace Ar
theorem zy0:∀ (M:Nat) (l:List Nat),l.Nodup->(∀ q∈l,q<M)->l.length<=M
 | 0,l,_,hl=>by
  cases l with
  | nil=>simp
  | cons a b=>exact absurd (hl a (by simp)) (by omega)
 | M+1,l,hn,hl=>by
  by_cases hm:M∈l
  ·have e:=List.length_erase_of_mem hm;have:=zy0 M (l.erase M) (hn.erase M) (fun q hq=>by
    have h1:=hl q (List.mem_of_mem_erase hq);have h2:q≠M:=fun e=>by subst e;exact(List.Nodup.not_mem_erase hn) hq
    omega)
   have:=List.length_pos_of_mem hm;omega
  ·have:=zy0 M l hn (fun q hq=>by
    have h1:=hl q hq;have h2:q≠M:=fun e=>by subst e;exact hm hq
    omega)
   omega
theorem zW9:∀ (M:Nat) (l:List Nat),(∀ q,q<M->q∈l)->M<=l.length
 | 0,_,_=>Nat.zero_le _
 | M+1,l,h=>by
  have hm:=h M (by omega);have e:=List.length_erase_of_mem hm;have:=zW9 M (l.erase M) (fun q hq=>by rw[List.mem_erase_of_ne (by omega)];exact h q (by omega))
  have:=List.length_pos_of_mem hm;omega
def opn(tr:List St)(k:Nat):List Nat:=(List.range k).filter (fun a=>decide (a ∉ tr.map (·.q)))
theorem qW7(tr:List St):opn tr 0=[]:=rfl
theorem ql7(tr:List St)(k:Nat):opn tr (k+1)=if k∈tr.map (·.q) then opn tr k else opn tr k++[k]:=by
 unfold opn;rw[List.range_succ,List.filter_append];split
 ·rename_i h;simp only[List.filter_cons,List.filter_nil];rw[if_neg (by simpa using h)];simp
 ·rename_i h;simp only[List.filter_cons,List.filter_nil];rw[if_pos (by simpa using h)]
theorem qc0{tr:List St}{k a:Nat}:a∈opn tr k↔a<k/\a ∉ tr.map (·.q):=by unfold opn;rw[List.mem_filter,List.mem_range];simp
theorem qc1(tr:List St)(k:Nat):(opn tr k).length<=k:=by unfold opn;exact Nat.le_trans (List.length_filter_le _ _) (by simp)
section
variable{F:Fx}{A:List At}{W:Nat}{al l0:Nat->Bool}{tr:List St}{left:List (Nat->Bool)}
theorem zb4.open_lt(h:zb4 F A W al tr left l0){a:Nat}(ha:a<A.length)(hn:a ∉ tr.map (·.q)):tr.length<A.length:=by
 rcases Nat.lt_or_ge tr.length A.length with hlt|hge
 ·exact hlt
 ·exfalso;have h1:(a::(tr.take A.length).map (·.q)).Nodup:=by
   rw[List.nodup_cons];refine⟨fun hm=>hn ?_,?_⟩
   ·rw[List.map_take] at hm;exact List.mem_of_mem_take hm
   ·rw[List.map_take];exact h.nd.sublist (List.take_sublist _ _)
  have h2:=zy0 A.length _ h1 (fun q hq=>by
   rcases List.mem_cons.1 hq with e|e
   ·omega
   ·obtain⟨s,hs,rfl⟩:=List.mem_map.1 e;obtain⟨k,hk⟩:=List.getElem?_of_mem hs;obtain⟨hk1,hk2⟩:=U8 hk;exact(h.ats k s hk2).1 hk1)
  simp at h2;omega
theorem zb4.none_open(hn:∀ a,a<A.length->a∈tr.map (·.q)):A.length<=tr.length:=by have:=zW9 A.length _ hn;simpa using this
theorem zb4.vote(h:zb4 F A W al tr left l0)(hl:tr.length<A.length){last:Nat->Bool}(hlast:left[left.length-1]?=some last){q:Nat}{yes:Bool}(hx:∃ x,x<W/\last x=true/\x.testBit q=yes):∃ x,x<W/\l0 x=true/\zS1 tr A.length x/\x.testBit q=yes:=by obtain⟨x,h1,h2,h3⟩:=hx;have hlen:=h.len;obtain⟨h4,h5⟩:=(h.lf _ _ hlast x h1).1 h2;refine⟨x,h1,h4,fun k s hk e=>h5 k s ?_ e,h3⟩;have:=(List.getElem?_eq_some_iff.1 e).1;omega
theorem zb4.last_some(h:zb4 F A W al tr left l0){last:Nat->Bool}(hlast:left[left.length-1]?=some last):∃ x,x<W/\last x=true:=by obtain⟨x,h1,h2,h3⟩:=h.some_;have hlen:=h.len;exact⟨x,h1,(h.lf _ _ hlast x h1).2 ⟨h2,fun k s hk e=>h3 k s (by omega) e⟩⟩
theorem zb4.stands(h:zb4 F A W al tr left l0)(hn:∀ a,a<A.length->a∈tr.map (·.q)){v:Nat->Int}(hh:∀ y∈ans A tr,y.1.tr v=y.2):∃ x,x<W/\al x=true/\isW A v x:=by obtain⟨x,h1,h2,h3⟩:=h.some_;refine⟨x,h1,h.sub x h1 h2,fun k a ha=>?_⟩;have hk:=(List.getElem?_eq_some_iff.1 ha).1;obtain⟨s,hs,e⟩:=List.mem_map.1 (hn k hk);obtain⟨j,hj⟩:=List.getElem?_of_mem hs;subst e;have hj2:=(h.ats j s hj).2 hk;rw[h3 j s hj2 hj];have:=hh (atQ A s.q,s.yes) (List.mem_of_getElem? (i:=j) (by rw[zI3,hj];rfl));simp only[atQ,ha] at this;exact this.symm
end
end Ar
namespace Ar
def qV8:List UInt8:=[61,62]
inductive FmW:Nd->Prop
 | truth {w:ByteArray} (hw:w.toList=zn9\/w.toList=zh7):FmW (.mk 0 w 0 [])
 | neg {w:ByteArray} {p:Nd} (hw:w.toList=zk0) (hp:FmW p):FmW (.mk 1 w 0 [p])
 | imp {w:ByteArray} {p q:Nd} (hw:w.toList=qV8\/w.toList=zo0) (hp:FmW p) (hq:FmW q):FmW (.mk 1 w 0 [p,q])
 | many {w:ByteArray} {ps:List Nd} (hw:w.toList=zl0\/w.toList=wOr) (hp:∀ p∈ps,FmW p):FmW (.mk 1 w 0 ps)
 | two {w:ByteArray} {a b:Nd} (hw:w.toList=[61]\/w.toList=[60]\/w.toList=[60,61]) (ha:Y5 a) (hb:Y5 b):FmW (.mk 2 w 0 [a,b])
 | le {w:ByteArray} {a b:Nd} {v:Int} (hw:w.toList=wLe) (ha:Y5 a) (hb:Y5 b) (h1:-1000<=v) (h2:v<=1000):FmW (.mk 2 w 0 [a,b,.mk 5 ByteArray.empty v []])
theorem FmW.ok{f:Nd}(h:FmW f):zk1 f:=by
 induction h with
 | truth hw=>exact .truth (by rcases hw with hw|hw<;>(rw[hw];decide))
 | neg hw _ ih=>exact .con (by rw[hw];decide) (fun p hp=>by simp at hp;subst hp;exact ih)
 | imp hw _ _ ih1 ih2=>exact .con (by rcases hw with hw|hw<;>(rw[hw];decide)) (fun p hp=>by simp at hp;rcases hp with rfl|rfl;exact ih1;exact ih2)
 | many hw _ ih=>exact .con (by rcases hw with hw|hw<;>(rw[hw];decide)) ih
 | two hw ha hb=>exact .two hw ha hb
 | le hw ha hb h1 h2=>exact .le hw ha hb h1 h2
theorem qK5{l:List UInt8}{ks:Int × Int}(h:zo1 l=some ks):(ks=(1,0)/\l=zk0)\/(ks=(1,1)/\(l=qV8\/l=zo0))\/(ks=(1,2)/\(l=zl0\/l=wOr))\/(ks=(2,3)/\(l=[61]\/l=[60]\/l=[60,61]))\/(ks=(2,4)/\l=wLe):=by
 unfold zo1 at h
 repeat' (split at h)
 all_goals first|(simp at h;done)|(simp only[Option.some.injEq] at h;subst h)
 ·exact .inl ⟨rfl,‹_›⟩
 ·exact .inr (.inr (.inl ⟨rfl,.inl ‹_›⟩))
 ·exact .inr (.inr (.inl ⟨rfl,.inr ‹_›⟩))
 ·exact .inr (.inl ⟨rfl,.inl ‹_›⟩)
 ·exact .inr (.inl ⟨rfl,.inr ‹_›⟩)
 ·exact .inr (.inr (.inr (.inl ⟨rfl,.inl ‹_›⟩)))
 ·exact .inr (.inr (.inr (.inl ⟨rfl,.inr (.inl ‹_›)⟩)))
 ·exact .inr (.inr (.inr (.inl ⟨rfl,.inr (.inr ‹_›)⟩)))
 ·exact .inr (.inr (.inr (.inr ⟨rfl,‹_›⟩)))
theorem qk9{N:List Nm}(hN:zA8 N)(n:Nat):∀ d ts nd ts',K6 N n d ts=.ok nd ts'->FmW nd:=by
 induction n with
 | zero=>intro d ts nd ts' e;exact absurd e (by simp[K6])
 | succ n ih=>
  intro d ts nd ts' e;cases ts with
  | nil=>exact absurd e (by simp[K6])
  | cons t ts=>
   unfold K6 at e;split at e
   ·split at e
    ·exact absurd e (by simp)
    ·split at e
     ·exact absurd e (by simp)
     ·rename_i u us;split at e
      ·exact absurd e (by simp)
      ·rename_i ks hks;obtain⟨ps,vs,hr,rfl⟩:=zE2 e;have hT:=zN7 hN n (d+1);have hF:=ih (d+1);rcases qK5 hks with⟨rfl,hw⟩|⟨rfl,hw⟩|⟨rfl,hw⟩|⟨rfl,hw⟩|⟨rfl,hw⟩
       ·obtain⟨h1,h2⟩:=zI0 [_] (fun f hf=>by simp at hf;subst hf;exact hF) us ps vs hr
        match ps,h1,h2 with
        | [p],h1,_=>exact .neg hw (h1 p (by simp))
       ·obtain⟨a,b,rfl,ha,hb⟩:=jg4 hF hF (ts:=us) hr;exact .imp hw ha hb
       ·exact .many hw (qk1 hF _ us ps vs hr)
       ·obtain⟨a,b,rfl,ha,hb⟩:=jg4 hT hT (ts:=us) hr;exact .two hw ha hb
       ·obtain⟨a,b,c,rfl,ha,hb,hc⟩:=ju2 (R:=fun nd=>∃ v,nd=.mk 5 ByteArray.empty v [] /\ -1000<=v/\v<=1000) hT hT (fun ts nd ts' e=>qt7 e) (ts:=us) hr;obtain⟨v,rfl,h1,h2⟩:=hc;exact .le hw ha hb h1 h2
   ·split at e
    ·rename_i hw;simp only[Rs.ok.injEq] at e;obtain⟨rfl,rfl⟩:=e;exact .truth hw
    ·exact absurd e (by simp)
end Ar
end
section
namespace Ar
theorem zu7(f:Nat->Nat)(n:Nat):∀ k,za1 f (n+k)=za1 f n+za1 (fun i=>f (n+i)) k
 | 0=>rfl
 | k+1=>by have:=zu7 f n k;show za1 f (n+k)+f (n+k)=_;simp only[za1];omega
theorem ql0(f g:Nat->Nat):∀ n,za1 (fun i=>f i+g i) n=za1 f n+za1 g n
 | 0=>rfl
 | n+1=>by have:=ql0 f g n;simp only[za1];omega
theorem zP3(f:Nat->Nat):∀ n,(∀ i,i<n->f i=1)->za1 f n=n
 | 0,_=>rfl
 | n+1,h=>by have:=zP3 f n (fun i hi=>h i (by omega));have:=h n (by omega);simp only[za1];omega
theorem zo7(f:Nat->Nat):∀ n,(∀ i,i<n->f i=0)->za1 f n=0
 | 0,_=>rfl
 | n+1,h=>by have:=zo7 f n (fun i hi=>h i (by omega));have:=h n (by omega);simp only[za1];omega
theorem zC0(f:Nat->Nat)(h1:∀ i,f i<=1):∀ n,za1 f n<=n
 | 0=>Nat.le_refl _
 | n+1=>by have:=zC0 f h1 n;have:=h1 n;simp only[za1];omega
def zb8(G:Nat)(s y:Int):Nat:=if s<y/\y<=s+G then 1 else 0
def x6(G:Nat)(S:List Int)(y:Int):Nat:=if S.any (fun s=>decide (s<y/\y<=s+G))=true then 1 else 0
def x7(G:Nat):List Int->Int->Nat
 | [],_=>0
 | s::S,y=>zb8 G s y+x7 G S y
variable{G:Nat}
theorem zC1(s y:Int):zb8 G s y<=1:=by unfold zb8;split<;>omega
theorem qu4(S:List Int)(y:Int):x6 G S y<=x7 G S y:=by
 induction S with
 | nil=>simp[x6,x7]
 | cons s S ih=>
  simp only[x7];by_cases h:s<y/\y<=s+G
  ·have:zb8 G s y=1:=by unfold zb8;rw[if_pos h]
   have:x6 G (s::S) y<=1:=by unfold x6;split<;>omega
   omega
  ·have h1:x6 G (s::S) y=x6 G S y:=by unfold x6;simp[h]
   omega
theorem qK6(s m:Int)(n:Nat):za1 (fun i=>zb8 G s (m+1+i)) n<=G:=by
 by_cases h:s<m
 ·-- the zb8 begins below:those up to s+G
  obtain⟨k,hk⟩:∃ k:Nat,(k:Int)=max 0 (s+G-m):=⟨(max 0 (s+G-m)).toNat,by omega⟩;have hkb:k<=G:=by omega
  by_cases hn:n<=k
  ·have:=zC0 (fun i=>zb8 G s (m+1+i)) (fun i=>zC1 _ _) n;omega
  ·obtain⟨r,hr⟩:∃ r,n=k+r:=⟨n-k,by omega⟩;rw[hr,zu7];have h1:=zC0 (fun i=>zb8 G s (m+1+i)) (fun i=>zC1 _ _) k;have h2:=zo7 (fun i=>zb8 G s (m+1+((k+i:Nat):Int))) r (fun i _=>by unfold zb8;rw[if_neg (by omega)]);omega
 ·obtain⟨d,hd⟩:∃ d:Nat,(d:Int)=s-m:=⟨(s-m).toNat,by omega⟩;by_cases hn:n<=d
  ·have:=zo7 (fun i=>zb8 G s (m+1+i)) n (fun i hi=>by unfold zb8;rw[if_neg (by omega)]);omega
  ·obtain⟨r,hr⟩:∃ r,n=d+r:=⟨n-d,by omega⟩;rw[hr,zu7];have h1:=zo7 (fun i=>zb8 G s (m+1+i)) d (fun i hi=>by unfold zb8;rw[if_neg (by omega)]);have h3:za1 (fun i=>zb8 G s (m+1+((d+i:Nat):Int))) r<=G:=by
    by_cases hr2:r<=G
    ·have:=zC0 (fun i=>zb8 G s (m+1+((d+i:Nat):Int))) (fun i=>zC1 _ _) r;omega
    ·obtain⟨q,hq⟩:∃ q,r=G+q:=⟨r-G,by omega⟩;rw[hq,zu7];have h4:=zC0 (fun i=>zb8 G s (m+1+((d+i:Nat):Int))) (fun i=>zC1 _ _) G;have h5:=zo7 (fun i=>zb8 G s (m+1+((d+(G+i):Nat):Int))) q (fun i _=>by unfold zb8;rw[if_neg (by omega)]);omega
   omega
theorem zW3(m:Int)(n:Nat):∀ S:List Int,za1 (fun i=>x7 G S (m+1+i)) n<=G*S.length
 | []=>by simp only[x7];rw[zo7 _ _ (fun _ _=>rfl)];omega
 | s::S=>by have h1:=zW3 m n S;have h2:=qK6 (G:=G) s m n;have h3:=ql0 (fun i=>zb8 G s (m+1+i)) (fun i=>x7 G S (m+1+i)) n;have h4:za1 (fun i=>x7 G (s::S) (m+1+i)) n=za1 (fun i=>zb8 G s (m+1+i)+x7 G S (m+1+i)) n:=rfl;rw[h4,h3,List.length_cons,Nat.mul_succ];omega
theorem zP4{S:List Int}{M y:Int}(hM:M∈S)(hy:y<=M):x7 G S y=x7 G (S.erase M) y:=by
 induction S with
 | nil=>simp at hM
 | cons s S ih=>
  by_cases e:s=M
  ·subst e;rw[List.erase_cons_head];simp only[x7];have:zb8 G s y=0:=by unfold zb8;rw[if_neg (by omega)]
   omega
  ·rw[List.erase_cons_tail (by simpa using e)];simp only[x7];rw[ih ((List.mem_cons.1 hM).resolve_left (fun h=>e h.symm))]
def near(G:Nat)(S:List Int)(m x:Int):Int:=(za1 (fun i=>x6 G S (m+1+i)) (x-m).toNat:Nat)
theorem qK7{S:List Int}{m a b:Int}(hm:m<=a)(hab:a<=b):near G S m b-near G S m a=(za1 (fun i=>x6 G S (a+1+i)) (b-a).toNat:Nat):=by
 unfold near;obtain⟨p,hp⟩:∃ p:Nat,(p:Int)=a-m:=⟨(a-m).toNat,by omega⟩;obtain⟨k,hk⟩:∃ k:Nat,(k:Int)=b-a:=⟨(b-a).toNat,by omega⟩;rw[show(b-m).toNat=p+k by omega,show(a-m).toNat=p by omega,show(b-a).toNat=k by omega,zu7];have:(fun i:Nat=>x6 G S (m+1+((p+i:Nat):Int)))=(fun i:Nat=>x6 G S (a+1+(i:Int))):=by
  funext i
  congr 1
  omega
 rw[this];omega
theorem zP5{S:List Int}{m a b:Int}(ha:a∈S)(hm:m<=a)(hab:a<=b):(b-a<=G->near G S m b-near G S m a=b-a)/\(G<=b-a->G<=near G S m b-near G S m a):=by
 have h1:∀ i:Nat,i<G->x6 G S (a+1+i)=1:=by intro i hi;unfold x6;rw[if_pos];exact List.any_eq_true.2 ⟨a,ha,by simp;omega⟩
 rw[qK7 hm hab];constructor
 ·intro h;rw[zP3 _ _ (fun i hi=>h1 i (by omega))];omega
 ·intro h;obtain⟨q,hq⟩:∃ q:Nat,(b-a).toNat=G+q:=⟨(b-a).toNat-G,by omega⟩;rw[hq,zu7,zP3 _ _ (fun i hi=>h1 i hi)];omega
theorem zW4{S:List Int}{m M:Int}(hM:M∈S){x:Int}(hx:x<=M):0<=near G S m x/\near G S m x<=((G*(S.length-1):Nat):Int):=by
 refine⟨by unfold near;omega,?_⟩;unfold near;have h1:za1 (fun i=>x6 G S (m+1+i)) (x-m).toNat<=za1 (fun i=>x7 G (S.erase M) (m+1+i)) (x-m).toNat:=by
  refine qV7 fun i hi=>?_
  rw[<- zP4 hM (by omega)];exact qu4 _ _
 have h2:=zW3 (G:=G) m (x-m).toNat (S.erase M);rw[List.length_erase_of_mem hM] at h2;omega
theorem qV9{S:List Int}(h:S≠[]):∃ m∈S,∀ s∈S,m<=s:=by
 induction S with
 | nil=>exact absurd rfl h
 | cons s S ih=>
  by_cases e:S=[]
  ·subst e;exact⟨s,by simp,by simp⟩
  ·obtain⟨m,hm,hle⟩:=ih e;by_cases h2:s<=m
   ·exact⟨s,by simp,fun x hx=>by rcases List.mem_cons.1 hx with rfl|hx;omega;have:=hle x hx;omega⟩
   ·exact⟨m,by simp[hm],fun x hx=>by rcases List.mem_cons.1 hx with rfl|hx;omega;exact hle x hx⟩
theorem jh7{S:List Int}(h:S≠[]):∃ m∈S,∀ s∈S,s<=m:=by
 induction S with
 | nil=>exact absurd rfl h
 | cons s S ih=>
  by_cases e:S=[]
  ·subst e;exact⟨s,by simp,by simp⟩
  ·obtain⟨m,hm,hle⟩:=ih e;by_cases h2:m<=s
   ·exact⟨s,by simp,fun x hx=>by rcases List.mem_cons.1 hx with rfl|hx;omega;have:=hle x hx;omega⟩
   ·exact⟨m,by simp[hm],fun x hx=>by rcases List.mem_cons.1 hx with rfl|hx;omega;exact hle x hx⟩
theorem qW0(G:Nat)(S:List Int)(h0:0∈S):∃ φ:Int->Int,φ 0=0/\(∀ a∈S,∀ b∈S,∀ c:Int,-(G:Int)<=c->c+1<=G->(a<=b+c ↔ φ a <= φ b+c))/\(∀ a∈S,∀ b∈S,φ a-φ b<=((G*(S.length-1):Nat):Int)):=by
 have hne:S≠[]:=fun e=>by rw[e] at h0;simp at h0
 obtain⟨m,hm,hle⟩:=qV9 hne;obtain⟨M,hM,hge⟩:=jh7 hne;refine⟨fun x=>near G S m x-near G S m 0,by simp,fun a ha b hb c h1 h2=>?_,fun a ha b hb=>?_⟩
 ·have la:=hle a ha;have lb:=hle b hb;show a<=b+c↔near G S m a-near G S m 0<=near G S m b-near G S m 0+c;by_cases hab:a<=b
  ·have h3:=zP5 (G:=G) (m:=m) ha la hab;by_cases hd:b-a<=G
   ·have:=h3.1 hd;omega
   ·have:=h3.2 (by omega);omega
  ·have h3:=zP5 (G:=G) (m:=m) hb lb (by omega:b<=a);by_cases hd:a-b<=G
   ·have:=h3.1 hd;omega
   ·have:=h3.2 (by omega);omega
 ·have h1:=zW4 (G:=G) (m:=m) hM (hge a ha);have h2:=zW4 (G:=G) (m:=m) hM (hge b hb);show near G S m a-near G S m 0-(near G S m b-near G S m 0)<=_;omega
theorem qK8{T A:List Nd}{v:Nd->Int}(hg:Good T v)(hcl:∀ x∈T,∀ p∈parts x,p∈T)(hA:∀ x∈A,zs5 x/\∀ p∈(parts x).take 2,p∈T)(g:Nat)(hnum:∀ n,.mk 4 ByteArray.empty n []∈T -> -(g:Int)<=n/\n<=g)(hbd:∀ x∈A,-(g:Int)<=bnd ((parts x).drop 2)/\bnd ((parts x).drop 2)<=g):∃ v',Good T v'/\(∀ x∈A,zd7 v' x=zd7 v x)/\(∀ x∈T,∀ y∈T,v' x-v' y<=(((g+1)*T.length:Nat):Int))/\(∀ x∈T,v' x<=(((g+1)*T.length:Nat):Int) /\ -((((g+1)*T.length:Nat):Int))<=v' x):=by
 obtain⟨φ,h0,hk,hs⟩:=qW0 (g+1) (0::T.map v) (by simp);have hm:∀ x∈T,v x∈0::T.map v:=fun x hx=>List.mem_cons_of_mem _ (List.mem_map_of_mem hx)
 have hz:(0:Int)∈0::T.map v:=by simp
 have hinj:∀ a∈0::T.map v,∀ b∈0::T.map v,φ a = φ b->a=b:=by intro a ha b hb e;have h1:=(hk a ha b hb 0 (by omega) (by omega)).2 (by omega);have h2:=(hk b hb a ha 0 (by omega) (by omega)).2 (by omega);omega
 have hl:(0::T.map v).length-1=T.length:=by simp
 refine⟨fun x => φ (v x),⟨fun n hn=>?_,fun w ps qs hp hq he=>?_⟩,fun x hx=>?_,fun x hx y hy=>?_,fun x hx=>?_⟩
 ·have e:=hg.num n hn;have hb:=hnum n hn;have hmn:=hm _ hn;rw[e] at hmn;have h1:=(hk n hmn 0 hz n (by omega) (by omega)).1 (by omega);have h2:=(hk 0 hz n hmn (-n) (by omega) (by omega)).1 (by omega);show φ (v _)=n;rw[e];omega
 ·show φ (v _) = φ (v _);have:ps.map v=qs.map v:=by
   have hpc:∀ p∈ps,p∈T:=fun p h=>hcl _ hp p h
   have hqc:∀ p∈qs,p∈T:=fun p h=>hcl _ hq p h
   clear hp hq
   induction ps generalizing qs with
   | nil=>cases qs with
    | nil=>rfl
    | cons _ _=>simp at he
   | cons p ps ih=>cases qs with
    | nil=>simp at he
    | cons q qs=>simp only[List.map_cons,List.cons.injEq] at he ⊢;exact⟨hinj _ (hm p (hpc p (by simp))) _ (hm q (hqc q (by simp))) he.1,ih qs he.2 (fun r hr=>hpc r (by simp[hr])) (fun r hr=>hqc r (by simp[hr]))⟩
  rw[hg.fn w ps qs hp hq this]
 ·have hrel:∀ (w:List UInt8) (a b c:Int),a∈0::T.map v->b∈0::T.map v -> -(g:Int)<=c->c<=g->zi2 w (φ a) (φ b) c=zi2 w a b c:=by
   intro w a b c ha hb h1 h2;have k0:=hk a ha b hb 0 (by omega) (by omega);have k1:=hk b hb a ha 0 (by omega) (by omega);have k2:=hk a ha b hb (-1) (by omega) (by omega);have k3:=hk a ha b hb c (by omega) (by omega);unfold zi2;split
   ·rw[decide_eq_decide];omega
   ·split
    ·rw[decide_eq_decide];omega
    ·split<;>(rw[decide_eq_decide];omega)
  obtain⟨hao,he⟩:=hA x hx;have hbx:=hbd x hx;cases hao with
  | two hw ha hb=>exact hrel _ _ _ _ (hm _ (he _ (by simp[parts]))) (hm _ (he _ (by simp[parts]))) hbx.1 hbx.2
  | le hw ha hb h1 h2=>exact hrel _ _ _ _ (hm _ (he _ (by simp[parts]))) (hm _ (he _ (by simp[parts]))) hbx.1 hbx.2
 ·have:=hs _ (hm x hx) _ (hm y hy);rw[hl] at this;exact this
 ·have h1:=hs _ (hm x hx) 0 hz;have h2:=hs 0 hz _ (hm x hx);rw[hl,h0] at h1 h2;show φ (v x)<=_/\_ <= φ (v x);omega
end Ar
end
section
namespace Ar
def enc(P K a b e:Nat):Nat:=(a*(P+1)+b)*K+e
theorem ju5{P K a b e e':Nat}(h:e'<e):enc P K a b e'<enc P K a b e:=by unfold enc;omega
theorem jl3{P K a b b' e e':Nat}(h:b'<b)(he:e'<K):enc P K a b' e'<enc P K a b e:=by unfold enc;have h1:(a*(P+1)+b'+1)*K<=(a*(P+1)+b)*K:=Nat.mul_le_mul_right K (by omega);rw[Nat.add_mul (a*(P+1)+b') 1 K] at h1;omega
theorem ju6{P K a a' b b' e e':Nat}(h:a'<a)(hb:b'<=P)(he:e'<K):enc P K a' b' e'<enc P K a b e:=by unfold enc;have h0:(a'+1)*(P+1)<=a*(P+1):=Nat.mul_le_mul_right _ (by omega);rw[Nat.add_mul a' 1 (P+1)] at h0;have h1:(a'*(P+1)+b'+1)*K<=(a*(P+1)+b)*K:=Nat.mul_le_mul_right K (by omega);rw[Nat.add_mul (a'*(P+1)+b') 1 K] at h1;omega
def mx(A:List At):Nat:=A.length+150
def ql8(A:List At)(tr:List St):Nat:=3^mx A-pot (mx A) tr
theorem jj1(A:List At)(tr:List St):ql8 A tr<=3^mx A:=Nat.sub_le _ _
theorem qL3{A:List At}{tr:List St}(s:St)(h:tr.length<=A.length+144):ql8 A (tr++[s])<ql8 A tr:=by have h1:=ql1 (mx A) tr s (by unfold mx;omega);have h2:=qb7 (mx A) (tr++[s]);unfold ql8;omega
theorem qL4{A:List At}{tr:List St}{p:Nat}{s t:St}(h:tr.length<=A.length+145)(hs:tr[p]?=some s)(h1:s.turned=false)(h2:t.turned=true):ql8 A (tr.take p++[t])<ql8 A tr:=by have h3:=ql2 (mx A) tr p s t (by unfold mx;omega) hs h1 h2;have h4:=qb7 (mx A) (tr.take p++[t]);unfold ql8;omega
def zh9(A:List At)(W:Nat)(l0:Nat->Bool)(tr:List St)(e:Nat):Nat:=enc (3^mx A) (mx A+20) (ql3 l0 W) (ql8 A tr) e
section
variable{F:Fx}{A:List At}{W:Nat}{al l0 l1:Nat->Bool}{tr:List St}{left:List (Nat->Bool)}
theorem qu7{e e':Nat}(h:e'<e):zh9 A W l0 tr e'<zh9 A W l0 tr e:=ju5 h
theorem zv0{e e':Nat}(s:St)(h:tr.length<=A.length+144)(he:e'<mx A+20):zh9 A W l0 (tr++[s]) e'<zh9 A W l0 tr e:=jl3 (qL3 s h) he
theorem zX0{p e e':Nat}{s t:St}(h:tr.length<=A.length+145)(hs:tr[p]?=some s)(h1:s.turned=false)(h2:t.turned=true)(he:e'<mx A+20):zh9 A W l0 (tr.take p++[t]) e'<zh9 A W l0 tr e:=jl3 (qL4 h hs h1 h2) he
theorem qW8{B:M3}{same:Nat->Bool}{tr':List St}{e e':Nat}(h:zb4 F A W al tr left l0)(hat:∀ k,B.has k=true->k<A.length)(hs:∀ x,x<W->(same x=true↔∀ k s,B.has k=true->tr[k]?=some s->x.testBit s.q=s.yes))(hl1:∀ x,x<W->l1 x=(l0 x && !same x))(he:e'<mx A+20)(tr0:List St):zh9 A W l1 tr' e'<zh9 A W l0 tr0 e:=by
 refine ju6 (qB2 l0 l1 W (fun x hx hh=>?_) ?_) (jj1 _ _) he
 ·rw[hl1 x hx] at hh;simp only[Bool.and_eq_true] at hh;exact hh.1
 ·obtain⟨x,hx,h1,h2⟩:=h.some_;refine⟨x,hx,h1,?_⟩;have:same x=true:=(hs x hx).2 (fun k s hk hks=>h2 k s (hat k hk) hks);rw[hl1 x hx,h1,this]
  rfl
end
end Ar
end
end Go.Proofs.YtegbdaffhpiacaaGreatDoor
