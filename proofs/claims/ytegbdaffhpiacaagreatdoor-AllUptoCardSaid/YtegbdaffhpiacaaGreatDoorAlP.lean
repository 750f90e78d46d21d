/- Part. -/
namespace Go.Proofs.YtegbdaffhpiacaaGreatDoor
abbrev aU:=List UInt8
abbrev aV:=List Int
abbrev aW:=List (BitVec 64)
abbrev aX:=List (Nat × Nat)
variable{G:Prop}
theorem bL:type_of% @if_neg:=@if_neg
theorem bO:type_of% @if_pos:=@if_pos
theorem bZ:type_of% @List.getElem?_eq_getElem:=@List.getElem?_eq_getElem
theorem cf:type_of% @Nat.zero_le:=@Nat.zero_le
theorem cj:type_of% @Nat.le_refl:=@Nat.le_refl
theorem ck:type_of% @List.getElem?_eq_some_iff:=@List.getElem?_eq_some_iff
theorem cm:type_of% @List.mem_of_getElem?:=@List.mem_of_getElem?
theorem cC:type_of% @Nat.lt_of_lt_of_le:=@Nat.lt_of_lt_of_le
theorem cO:type_of% @List.length_append:=@List.length_append
theorem cZ:type_of% @List.take_of_length_le:=@List.take_of_length_le
theorem da:type_of% @List.mem_append:=@List.mem_append
theorem dm:type_of% @Nat.le_trans:=@Nat.le_trans
theorem du:type_of% @List.getElem?_append_right:=@List.getElem?_append_right
theorem dN:type_of% @List.getElem?_map:=@List.getElem?_map
theorem dP:type_of% @List.mem_map:=@List.mem_map
theorem dQ:type_of% @trivial:=@trivial
theorem ei:type_of% @List.getElem?_append_left:=@List.getElem?_append_left
theorem eF:type_of% @List.length_take:=@List.length_take
theorem eI:type_of% @Option.some.inj:=@Option.some.inj
theorem fo:type_of% @beq_iff_eq:=@beq_iff_eq
theorem fG:type_of% @List.length_map:=@List.length_map
theorem fH:type_of% @List.take_add_one:=@List.take_add_one
theorem gR:type_of% @List.mem_of_mem_take:=@List.mem_of_mem_take
theorem ig:type_of% @decide_eq_true:=@decide_eq_true
theorem iE:type_of% @decide_eq_false:=@decide_eq_false
theorem jk:type_of% @Bool.and_eq_true:=@Bool.and_eq_true
theorem jl:type_of% @List.getElem?_eq_none:=@List.getElem?_eq_none
theorem jB:type_of% @List.take_append_drop:=@List.take_append_drop
theorem jC:type_of% @List.length_singleton:=@List.length_singleton
theorem jQ:type_of% @congrArg:=@congrArg
theorem jR:type_of% @Nat.min_eq_left:=@Nat.min_eq_left
theorem kJ:type_of% @List.mem_cons_of_mem:=@List.mem_cons_of_mem
theorem lR:type_of% @beq_eq_false_iff_ne:=@beq_eq_false_iff_ne
theorem lS:type_of% @List.take_length:=@List.take_length
theorem mL:type_of% @List.length_cons:=@List.length_cons
theorem nK:type_of% @List.map_append:=@List.map_append
theorem oH:type_of% @List.mem_cons:=@List.mem_cons
theorem oI:type_of% @Nat.le_of_lt:=@Nat.le_of_lt
theorem oJ:type_of% @List.append_assoc:=@List.append_assoc
theorem pM:type_of% @Nat.zero_add:=@Nat.zero_add
theorem pN:type_of% @of_decide_eq_true:=@of_decide_eq_true
theorem pO:type_of% @Nat.lt_irrefl:=@Nat.lt_irrefl
theorem pP:type_of% @Nat.mul_le_mul_right:=@Nat.mul_le_mul_right
theorem pQ:type_of% @Nat.pow_le_pow_right:=@Nat.pow_le_pow_right
theorem pR:type_of% @List.getElem?_take:=@List.getElem?_take
theorem pS:type_of% @List.mem_filter:=@List.mem_filter
theorem qF:type_of% @List.nil_append:=@List.nil_append
theorem qH:type_of% @List.all_eq_true:=@List.all_eq_true
theorem qI:type_of% @List.cons_append:=@List.cons_append
theorem rN:type_of% @List.take_take:=@List.take_take
theorem sZ:type_of% @List.nodup_nil:=@List.nodup_nil
theorem s6:type_of% @List.eq_nil_of_length_eq_zero:=@List.eq_nil_of_length_eq_zero
theorem s7:type_of% @List.take_append_of_le_length:=@List.take_append_of_le_length
theorem s8:type_of% @List.mem_append_left:=@List.mem_append_left
theorem s9:type_of% @Nat.add_sub_cancel_left:=@Nat.add_sub_cancel_left
theorem td:type_of% @Nat.add_sub_cancel:=@Nat.add_sub_cancel
theorem tg:type_of% @List.mem_singleton:=@List.mem_singleton
theorem uP:type_of% @Classical.byContradiction:=@Classical.byContradiction
theorem uQ:type_of% @Array.getElem?_eq_none:=@Array.getElem?_eq_none
theorem uR:type_of% @List.mem_cons_self:=@List.mem_cons_self
theorem uT:type_of% @List.drop_eq_getElem_cons:=@List.drop_eq_getElem_cons
theorem uU:type_of% @Nat.lt_or_ge:=@Nat.lt_or_ge
theorem uV:type_of% @List.getD_eq_getElem?_getD:=@List.getD_eq_getElem?_getD
theorem uW:type_of% @List.mem_flatMap:=@List.mem_flatMap
theorem xF:type_of% @Option.some.injEq:=@Option.some.injEq
theorem xG:type_of% @List.mem_range:=@List.mem_range
theorem xH:type_of% @Array.getElem?_toList:=@Array.getElem?_toList
theorem xI:type_of% @List.map_take:=@List.map_take
theorem xJ:type_of% @List.size_toArray:=@List.size_toArray
theorem xK:type_of% @List.set_append_right:=@List.set_append_right
theorem zD:type_of% @Int.le_refl:=@Int.le_refl
theorem zE:type_of% @List.getElem?_replicate:=@List.getElem?_replicate
theorem zF:type_of% @List.length_replicate:=@List.length_replicate
theorem zG:type_of% @List.cons.injEq:=@List.cons.injEq
theorem zH:type_of% @List.ext_getElem?:=@List.ext_getElem?
theorem zK:type_of% @List.length_eq_zero_iff:=@List.length_eq_zero_iff
theorem zL:type_of% @Nat.mod_eq_of_lt:=@Nat.mod_eq_of_lt
theorem zM:type_of% @List.filter_append:=@List.filter_append
theorem Ct:type_of% @Int.le_trans:=@Int.le_trans
theorem Cu:type_of% @List.getElem_of_mem:=@List.getElem_of_mem
theorem Cw:type_of% @List.mem_replicate:=@List.mem_replicate
theorem Cx:type_of% @Option.map_eq_some_iff:=@Option.map_eq_some_iff
theorem Cy:type_of% @decide_eq_true_eq:=@decide_eq_true_eq
theorem Cz:type_of% @List.getElem?_take_of_lt:=@List.getElem?_take_of_lt
theorem CA:type_of% @List.pairwise_iff_getElem:=@List.pairwise_iff_getElem
theorem CC:type_of% @Int.toNat_of_nonneg:=@Int.toNat_of_nonneg
theorem CD:type_of% @List.flatMap_cons:=@List.flatMap_cons
theorem CE:type_of% @Nat.add_mul:=@Nat.add_mul
theorem CF:type_of% @List.flatMap_append:=@List.flatMap_append
theorem CG:type_of% @List.range_succ:=@List.range_succ
theorem CJ:type_of% @Array.getElem?_eq_getElem:=@Array.getElem?_eq_getElem
theorem CL:type_of% @BitVec.eq_of_toNat_eq:=@BitVec.eq_of_toNat_eq
theorem CM:type_of% @List.mem_append_right:=@List.mem_append_right
theorem CN:type_of% @List.getElem?_of_mem:=@List.getElem?_of_mem
theorem CQ:type_of% @List.append_nil:=@List.append_nil
theorem CS:type_of% @List.getElem?_range:=@List.getElem?_range
theorem CT:type_of% @List.length_filter_le:=@List.length_filter_le
theorem GO:type_of% @List.nodup_append:=@List.nodup_append
theorem GP:type_of% @Bool.eq_iff_iff:=@Bool.eq_iff_iff
theorem GQ:type_of% @List.foldl_append:=@List.foldl_append
theorem GS:type_of% @List.take_zero:=@List.take_zero
theorem GU:type_of% @List.mem_of_find?_eq_some:=@List.mem_of_find?_eq_some
theorem GV:type_of% @List.mem_iff_getElem?:=@List.mem_iff_getElem?
theorem GW:type_of% @Nat.lt_trichotomy:=@Nat.lt_trichotomy
theorem GX:type_of% @List.take_sublist:=@List.take_sublist
theorem GY:type_of% @List.map_congr_left:=@List.map_congr_left
theorem GZ:type_of% @Option.map_some:=@Option.map_some
theorem G1:type_of% @Bool.not_eq_true':=@Bool.not_eq_true'
theorem G2:type_of% @List.length_nil:=@List.length_nil
theorem G3:type_of% @Array.replicate_succ:=@Array.replicate_succ
theorem G4:type_of% @Array.replicate_zero:=@Array.replicate_zero
theorem G5:type_of% @List.push_toArray:=@List.push_toArray
theorem G6:type_of% @List.append_toArray:=@List.append_toArray
theorem G7:type_of% @List.mem_map_of_mem:=@List.mem_map_of_mem
theorem G8:type_of% @BitVec.toNat_ofNat:=@BitVec.toNat_ofNat
theorem G9:type_of% @List.length_pos_of_mem:=@List.length_pos_of_mem
theorem G':type_of% @List.getElem_mem:=@List.getElem_mem
theorem MW:type_of% @List.take_succ_eq_append_getElem:=@List.take_succ_eq_append_getElem
theorem MX:type_of% @List.drop_of_length_le:=@List.drop_of_length_le
theorem MY:type_of% @Array.getElem?_setIfInBounds:=@Array.getElem?_setIfInBounds
theorem MZ:type_of% @List.length_erase_of_mem:=@List.length_erase_of_mem
theorem M0:type_of% @List.pairwise_append:=@List.pairwise_append
theorem bH(h:G:=by omega):G:=h
theorem bJ(h:G:=by decide):G:=h
theorem bK(h:G:=by simp):G:=h
theorem bQ(h:G:=by simp;omega):G:=h
theorem ch(h:G:=by simp[intOf];omega):G:=h
theorem fS(h:G:=by have h1:i=w.heap.size:=e;omega):G:=h
theorem eH(h:G:=by show ¬w.heap.size=c.rb;omega):G:=h
theorem ZpC(h:G:=by have h1:=dB.o.2.2.2.1;have h2:=gA.o;have h3:=O9 false hp;rw[Rc qV.o,cO,<-gg.o.1 false]at h2;exact Vb):G:=h
theorem Gr(h:G:=by intro q u ep;match q,ep with|0,ep=>{exact rK}|1,ep=>simp at ep;subst ep;simp[Addr.add]<;>rfl):G:=h
theorem qD(h:G:=by exact heap_alloc_new w _):G:=h
theorem jj(h:G:=by rw[<-hW];exact Vg):G:=h
theorem Gs(h:G:=by exact⟨0,_,cf _,rfl,by simpa[z8]using dB.o⟩):G:=h
theorem jN(h:G:=by rw[<-hW];exact GL):G:=h
theorem dv(h:G:=by rw[hw];decide):G:=h
theorem jO(h:G:=by show ¬c.rb=w.heap.size;omega):G:=h
theorem jP(h:G:=by show ¬c.tb=w.heap.size;omega):G:=h
theorem gp(h:G:=by simp[Value.ownBlock]):G:=h
theorem dE(h:G:=by decide+kernel):G:=h
theorem qE(h:G:=by first|(omega)|(simp;omega)):G:=h
theorem Ty(h:G:=by rcases h.map with e|⟨mb,D,e,ho,hm⟩;{exact .inl e};have Mq:=OV hm (cf _);refine .inr ⟨mb,D,e,? _,? _⟩;{rw[show 0+(K.length-K.length)=K.length by omega];exact ho};rw[mj]at Mq⊢;exact Mq):G:=h
theorem dM(h:G:=by rw[hu];decide):G:=h
theorem ZpD(h:G:=by have h1:=dB.2.2.2.1;have h2:=gA.o;have h3:=O9 true hp;rw[Re qV.o,cO,<-gg.o.1 true]at h2;exact Vb):G:=h
theorem lu(h:G:=by show ¬c.nb=w.heap.size;omega):G:=h
theorem pH(h:G:=by simp[Value.ownBlock]at hk;omega):G:=h
theorem cT(h:G:=by simp at e):G:=h
theorem lM(h:G:=by rw[eF];omega):G:=h
theorem Tz(h:G:=by intro q u2 ep;match q,ep with|0,ep=>exact rK):G:=h
theorem Zgu(h:G:=by obtain⟨q,hq,hz⟩:=Z9.1 hz;exact Z9.2 ⟨q,gR hq,hz⟩):G:=h
theorem Gt(h:G:=by exact rV dx bT dy (J9 _ _ _ _ _ _) dG dD dn fV):G:=h
theorem ZpE(h:G:=by rw[U9 false HP.o,<-oJ];exact zo.o):G:=h
theorem uH(h:G:=by intro u2 wT;simp at wT;subst wT;rfl):G:=h
theorem ZpF(h:G:=by have h1:=Aa.o i q p wC ep;have h2:=h1.ext cJ (λk _ hk e=>Vh);have h3:=h2.ext oP (λk _ hk e=>Vh);exact h3.I (λk _ hk=>oI hk.1)):G:=h
theorem Gu(h:G:=by intro u hu;simp at hu;rcases hu with rfl|rfl<;>rfl):G:=h
theorem Cf(h:G:=by rw[<-hx,List.getElem_cons_drop,jB]):G:=h
theorem sW(h:G:=by simp at hv;exact⟨g',hv.1,j9 hh⟩):G:=h
theorem zq(h:G:=by show ¬w.heap.size=w1.heap.size;omega):G:=h
theorem pI(h:G:=by simp[Act.eval,Act.put]):G:=h
theorem TA(h:G:=by have:=(Da s.toList 0 []).ne;cases h:cr s.toList with|nil=>(exact absurd h this)|cons a b=>simp):G:=h
theorem Cg(h:G:=by have h1:i=w1.heap.size:=e;omega):G:=h
theorem Zcb(h:G:=by exact(Q8 _ _ (by show ¬w.heap.size+1=w.heap.size;omega)).z K1):G:=h
theorem Zcc(h:G:=by exact(Q8 _ _ (by show ¬w.heap.size+2=w.heap.size;omega)).z K2):G:=h
theorem zr(h:G:=by show w.heap.size<=w.heap.size+1+1;omega):G:=h
theorem Zgv(h:G:=by intro i hi;have n1:u i-u (keys T).length<=kz (keys T) (dw T A):=hV.gV i (keys T).length (oI hi) (cj _);have n2:u (keys T).length-u i<=kz (keys T) (dw T A):=hV.gV (keys T).length i (cj _) (oI hi);constructor<;>omega):G:=h
theorem sX(h:G:=by simp only[Z1,z8];simp[hx]):G:=h
theorem Mr(h:G:=by funext i;match i with|0=>{rfl}|1=>{rfl}|2=>{rfl}|3=>{rfl}|4=>rfl):G:=h
theorem mI(h:G:=by simpa using hq):G:=h
theorem Ch(h:G:=by exact(rr w).alloc _):G:=h
theorem sY(h:G:=by have:=gA.o;omega):G:=h
theorem uI(h:G:=by rw[fo.1 ho];decide):G:=h
theorem Zgx(h:G:=by exact(((((q9.refl (λk=>w.heap.size<=k/\k<V2.heap.size) w4).setCell (p:=(aD (w.heap.size+1) 0)) (λ_=>uo) _).setCell (p:=(aD (w.heap.size+1) 1)) (λ_=>uo) _).setCell (p:=(aD (w.heap.size+1) 2)) (λ_=>uo) _).setCell (p:=(aD (w.heap.size+1) 3)) (λ_=>uo) _)):G:=h
theorem lN(h:G:=by exact⟨rfl,rfl⟩):G:=h
theorem Zgy(h:G:=by rcases h.2 with⟨e0,_⟩|⟨g',kG,cur,hv,hg,hh,hn,hc,hs,ht⟩;{cases e0};cases hv;intro j hj;have hjs:j<cur.size:=by{rw[hs];have:=pP size hn;omega};refine⟨? _,Q9 hh j⟩;rw[z7 hh j,CJ hjs];rfl):G:=h
theorem xr(h:G:=by rw[<-hV];exact(rr wr).alloc _):G:=h
theorem ZpH(h:G:=by rw[js.o];refine⟨k,wd,v,sa,sn,sc,rfl,? _⟩;exact((vK.o.ext DG.o (λ_ _ _ f=>f)).ext (J9 _ _ _ _ _ _) (λq _ hq e=>by have h1:w1.heap.size<q:=hq;have h2:q=w.heap.size:=e;omega)).I (λq _ hq=>by have h1:w1.heap.size<q:=hq;show w.heap.size<=q;omega)):G:=h
theorem TD(h:G:=by by_cases h:cap=n;{exact⟨_,zC⟩};exact⟨_,by rw[bL h]⟩):G:=h
theorem TE(h:G:=by rcases cu with e|e;{exact λe3=>vY mb (e3▸e) rfl};have:=vX.o.lt;omega):G:=h
theorem rI(h:G:=by simp[Value.oneCell']):G:=h
theorem Zce(h:G:=by simp only[ByteArray.size_append'];have g1:(ByteArray.mk #[40]).size=1:=rfl;exact ZmN):G:=h
theorem Zgz(h:G:=by rcases h.own.2 with⟨e,e0⟩|⟨g,cap,cur,hv,_,hh,h1,h2,_⟩;{exact .inl ⟨e,e0⟩};refine .inr ⟨g,cap,hv,h1,ZdW,j9 hh,λq hq=>? _⟩;have h3:=h.own;rw[hv]at h3;exact h3.cellAt q hq):G:=h
theorem TG(h:G:=by rcases hF k e with e2|e2;{exact(h.dk k hk).2 e2};have:=(h.dk k hk).1;omega):G:=h
theorem nJ(h:G:=by simp at this;omega):G:=h
theorem ZgA(h:G:=by have h3:=(ck.1 hj).1;rw[c9.1]at h3;exact h3):G:=h
theorem TI(h:G:=by rw[uT hk,(ck.1 h).2]at e1;exact e1):G:=h
theorem ZgB(h:G:=by have:=iy.o q hd;omega):G:=h
theorem Gv(h:G:=by simp at hf;subst hf;exact hF):G:=h
theorem jA(h:G:=by assumption):G:=h
theorem ZgC(h:G:=by intro q u ep;match q,ep with|0,ep=>{exact rK}|1,ep=>{exact rK}|2,ep=>{exact rK}|3,ep=>exact rK):G:=h
theorem ZpI(h:G:=by rw[U9 true HP.o,<-oJ];exact zo):G:=h
theorem ZgD(h:G:=by show _<=_;have g1:=nU.o;have g2:=Dy.o.1;obtain⟨z0,z1,z2,z3,fz,hz,yd⟩:=Ac.o.form;have ez:fa=fz:=UW;have g3:=tC yd;rw[<-ez]at g3;omega):G:=h
theorem ZgE(h:G:=by split at h;{rename_i e1 p1 hr;simp at h;obtain⟨rfl,rfl⟩:=h;exact hg.1 _ _ hr};{rename_i nd hr;exact absurd (hg.2 _ _ hr).1 rM};split at h;{exact ga};simp at h;obtain⟨rfl,rfl⟩:=h;decide):G:=h
theorem TN(h:G:=by simp only[Addr.add];split;{rename_i h0;subst h0;exact h2};exact xD):G:=h
theorem Mt(h:G:=by have:=(il.o.lt g hg).1;omega):G:=h
theorem ZgF(h:G:=by obtain⟨h1,h2⟩:=hL f hf;rw[<-hn f hf];refine OD h1.ok (λx hx=>? _);have hxA:=h2 x hx;rw[qH9 h (λt _=>rfl) hw hxA];refine OC (λp hp=>? _);have Gn:=(h.ac x hxA).2 p hp;exact XH hg hc (h.tm Gn) Gn):G:=h
theorem TO(h:G:=by rintro q (rfl|⟨i,e⟩);{exact h.xh};exact(h.iC i q e).2):G:=h
theorem ZgG(h:G:=by rw[<-vJ];have h9:=zl3 (w:=(wb.setCell (aD w.heap.size 1) (.slice (sA wb.heap.size) 2 2)).setCell (aD w.heap.size 4) (.string F)) (Obj.cells #[pT ba,pT bb] 172);rw[Dz]at h9;exact h9):G:=h
theorem ZgH(h:G:=by intro n k hk hn;subst hk;rw[GP];simp only[fo];constructor;{intro e;exact Zmg};intro e;rw[e,UInt8.toNat_ofNat'];omega):G:=h
theorem ZgI(h:G:=by exact j8 (j8 il.o cJ (λg hg e=>ZdZ)) oP (λg hg e=>ZdZ)):G:=h
theorem xt(h:G:=by rw[fG];omega):G:=h
theorem ZgJ(h:G:=by simp only[Z1];exact CM _ hz):G:=h
theorem ZgK(h:G:=by obtain⟨a,b,c,rfl,ha,hb,hc⟩:=XA (R:=λnd=>∃v,nd=.mk 5 ByteArray.empty v []/\ -1000<=v/\v<=1000) hT hT (λts nd cA e=>Ig e) (ts:=us) hr;obtain⟨v,rfl,h1,h2⟩:=hc;exact .le hw ha hb h1 h2):G:=h
theorem Mu(h:G:=by show w.heap.size<=w.heap.size+1+1+1+1;omega):G:=h
theorem Gw(h:G:=by rw[<-hV];exact heap_alloc_new wr _):G:=h
theorem pJ(h:G:=by simpa using h):G:=h
theorem kH(h:G:=by simp[J6]):G:=h
theorem TP(h:G:=by exact World.ownsRow_made w #[] 0 (cf _) (cf _) rfl):G:=h
theorem TQ(h:G:=by first|(omega)|exact cf _):G:=h
theorem Zcf(h:G:=by cases h with|node h2 fU hl hn hD hk=>exact⟨rfl,rfl,rfl,⟨_,fU,hl,hn,hD,hk⟩⟩):G:=h
theorem ZgM(h:G:=by intro v0 v1 v2 v3 v4 v5;obtain⟨a,b,c,d,e,f,rfl⟩:∃a b c d e f,C=#[a,b,c,d,e,f]:=by{obtain⟨l⟩:=C;match l,hC with|[a,b,c,d,e,f],_=>exact⟨a,b,c,d,e,f,rfl⟩};rfl):G:=h
theorem Zcg(h:G:=by first|(rfl)|exact World.drewN_drewN _ _ _):G:=h
theorem Zci(h:G:=by exact⟨λe' p' h'=>Zml,λps cA h'=>uO⟩):G:=h
theorem uJ(h:G:=by simpa using eW):G:=h
theorem lO(h:G:=by simpa using this):G:=h
theorem ZgO(h:G:=by refine⟨none,0,by rw[hv,e0],λi x hx=>? _⟩;exact ZmP):G:=h
theorem TR(h:G:=by obtain⟨_,Zpz,_,_,kb9⟩:=hw.shape;exact Q9 kb9 j):G:=h
theorem Gx(h:G:=by show ¬w2.heap.size=c.rb;omega):G:=h
theorem Zcj(h:G:=by cases us with|nil=>(exact absurd rfl h1.ne)|cons u cS=>exact⟨u,cS,rfl⟩):G:=h
theorem ZgP(h:G:=by refine⟨j8 h.own hx h1,h.nd,h.ok,? _,h.sep⟩;rcases h.map with e|⟨mb,D,rfl,ho,hm⟩;{exact .inl e};exact .inr ⟨mb,D,rfl,J8 ho hx (h2 mb rfl),hm⟩):G:=h
theorem ZpK(h:G:=by have h1:=dB.o.2.2.2.1;have h2:=gA.o;have h3:=O9 true hp;rw[Rc qV.o,cO,<-gg.o.1 true]at h2;exact Vb):G:=h
theorem ZpL(h:G:=by have h1:=dB.2.2.2.1;have h2:=gA.o;have h3:=O9 false hp;rw[Re qV.o,cO,<-gg.o.1 false]at h2;exact Vb):G:=h
theorem Zck(h:G:=by intro p hp;have h1:=k8 hp;have:=(ck.1 h1).1;omega):G:=h
theorem ZpM(h:G:=by rcases Zgr.o q hq with e|e;{exact pG.o q e};exact .inr (dm HE.o.size e)):G:=h
theorem TU(h:G:=by intro w;have:=jn.o w;rw[dK]at this;exact dC):G:=h
theorem ZgS(h:G:=by intro f cX;simp at cX;rcases cX with rfl|rfl<;>first|(exact HF)|(exact HT)|exact λw ts hl hP=>ZdN):G:=h
theorem Zcl(h:G:=by intro q h1 h2 h3;rcases rq q h3 with e|e;{have:=ct q e;omega};omega):G:=h
theorem ZgT(h:G:=by have gN:=hm.no x hx (λhc=>mi hc.1);rw[atKey_of_not_has gN]at hv;obtain⟨a,rfl,e2,_⟩:=plainElem_int_inv underlying3 hv;simp at e2;rw[Ea,gN,<-e2.1]):G:=h
theorem Zcm(h:G:=by exact⟨0,x,cf _,rfl,q9.refl _ _,by simpa[cB]using H.o,λ_ hq=>.inl hq⟩):G:=h
theorem TX(h:G:=by show ¬w.heap.size+1+1+1=w.heap.size+1+1;omega):G:=h
theorem Ci(h:G:=by exact .inl (.inr (.inr (.inl e)))):G:=h
theorem Gy(h:G:=by show ¬w.heap.size=sb;omega):G:=h
theorem ZgU(h:G:=by refine up q p (h4.I (λk hk hD=>⟨hD.1,hD.2,? _⟩));intro e;rcases cu with e2|e2;{exact hD.2 (e2.symm.z e)};exact ZdY):G:=h
theorem ZgV(h:G:=by intro l;induction l with|nil=>(rfl)|cons a l ih=>simp only[CD,cO,mL,ih];simp[Z7.cells];omega):G:=h
theorem ZgW(h:G:=by intro l;induction l with|nil=>(rfl)|cons a l ih=>simp only[CD,cO,mL,ih];simp[U1.cells];omega):G:=h
theorem ZgX(h:G:=by rw[cO,jC,td]at this;exact dC):G:=h
theorem oF(h:G:=by simp[Y3]):G:=h
theorem TY(h:G:=by simp only[Tb.ek];rw[bL (λe=>hk e.2.2)]):G:=h
theorem xu(h:G:=by exact .inl (.inr (.inl e))):G:=h
theorem TZ(h:G:=by rcases cu with e|e;{exact fK g e};omega):G:=h
theorem ZgY(h:G:=by rw[cO,jC,td]at this;exact this.I (λe w' h=>⟨h.1,by rw[h.2];exact cJ.drew,by rw[h.2];rfl⟩)):G:=h
theorem T0(h:G:=by exact⟨0,cf _,rfl,cw,by rw[zF1];exact rm⟩):G:=h
theorem T3(h:G:=by simp[Value.ownBlock]at hk;have:=y6.o;omega):G:=h
theorem Mx(h:G:=by exact⟨rfl,((rr w).drewN _).z hx,hr⟩):G:=h
theorem xv(h:G:=by rw[hl];omega):G:=h
theorem Zcn(h:G:=by have h1:w1.heap.size<=k:=hk;simp at jI;exact Vj):G:=h
theorem ZgZ(h:G:=by rw[(hm.yes i x hi dQ).1]at hv;obtain⟨a,rfl,e2,_⟩:=plainElem_int_inv underlying3 hv;simp at e2;rw[Ea,(hm.yes i x hi dQ).2,e2.1]):G:=h
theorem Zha(h:G:=by intro v0 v1 v2;obtain⟨a,b,c,rfl⟩:∃a b c,D=#[a,b,c]:=by{obtain⟨l⟩:=D;match l,hD with|[a,b,c],_=>exact⟨a,b,c,rfl⟩};rfl):G:=h
theorem T4(h:G:=by show ¬w.heap.size+3=w.heap.size+1+1;omega):G:=h
theorem mJ(h:G:=by congr 1;omega):G:=h
theorem xw(h:G:=by unfold mx;omega):G:=h
theorem xx(h:G:=by rename_i e;subst e;decide):G:=h
theorem uK(h:G:=by simpa using h1):G:=h
theorem zt(h:G:=by rw[e,e0]):G:=h
theorem T5(h:G:=by rw[<-CF,jB]):G:=h
theorem T6(h:G:=by show w.heap.size<=w.heap.size+1+1+1;omega):G:=h
theorem Zhb(h:G:=by refine((h.ext.z' (hx.M) (λ_ _ e=>e)).z' hE (λq hq e=>? _)).z' lW (λq hq e=>? _);{rcases rq q e with e|e;{exact e};omega};omega):G:=h
theorem Zhc(h:G:=by have:=iy q hd;omega):G:=h
theorem Gz(h:G:=by rw[AP.o];exact(h4 e).1):G:=h
theorem Zco(h:G:=by simp only[mL,cO];omega):G:=h
theorem T7(h:G:=by rw[<-eC];exact((rr w).alloc _).drewN nq):G:=h
theorem rJ(h:G:=by exact .inl (.inl e)):G:=h
theorem Zhd(h:G:=by have h2:z8 t qs=z8 t (qs.take (j+1))++z8 t (qs.drop (j+1)):=by{rw[<-Hj,jB]};rw[h2,h1];simp only[cO];omega):G:=h
theorem Zcp(h:G:=by intro m;have:=VX t.bI (h.drewN m);rw[ha]at this;exact dC):G:=h
theorem Cj(h:G:=by have:=pZ _ e;omega):G:=h
theorem ZpN(h:G:=by rw[nR.o];exact⟨sF.1.alloc _,sF.2.1.alloc _,sF.2.2⟩):G:=h
theorem Zhe(h:G:=by rw[Rc qV.o];exact h1):G:=h
theorem Zhf(h:G:=by intro l;induction l with|nil=>(rfl)|cons a l ih=>simp only[CD,cO];simp at ih⊢;omega):G:=h
theorem Zhg(h:G:=by rw[zK4 HY.out,ql.out,CQ];exact⟨nI.out.ext.drewN _,nI.out.row.ext ((q9.refl (λ_=>False) wr).drewN _) (λ_ _ f=>f)⟩):G:=h
theorem mK(h:G:=by simpa using e):G:=h
theorem Zhh(h:G:=by have h1:=hl q (List.mem_of_mem_erase hq);have h2:q≠M:=λe=>by{subst e;exact(List.Nodup.not_mem_erase hn) hq};omega):G:=h
theorem My(h:G:=by cases e;exact⟨_,AT,rfl⟩):G:=h
theorem T8(h:G:=by show ¬wb.heap.size=w.heap.size;omega):G:=h
theorem Zcq(h:G:=by have:=zT1 hx mz (hs v hv hh);rw[gY]at this;exact dC):G:=h
theorem Zcr(h:G:=by have:=qg2 hx mz (hs v hv hh);rw[gY]at this;exact dC):G:=h
theorem ZpO(h:G:=by rw[show w.heap.size+2=(w.alloc (.cells #[u64 s.a,u64 s.b,u64 s.c] 197)).heap.size+1 by simp];exact heap_alloc2_new (w.alloc _) _ _):G:=h
theorem Mz(h:G:=by cases e;exact⟨_,hK,rfl⟩):G:=h
theorem MA(h:G:=by simpa using cu):G:=h
theorem Zhi(h:G:=by intro p hp;obtain⟨q,hq,rfl⟩:=dP.1 hp;exact⟨h.fw q hq,λx hx=>(h.st.aw.mem x).2 ⟨q,hq,hx⟩⟩):G:=h
theorem T9(h:G:=by simp at cX;subst cX;exact z7 nW 0):G:=h
theorem Zhj(h:G:=by rw[e,s7 ZmM,cZ ZmM]):G:=h
theorem Zhk(h:G:=by unfold gI;split;{exact MR};split;{exact MR};split<;>(rw[decide_eq_decide];omega)):G:=h
theorem zu(h:G:=by simp at hn;omega):G:=h
theorem Ua(h:G:=by rcases hw with hw|hw<;>(rw[hw];decide)):G:=h
theorem Ub(h:G:=by simp[Value.ownBlock]at hk;subst hk;exact cu):G:=h
theorem Zhl(h:G:=by intro e;have:=hz (by rw[List.head?_append,e];rfl);cases q with|nil=>(exact xS rfl)|cons a b=>simp at this):G:=h
theorem Zhm(h:G:=by intro f cX;simp at cX;rcases cX with rfl|rfl<;>first|(exact zW)|(exact Af)|exact C6 5 (Or.inr rfl)):G:=h
theorem Zhn(h:G:=by exact(e1.z' h2 (λ_ _ e=>.inl e)).z' h3 (λk hk e=>by subst e;rcases IL with e2|e2;{exact .inr (.inr e2)};omega)):G:=h
theorem MB(h:G:=by show _<=_;simp only;omega):G:=h
theorem ie(h:G:=by simp at this):G:=h
theorem Zct(h:G:=by simp only[OZ,hf,Bool.and_self,if_true,hc,hd,hl,GZ]):G:=h
theorem Zho(h:G:=by rw[<-vJ];exact((((q9.refl (·=w.heap.size) wb).sc w.heap.size 1 _).sc w.heap.size 4 _).alloc _).drew):G:=h
theorem Zhp(h:G:=by rcases c9.2 with⟨_,e⟩|⟨g,cap,cur,hv,hg,_⟩;{omega};exact⟨g,cap,hv,by simp at hg;omega⟩):G:=h
theorem Zhq(h:G:=by rintro g hg (e|e|e);{exact h.ts.s2 g hg e};{exact(h.ap g (.inr (.inr hg))).1 e};exact(h.ap g (.inr (.inr hg))).2 e):G:=h
theorem zv(h:G:=by rw[hn];decide):G:=h
theorem GA(h:G:=by simpa using eK):G:=h
theorem MC(h:G:=by show _=_;rw[X1,X9];simp):G:=h
theorem Zcx(h:G:=by simp only[ef];rw[bL (by rw[DV.o];decide)]):G:=h
theorem MD(h:G:=by exact⟨0,cf _,rfl,rfl⟩):G:=h
theorem Zcy(h:G:=by rw[xI];exact h.nd.sublist (GX _ _)):G:=h
theorem Zcz(h:G:=by have:=HX.o.size;have:=jn.o.size;have:=HB.o.2;omega):G:=h
theorem Zht(h:G:=by rw[<-vJ];exact(Below.heap_alloc _ _ _ (by rw[Dz];exact vH)).z (X6 (X6 WL.o 1 _) 4 _)):G:=h
theorem ZcA(h:G:=by have:=(ck.1 hj).1;omega):G:=h
theorem ZcB(h:G:=by rw[heap_alloc_old _ _ (by simpa using Ei)];exact X6 K0 0 _):G:=h
theorem Zhu(h:G:=by rw[vV hn];intro k hk;rcases da.1 hk with hk|hk;{exact h.ok k hk};simp at hk;subst hk;exact hx):G:=h
theorem ZcD(h:G:=by intro u hu;simp at hu;rcases hu with rfl|rfl|rfl|rfl<;>rfl):G:=h
theorem Zhv(h:G:=by intro x hx;rcases da.1 hx with hx|hx;{exact h.ok x hx};simp at hx;subst hx;exact⟨Ob,Yb⟩):G:=h
theorem ME(h:G:=by exact .inl (.inr (.inr (.inr e)))):G:=h
theorem xy(h:G:=by simpa using c9):G:=h
theorem ZpP(h:G:=by rw[H8 HF.o,da]at hy;rcases hy with hy|hy;{exact H2 y hy};simp at hy;subst hy;rw[wS.o];decide):G:=h
theorem Ud(h:G:=by rw[<-hW];exact Cr):G:=h
theorem uL(h:G:=by rw[e];rfl):G:=h
theorem MF(h:G:=by have:=cw.o.size;omega):G:=h
theorem Zhw(h:G:=by show ¬tb=w1.heap.size;omega):G:=h
theorem Ue(h:G:=by have:=(H.own.lt _ e).2;omega):G:=h
theorem Zhx(h:G:=by exact((hE.I (λ_ _ e=>.inr (.inr e))).z' hx (λ_ _ e=>.inr (.inl e))).z' hW (λ_ _ e=>.inl e)):G:=h
theorem Uf(h:G:=by rw[e2]at e;exact absurd e (by simp[dA])):G:=h
theorem Ug(h:G:=by simp[Value.ownBlock]at hq;omega):G:=h
theorem Uh(h:G:=by have:=(uG _ e.symm).1;omega):G:=h
theorem ZcE(h:G:=by rw[WM.o]at hy;simp at hy;exact hy.2.2.2.2):G:=h
theorem ZcF(h:G:=by show ¬w.heap.size+1=w.heap.size+1+1;omega):G:=h
theorem Zhy(h:G:=by obtain⟨ct,e⟩:=ck.1 hj;rw[uT ct,e]):G:=h
theorem Zhz(h:G:=by rcases c9.2 with⟨_,e⟩|⟨g,cap,cur,hv,hg,_⟩;{omega};exact⟨g,cap,hv,hg⟩):G:=h
theorem ZhB(h:G:=by cases hq:(Y6 l).all U5 with|true=>(rfl)|false=>exact absurd (Or.inr (Or.inl hq)) hc):G:=h
theorem ZhC(h:G:=by intro w;have:=jn.o w;rw[dK]at this;exact this.I (λe w' h=>⟨h.1,h.2.symm⟩)):G:=h
theorem ZhD(h:G:=by rcases c9.2 with⟨_,e⟩|⟨g,cap,cur,hv,hg,_,hc,_⟩;{omega};exact zB):G:=h
theorem zw(h:G:=by simp[Z1,Y3]):G:=h
theorem MG(h:G:=by rintro rfl;exact ga):G:=h
theorem ZhE(h:G:=by rcases hi.2 with⟨e,_⟩|⟨g,kG,cur,hv,_,_,h1,_⟩;{cases e};exact zB):G:=h
theorem Ui(h:G:=by simpa[Value.cells]using xg):G:=h
theorem ZcH(h:G:=by rw[(Cw.1 hv).2];exact HF):G:=h
theorem ZcI(h:G:=by rw[GP];simp[BitVec.getLsbD_twoPow];omega):G:=h
theorem uM(h:G:=by simp[Z8]):G:=h
theorem Ck(h:G:=by simpa using hx):G:=h
theorem Uj(h:G:=by rw[IntKind.wrap_i64];omega):G:=h
theorem ZhF(h:G:=by show ¬0=w.heap.size;have:=hr.Df;omega):G:=h
theorem Cm(h:G:=by simp[intOf]<;>omega):G:=h
theorem ZhG(h:G:=by intro k hk h1 e;rcases cu k e with e2|e2;{exact h1 e2};have:=ct k hk;omega):G:=h
theorem ZhH(h:G:=by apply Array.ext;{simp[madeCells]};intro i h1 h2;simp[madeCells,Nat.mod_one]):G:=h
theorem ZhI(h:G:=by have h1:=lh.o.ext ds.o (λ_ _ f=>f);unfold SR at h1;rw[qB.o]at h1;exact h1):G:=h
theorem ZhJ(h:G:=by rcases o7.2 with⟨_,e⟩|⟨g1,c1,cur,hv,_⟩;{omega};exact⟨g1,c1,hv⟩):G:=h
theorem ZhK(h:G:=by cases ts with|nil=>(exact absurd rfl h.wf.ne)|cons t us=>exact⟨t,us,rfl⟩):G:=h
theorem ZcJ(h:G:=by exact absurd (e1.z e2.symm) (IW _ _ hi hj ct)):G:=h
theorem ZcK(h:G:=by exact absurd (e2.z e1.symm) (IW _ _ hj hi yA)):G:=h
theorem ZhL(h:G:=by exact⟨m,by simp[hm],λx hx=>by rcases oH.1 hx with rfl|hx;omega;exact hle x hx⟩):G:=h
theorem GC(h:G:=by have:=hd.1;omega):G:=h
theorem ZcL(h:G:=by simp[Value.ownBlock]at e;exact e.symm):G:=h
theorem pK(h:G:=by split<;>omega):G:=h
theorem Uk(h:G:=by show _=_;rw[X9];exact hq):G:=h
theorem Ul(h:G:=by have:j<(n-m)*4:=hj;omega):G:=h
theorem ZhM(h:G:=by rw[e];refine h2.ext lW (λq hq e=>? _);rcases hf q hq with h|h;{have:=ct q h;omega};omega):G:=h
theorem ZhN(h:G:=by rw[Re qV.o];exact h1):G:=h
theorem ZcN(h:G:=by simp at cX;subst cX;exact z7 nW 1):G:=h
theorem ZhO(h:G:=by intro t hm;rcases da.1 hm with e|e;{exact h.AI t e};simp at e;subst e;omega):G:=h
theorem ZpQ(h:G:=by rw[heap_alloc_old _ _ mf];exact EU):G:=h
theorem ZhQ(h:G:=by rw[M3.CV]at hk;rcases Bool.or_eq_true _ _▸hk with e|e;{exact h1 k e};exact h2 k e):G:=h
theorem Um(h:G:=by rw[ByteArray.toList_eq]):G:=h
theorem ZhR(h:G:=by rw[show As.length=(H6 As).length by simp[H6],lS];exact hx):G:=h
theorem ZcP(h:G:=by rw[<-rA];exact xC):G:=h
theorem Un(h:G:=by exact h.fb k (.inr (.inr (.inl e)))):G:=h
theorem ZpS(h:G:=by rw[hl];exact J8 (J8 ho hx (λe=>h.sep mb e (by rw[e1];rfl))) hW (gH mb (by rw[e1];rfl))):G:=h
theorem ZhT(h:G:=by exact⟨0,cf _,rfl,X,H,q9.refl _ _,Ar.fJ.refl HI,λ_ x hx=>by simp at hx⟩):G:=h
theorem ZcQ(h:G:=by show ¬k=w.heap.size+1+1+1+1;omega):G:=h
theorem ZhU(h:G:=by simp[Value.ownBlock]at hk;subst hk;exact cu.imp (λe=>e) (λe=>dm h0.size e)):G:=h
theorem Uo(h:G:=by show w.heap.size<=k;omega):G:=h
theorem ZhV(h:G:=by rw[<-hW];exact xC):G:=h
theorem ZhW(h:G:=by rcases ql.o k hq with e|e;{exact oj k hd e};exact Vi):G:=h
theorem ZhX(h:G:=by rw[hj]at hc;simp only[Addr.add];split;{rename_i h0;subst h0;exact hc};simpa using hc):G:=h
theorem Up(h:G:=by simp at hq;subst hq;exact MV):G:=h
theorem ZcR(h:G:=by rw[eF,hP.len];omega):G:=h
theorem ZcS(h:G:=by exact⟨0,cf _,rfl,rfl,q9.refl _ _⟩):G:=h
theorem ZhY(h:G:=by intro p hp;simp at hp;rcases hp with rfl|rfl;{exact ha};exact hb):G:=h
theorem Uq(h:G:=by have:=HV.o.size;omega):G:=h
theorem ZhZ(h:G:=by have h1:=hl q hq;have h2:q≠M:=λe=>by{subst e;exact hm hq};omega):G:=h
theorem ZcT(h:G:=by have h1:i=b1:=e;omega):G:=h
theorem Zia(h:G:=by simp only[Z1];exact CM _ (Z9.2 ⟨p,gz,hx⟩)):G:=h
theorem GD(h:G:=by simp[po,J6]):G:=h
theorem Zib(h:G:=by rw[e2]at e;simp[dA]at e;subst e;obtain⟨es,cl,h5,_⟩:=ho;rw[hc]at h5;simp at h5):G:=h
theorem Zic(h:G:=by rcases oH.1 hx with rfl|hx;omega;have:=hle x hx;omega):G:=h
theorem Zid(h:G:=by exact World.news_of_block (cs:=#[kp b]) (t:=172) (fr:=(0,0)) (heap_alloc_new w4 _)):G:=h
theorem xz(h:G:=by simp at h1;omega):G:=h
theorem ZcU(h:G:=by rw[Er HZ.o];exact(pg.o rfl).1):G:=h
theorem MH(h:G:=by rw[H7];exact hT):G:=h
theorem Zie(h:G:=by rw[eF,jR hn];exact j8 this hx (λk hk=>gN k (Fe hk))):G:=h
theorem zx(h:G:=by simp[Z4]):G:=h
theorem Zif(h:G:=by rw[WX.o];exact tF dx bT dy (PN.leaf 0 0 _) (J9 _ _ _ _ _ _) dG dD dn fV):G:=h
theorem Zig(h:G:=by simp[Z1,z8,Y3]at hx;rcases hx with hx|hx;{exact XE ha x hx};exact XE hb x hx):G:=h
theorem Zih(h:G:=by exact HX.z' (zV _ _ _ _ _) (λi hi e=>by have h1:i=w.heap.size+2:=e;omega)):G:=h
theorem ZcV(h:G:=by show ¬wb.heap.size=c.rb;omega):G:=h
theorem ZcW(h:G:=by rw[Int.toNat_natCast,HN.o];rfl):G:=h
theorem Zii(h:G:=by exact(lW.block _ (j9 kn) (by show ¬w.heap.size=w.heap.size+1;omega)).z kn):G:=h
theorem Zij(h:G:=by exact xM _ (by intro f hf;simp at hf;subst hf;exact ih (d+1)) us ps vs tu hr):G:=h
theorem ZcX(h:G:=by simp at hu;rcases hu with rfl|rfl|rfl<;>rfl):G:=h
theorem Zik(h:G:=by rcases da.1 hy with e|e;{exact HZ y e};simp at e;rw[e];exact HX):G:=h
theorem Ur(h:G:=by simp[World.setCell]):G:=h
theorem MI(h:G:=by simp[U5];omega):G:=h
theorem MJ(h:G:=by simpa using hm):G:=h
theorem ZcY(h:G:=by rw[List.length_drop,Z6];omega):G:=h
theorem Us(h:G:=by have:=p4 _ e;omega):G:=h
theorem Zil(h:G:=by have:=(mN.o.lt g hg).1;omega):G:=h
theorem Zim(h:G:=by show ¬c.sb=w.heap.size;omega):G:=h
theorem lP(h:G:=by simp[intOf]):G:=h
theorem ZcZ(h:G:=by rw[jI];simp at xX⊢;omega):G:=h
theorem Zin(h:G:=by show tb<W.heap.size;omega):G:=h
theorem Zdb(h:G:=by simp only[mo,M3.none_or];rfl):G:=h
theorem MK(h:G:=by simpa using hj):G:=h
theorem Zdc(h:G:=by rw[lS];exact hx):G:=h
theorem Ut(h:G:=by have:=fO.o.size;omega):G:=h
theorem Zio(h:G:=by rw[nC,fH,h,zM];simp[nC,hf]):G:=h
theorem Ziq(h:G:=by rw[lk,fH,h,zM];simp[lk,hf]):G:=h
theorem Zir(h:G:=by exact tF dx.o bT.o dy.o (qz7 WQ.o) (J9 _ _ _ _ _ _) dG dD dn fV.o):G:=h
theorem Zis(h:G:=by exact(vq.z bT).z ((rr w2).setCell (p:=(aD b 1)) (λ_=>.inl rfl) _)):G:=h
theorem Zdd(h:G:=by have h2:=zF7 true HP;have h3:=gA.o;omega):G:=h
theorem Zde(h:G:=by exact⟨0,cf _,rfl,q9.refl _ _⟩):G:=h
theorem Zdf(h:G:=by exact h.fb k (.inr (.inr (.inr (.inl e))))):G:=h
theorem ZpT(h:G:=by rw[Hn,cO,cO];exact gS):G:=h
theorem Zdg(h:G:=by simp only[J5,NX.o,p7];rfl):G:=h
theorem ML(h:G:=by simpa using ho):G:=h
theorem Zit(h:G:=by have h2:M=j:=by{have h1:=tD.o;omega};rw[h2];exact nV.o):G:=h
theorem Cn(h:G:=by exact cj _):G:=h
theorem Zdh(h:G:=by refine e.z ? _;simp[tS,CK.cells,HA.o]):G:=h
theorem Ziu(h:G:=by simp[hq]at h';obtain⟨rfl,rfl⟩:=h';exact h2.1 _ _ hq):G:=h
theorem Ziv(h:G:=by show _=_;rw[qT,Z5,U0,bL hq];unfold zT;split<;>rfl):G:=h
theorem Ziw(h:G:=by exact⟨λz=>atKey_put_same hD.isMap hk _ z,has_put_same hD.isMap hk _⟩):G:=h
theorem GF(h:G:=by rw[hv];rfl):G:=h
theorem Zix(h:G:=by intro f cX;simp at cX;rcases cX with rfl|rfl<;>simp):G:=h
theorem Ziy(h:G:=by rcases hk with hk|hk;{exact(hF k hk).imp .inl id};exact .inl (.inr hk)):G:=h
theorem ZiA(h:G:=by injection e with e1 e2;injection e2 with e3 e4;rw[e3]):G:=h
theorem ZiB(h:G:=by rw[(Cw.1 hg).2];exact Nf c.N n (d+1)):G:=h
theorem Uu(h:G:=by have:=vI.o;omega):G:=h
theorem ZiC(h:G:=by rw[c9.cellAt j h2];exact hj):G:=h
theorem Uv(h:G:=by rw[js.o];exact⟨rfl,eW⟩):G:=h
theorem Uw(h:G:=by have:=z.2.1;omega):G:=h
theorem Ux(h:G:=by have:=z.2.2;omega):G:=h
theorem ZiD(h:G:=by simp only[Z1];exact CM _ (Z9.2 ⟨p,J' p hp,hz⟩)):G:=h
theorem ZiE(h:G:=by simp at h';obtain⟨rfl,rfl⟩:=h';exact hf.1 _ _ hr):G:=h
theorem ZiF(h:G:=by have h1:W.heap.size<=q:=hq;show w1.heap.size<q;omega):G:=h
theorem ZiG(h:G:=by rw[cO];have:=h.len;have:=k.len;omega):G:=h
theorem ZiH(h:G:=by exact⟨v,⟨hv.1,λd hd=>hv.2 d (s8 _ hd)⟩,ht⟩):G:=h
theorem Uy(h:G:=by simp at hl;omega):G:=h
theorem Uz(h:G:=by exact(bT.o.drewN _).drewN _):G:=h
theorem ZiI(h:G:=by obtain⟨a,b,rfl,ha,hb⟩:=Ie hT hT (ts:=us) hr;exact .two hw ha hb):G:=h
theorem Zdi(h:G:=by have:=oe.o.size;omega):G:=h
theorem ZpU(h:G:=by rw[show n+(K.length-n)=K.length by omega];exact HO):G:=h
theorem ZiJ(h:G:=by simp[X2]at hp;rcases hp with rfl|rfl;{exact .inl ha};exact .inl hb):G:=h
theorem UA(h:G:=by exact h.fb k (.inr (.inl e))):G:=h
theorem ZiK(h:G:=by have h5:w.heap.size<k:=hk;have h6:k=c.rb:=e;omega):G:=h
theorem ZpV(h:G:=by exact(HN.ext cw eU id).ext eL (by show nb<w1.heap.size;omega) id):G:=h
theorem ZiL(h:G:=by rw[<-fW];exact(q9.refl (λk=>k=sb) w2).sc sb 1 _):G:=h
theorem ZiM(h:G:=by rw[<-fW];exact(q9.refl (λk=>k=sb) w2).sc sb 3 _):G:=h
theorem ZpX(h:G:=by rw[U9 true HP.o,<-oJ];exact zo.o):G:=h
theorem ZpY(h:G:=by rw[ei hi]at hz;exact hr c z (hk i c z hc hz)):G:=h
theorem Zdj(h:G:=by rw[gg.o false];exact hz):G:=h
theorem Zdk(h:G:=by have:=eU _ e.symm;omega):G:=h
theorem ZiP(h:G:=by have h1:=lA q hq;have h2:q=w.heap.size:=e;omega):G:=h
theorem ZiQ(h:G:=by exact(h1.I (λk _ hk=>Or.inr hk)).z' hW (λi _ e=>Or.inl e)):G:=h
theorem ZiR(h:G:=by exact⟨_,by rw[bL h],λ_=>rfl⟩):G:=h
theorem Zdl(h:G:=by have:=G9 hm;omega):G:=h
theorem ZpZ(h:G:=by rw[U9 false HP.o,<-oJ];exact zo):G:=h
theorem ZiT(h:G:=by first|(exact(rr w).drewN _)|exact((rr w).drewN _).drewN _):G:=h
theorem ZiU(h:G:=by rcases S0 with⟨rfl,rfl⟩|⟨rfl,rfl⟩<;>rfl):G:=h
theorem UB(h:G:=by simpa using xP):G:=h
theorem ZiV(h:G:=by intro w;have:=tE.o w;rw[nO]at this;exact dC):G:=h
theorem UC(h:G:=by have:=Dy.o.1;omega):G:=h
theorem ZiW(h:G:=by intro j hj;rw[hv]at c9;exact c9.cellAt j hj):G:=h
theorem ZiX(h:G:=by have:=hh j hj;rw[qZ8,HA.app (by rw[qZ7];omega)]at this;exact dC):G:=h
theorem Zdm(h:G:=by simp[Value.oneCell',kp]):G:=h
theorem Zdn(h:G:=by have:=h2.2.2 k hk;omega):G:=h
theorem Zdo(h:G:=by rw[gg.o true];exact hz):G:=h
theorem Zja(h:G:=by exact rV dx bT dy ((J9 _ _ _ _ _ _).alloc _) dG dD dn fV):G:=h
theorem Zjb(h:G:=by have:=mQ.o;simp only[p5]at this;exact dC):G:=h
theorem Zjc(h:G:=by simpa using Z9.2 ⟨q,hq,ih q hq x hx p gz⟩):G:=h
theorem Zjd(h:G:=by rw[hl];exact j8 c9 hW (λk hk=>by rw[km]at hk;exact fu k hk)):G:=h
theorem Zje(h:G:=by show ¬w.heap.size+1+1=w.heap.size+1+1+1;omega):G:=h
theorem GG(h:G:=by simp only[y8];omega):G:=h
theorem Zqa(h:G:=by have h1:g=w.heap.size:=e;have:=Wl g hg;omega):G:=h
theorem Zqb(h:G:=by intro g hg;have:=(hN.own.lt g hg).2;show ¬g=w1.heap.size;omega):G:=h
theorem Zjf(h:G:=by rcases cu with e|e;{exact h.sep g e};omega):G:=h
theorem Zdp(h:G:=by rw[ZU HL.o];exact ct):G:=h
theorem Zjg(h:G:=by show numOf TK j=_;unfold numOf;rw[h];simp[hx]):G:=h
theorem Zjh(h:G:=by have FC:=hG.z h6;exact⟨⟨FC.1,nv,xs4,h5,FC.2⟩,h4⟩):G:=h
theorem Zji(h:G:=by rw[pw]at wW;simp at wW;exact wW.1.symm):G:=h
theorem GH(h:G:=by simp[hy]):G:=h
theorem Zjj(h:G:=by exact rV dx.o bT.o dy.o (J9 _ _ _ _ _ _) dG dD dn fV.o):G:=h
theorem Zjk(h:G:=by rw[vV hn];refine .inr ⟨mb,_,rfl,? _,D9⟩;simpa using YE):G:=h
theorem UE(h:G:=by simpa using hl):G:=h
theorem Zjl(h:G:=by rw[eF,e];have:=pP 681 h4;omega):G:=h
theorem Zjm(h:G:=by show ¬w.heap.size+2=w.heap.size+1+1+1;omega):G:=h
theorem Zjn(h:G:=by rw[<-hZ];simp[zeroValue,typeInfo,hi,cQ];rfl):G:=h
theorem Zjo(h:G:=by subst e;have:=h.bP;rw[h1]at this;simp at this;exact n1 this.2):G:=h
theorem UF(h:G:=by exact⟨rfl,q9.refl _ _⟩):G:=h
theorem Zjp(h:G:=by simp at h';obtain⟨rfl,rfl⟩:=h';exact he):G:=h
theorem Zjq(h:G:=by exact⟨rfl,(((rr w).drewN _).z hx).drewN _,hr.drewN _⟩):G:=h
theorem Zjr(h:G:=by have h1:=lA q hq;show w.heap.size<=q;omega):G:=h
theorem Zjs(h:G:=by show _=_;rw[iN,bO rfl,bL yu,hr]):G:=h
theorem Zjt(h:G:=by constructor;{exact .inl};rintro(h'|rfl);{exact h'};exact h):G:=h
theorem Zjv(h:G:=by first|(exact q9.refl _ _)|exact(rr _).drew):G:=h
theorem UG(h:G:=by simp[hq]at h'):G:=h
theorem Zqc(h:G:=by exact⟨_,cap,hv,h1,h2⟩):G:=h
theorem UH(h:G:=by exact heap_alloc_new w2 _):G:=h
theorem UI(h:G:=by have:=dY.o.size;omega):G:=h
theorem MM(h:G:=by simpa using hk):G:=h
theorem Zjw(h:G:=by rw[<-e];exact bZ hi):G:=h
theorem Zjx(h:G:=by have h1:=Wv.o;rw[jq.o]at h1;exact h1):G:=h
theorem Zjy(h:G:=by intro k hk e;simp[Value.ownBlock]at hk;simp[dA]at e;omega):G:=h
theorem Zdq(h:G:=by exact X6 (X6 (X6 K5 1 _) 2 _) 3 _):G:=h
theorem Zjz(h:G:=by rw[fH,hp];exact XF T _ p):G:=h
theorem Zqd(h:G:=by rw[Ly HP.o,Ly HP.o];exact tQ.o):G:=h
theorem ZjA(h:G:=by rw[tq];exact λx hx=>h x (by simp[hx])):G:=h
theorem ZjB(h:G:=by intro f hf;simp at hf;subst hf;exact hT):G:=h
theorem ZjC(h:G:=by have h1:=pZ _ e;have:=fV.o g hg;omega):G:=h
theorem ZjD(h:G:=by have:=mQ.o;rw[p5]at this;exact dC):G:=h
theorem GI(h:G:=by simp at hk;omega):G:=h
theorem Zdr(h:G:=by rw[cO];omega):G:=h
theorem pL(h:G:=by simp[dh]):G:=h
theorem ZjE(h:G:=by simp at he;rcases he with rfl|rfl<;>simp<;>omega):G:=h
theorem UJ(h:G:=by rw[Z6];omega):G:=h
theorem Zqe(h:G:=by rw[Hn,cO];exact gS):G:=h
theorem ZjF(h:G:=by simp only[z8,cO,h3,k3]):G:=h
theorem UK(h:G:=by exact heap_alloc_new _ _):G:=h
theorem ZjG(h:G:=by obtain⟨n1,n2⟩:=F5.o.news hn;rw[n2];exact HQ.o n1 y e):G:=h
theorem ZjH(h:G:=by rcases h with rfl|rfl|rfl|rfl<;>decide):G:=h
theorem ZjI(h:G:=by simp only[ef];rw[bO Sl.o,vO hy]):G:=h
theorem ZjJ(h:G:=by simp only[ef];rw[bO Sl.o,vP hy]):G:=h
theorem Zqf(h:G:=by show(cr s.toList).length<=601;omega):G:=h
theorem ZjL(h:G:=by intro c hc;simp at hc;subst hc;decide):G:=h
theorem ZjM(h:G:=by rw[fH,hp,Hj];simp[z8]):G:=h
theorem Zdt(h:G:=by rw[sE.o];exact hn):G:=h
theorem Zqg(h:G:=by exact s8 _ (tg.2 rfl)):G:=h
theorem Zdu(h:G:=by have:=bT.o.size;omega):G:=h
theorem ZjN(h:G:=by have:=(ck.1 e).1;omega):G:=h
theorem ZjP(h:G:=by rw[fH,h,Hj];simp[z8]):G:=h
theorem Zdv(h:G:=by have:=ds.o.size;omega):G:=h
theorem ZjQ(h:G:=by intro u2 wT;simp at wT;rcases wT with rfl|rfl<;>rfl):G:=h
theorem Zqh(h:G:=by rename_i h0;subst h0;exact dC):G:=h
theorem ZjS(h:G:=by have:=HA.o;rw[hw]at this;exact dC):G:=h
theorem Zdw(h:G:=by have:=lY.o;omega):G:=h
theorem ZjT(h:G:=by have h2:=lY.o;have h3:=nU.o;omega):G:=h
theorem ZjU(h:G:=by simp only[ByteArray.size_append'];simp at g1⊢;omega):G:=h
theorem UL(h:G:=by simp at cX):G:=h
theorem ZjV(h:G:=by exact HT.ext eL mU id):G:=h
theorem ZjW(h:G:=by simp only[z8,da,h2,k2]):G:=h
theorem ZjX(h:G:=by show _=_;unfold U2;rw[bL hs,hr]):G:=h
theorem ZjY(h:G:=by exact(h3.block sb (j9 kW) (λe=>IK e.symm)).z kW):G:=h
theorem ZjZ(h:G:=by rcases k3 k hk with h|h;{have:=ct k h;omega};omega):G:=h
theorem Zka(h:G:=by rw[<-eC];exact heap_alloc_new wr _):G:=h
theorem Zkc(h:G:=by rw[h3]at e;rw[eI e]at xP;exact xP rfl):G:=h
theorem MN(h:G:=by rw[e];simp):G:=h
theorem Zkd(h:G:=by simp[Value.ownBlock]at hk;subst hk;exact⟨cur,hh⟩):G:=h
theorem Zke(h:G:=by simp only[J5,NX.o,Xa.o,ew];rfl):G:=h
theorem Zkf(h:G:=by rcases h with rfl|rfl|rfl<;>decide):G:=h
theorem Zdx(h:G:=by exact⟨_,cap,hv⟩):G:=h
theorem Zkg(h:G:=by show _<=_;simp[gZ,eB,Qa];omega):G:=h
theorem Zqj(h:G:=by exact⟨g,u,rfl,j9 hh,by rw[hc,hu],h4 i u l hu hl⟩):G:=h
theorem Zkh(h:G:=by exact⟨iT u l this.1,λk hk=>hD k (this.2 k hk)⟩):G:=h
theorem Zki(h:G:=by rintro e w' ⟨rfl,rfl⟩;exact⟨rfl,cW.same h0⟩):G:=h
theorem Zdy(h:G:=by rw[tE.o];decide):G:=h
theorem Zqk(h:G:=by intro a ha b hb e;simp at hb;subst hb e;exact hn ha):G:=h
theorem Zkj(h:G:=by simpa[Value.ownBlock]using e.symm):G:=h
theorem Zkk(h:G:=by rw[lR];exact jg):G:=h
theorem Zkl(h:G:=by rw[cO];exact c9):G:=h
theorem Zql(h:G:=by rw[tD.o];exact(mM [s[k]]).symm):G:=h
theorem Zkm(h:G:=by unfold Addr.add;split<;>simp_all):G:=h
theorem Zkn(h:G:=by show _=_;rw[qT,Z5,U0,bO hq]):G:=h
theorem Zko(h:G:=by obtain⟨p,hp,hm⟩:=Z9.1 hm;exact h p hp w' qs hm):G:=h
theorem Zkp(h:G:=by rw[Array.toList_setIfInBounds,<-ZP,List.take_set]):G:=h
theorem Zdz(h:G:=by simpa using xU):G:=h
theorem ZdA(h:G:=by simpa using zS):G:=h
theorem ZdB(h:G:=by simpa using ct):G:=h
theorem Zkq(h:G:=by show _=_;rw[mW.o,bL IB]):G:=h
theorem Zkr(h:G:=by show _=_;rw[U2,bL yu,hw]):G:=h
theorem Zks(h:G:=by rcases hr with rfl|⟨v,rfl,_⟩<;>simp[z8,Z1,Y3]):G:=h
theorem Zkt(h:G:=by rw[<-pD];exact(rr wr).drewN nq):G:=h
theorem xA(h:G:=by rw[this];rfl):G:=h
theorem ZdC(h:G:=by rw[e]at h;exact ga):G:=h
theorem Zku(h:G:=by rw[<-fW];exact(rr w2).alloc _):G:=h
theorem Zkv(h:G:=by rw[k.mem,h.mem];simp[or_assoc]):G:=h
theorem Zkw(h:G:=by rw[bO hc,bO ⟨hf,ht,hc⟩];simp[Tb.put]):G:=h
theorem GJ(h:G:=by exact(HF n).symm):G:=h
theorem Zky(h:G:=by rw[<-eC];exact(rr wr).alloc _):G:=h
theorem Zkz(h:G:=by have h2:=hv.zero;have h3:v TK.length=0:=h2;omega):G:=h
theorem ZdD(h:G:=by exact h.bv k (.inr (.inl e))):G:=h
theorem ZdE(h:G:=by exact h.bv k (.inr (.inr e))):G:=h
theorem ZkA(h:G:=by rw[<-rA];exact Cr):G:=h
theorem GK(h:G:=by exact CR.nil _ _):G:=h
theorem ZkB(h:G:=by rintro e w' ⟨rfl,h⟩;exact⟨rfl,x.z h⟩):G:=h
theorem ZdF(h:G:=by rw[zQ4 hq];rfl):G:=h
theorem UM(h:G:=by simp[mS]):G:=h
theorem ZdG(h:G:=by simpa using h0):G:=h
theorem ZkC(h:G:=by simp[Z7.cells,Value.oneCell']):G:=h
theorem ZkD(h:G:=by rw[km]at hk;exact h.sep k hk):G:=h
theorem UN(h:G:=by simp[di]):G:=h
theorem UO(h:G:=by simp[wm]):G:=h
theorem ZkE(h:G:=by simp[U1.cells,Value.oneCell']):G:=h
theorem ZkF(h:G:=by rw[lR];omega):G:=h
theorem ZkG(h:G:=by show kz TK AK<=1000000;omega):G:=h
theorem ZkH(h:G:=by rw[fG];exact lC):G:=h
theorem Co(h:G:=by simp at hu):G:=h
theorem ZkI(h:G:=by simp[dh,ByteArray.toList_eq]):G:=h
theorem UP(h:G:=by exact h.fb k (.inl e)):G:=h
theorem ZkJ(h:G:=by simpa[Value.ownBlock]using hk):G:=h
theorem Zqm(h:G:=by show ¬nb=w1.heap.size;omega):G:=h
theorem Zqn(h:G:=by show ¬sb=w1.heap.size;omega):G:=h
theorem ZkL(h:G:=by have:=(ck.1 hp).1;omega):G:=h
theorem ZkM(h:G:=by cases e1:q n<;>cases e2:p n<;>simp_all<;>omega):G:=h
theorem ZkN(h:G:=by rw[<-hV];exact(rr _).alloc _):G:=h
theorem ZkO(h:G:=by rw[dN,hl];rfl):G:=h
theorem ZkP(h:G:=by have:w.heap.size<=i:=e;omega):G:=h
theorem ZkQ(h:G:=by unfold nw at hx;rw[wK]at hx;exact hx):G:=h
theorem cN(h:G:=by unfold maxLen;omega):G:=h
theorem kI(h:G:=by rw[<-hW,heap_alloc_old _ _ bK];exact qD):G:=h
theorem cF(h:G:=by exact absurd e bK):G:=h
theorem ZkV(h:G:=by have Lm:=hN.eV;have hWs:=eL.size;refine⟨Da _ _ _,bH,bH,bH,Zhw,Zqn,? _,Om.ext Al id,by show 0<w1.heap.size;obtain⟨_,_,hb9⟩:=Om.o;have:=j9 hb9;exact MF,Zin,by show sb<W.heap.size;omega,hN.cL,hN.ok,(Al.cell (p:=(aD sb 0)) Lm id).z hN.rU,j8 hN.own Al (λ_ _ f=>f),0,tc,? _,Xo,? _⟩;{exact Zqb};{exact ZjV};exact ZhV):G:=h
theorem ZkW(h:G:=by rcases hk with q|q|q|q|q|q;{subst q;exact key h.th.bP bJ bJ};{subst q;obtain⟨_,C,_,hg,_⟩:=h.th.tb.ex;exact key hg bJ bJ};{obtain⟨cur,hc⟩:=O4 h.th.ts q;exact key hc bJ bJ};{obtain⟨cur,hc⟩:=O4 h.th.gj q;exact key hc bJ bJ};{obtain⟨cur,hc⟩:=O4 h.th.tw q;exact key hc bJ bJ};obtain⟨cur,hc⟩:=O4 h.th.ss q;exact key hc bJ bJ):G:=h
theorem ZkX(h:G:=by intro nd cA e;injection e with e1 e2;subst e1;refine RN.mk (pv:=.slice a j cap) (form:=f++⟨#[41]⟩) (kids:=kids) ? _ (cj _) ? _ ? _ (λg hg=>oI (p6.o g hg)) ? _;{exact kW};{rw[Z0,bO (Or.inl rfl),eG,bL bJ,X1,HF.o,X9];simp};{rw[X2,bL bJ,jq.o];exact ZgI};exact ZmU):G:=h
theorem ZkY(h:G:=by obtain⟨vs,h1,h2,h3,h4⟩:=h;have h0:=h2;rcases h2.2 with⟨hv,e0⟩|⟨g,cap,cur,hv,hg,hh,r⟩;{exact ZgO};refine⟨_,cap,hv,λi l hl=>? _⟩;have hi:=(ck.1 hl).1;obtain⟨u,hu⟩:∃u,vs[i]?=some u:=⟨_,bZ bH⟩;rw[hv]at h0;have hc:=World.ownsRow.cellAt h0 i bH;exact Zqj):G:=h
theorem rK(h:G:=by simp at ep;subst ep;exact MV):G:=h
theorem US(h:G:=by exact⟨0,cf _,rfl,q9.refl _ _,World.ownsRow_nil _ _ _ _,λk hk=>absurd hk gp⟩):G:=h
theorem UT(h:G:=by rw[heap_alloc_old _ _ bQ,heap_alloc_old _ _ bK];exact qD):G:=h
theorem uN(h:G:=by have:=HH.lp _ f;omega):G:=h
theorem Zld(h:G:=by refine⟨Da _ _ _,bH,bH,Zhw,Zqm,? _,? _,vL,? _,0,bK,Zqf,? _,? _⟩;{have:=eL.size;exact Zin};{have:=eL.size;show nb<W.heap.size;omega};{exact ZpV};{exact ZjV};exact ZhV):G:=h
theorem Zlf(h:G:=by rcases hm with⟨e1,e2⟩|⟨mb,D,e1,ho,D9⟩;{exact .inl ⟨e1,by rw[e2];simp⟩};refine .inr ⟨mb,D,e1,? _,ql9 D9 hn⟩;have hl:(K.take n).length=n+(K.length-K.length):=lM;exact ZpS):G:=h
theorem Zlg(h:G:=by induction ps with|nil=>(simp[z8])|cons p ps ih2=>have h1:=ih p bK;have h2:=ih2 (λq hq=>ih q (kJ _ hq));simp only[z8,J0,cO,mL];omega):G:=h
theorem ZdJ(h:G:=by exact((eR w).alloc _).grown HG (λk e hk=>by have h1:w.heap.size=k:=eI e;omega)):G:=h
theorem Zlh(h:G:=by rw[e2];constructor;{rw[du xv,hl];have:i*2-i*2=0:=bH;exact xA};rw[du xv,hl];have:i*2+1-i*2=1:=bH;exact xA):G:=h
theorem Zli(h:G:=by intro k s e;obtain⟨hk,e⟩:=nh e;obtain⟨h1,h2,h3⟩:=h.tn k s e;refine⟨h1,λet v hv hh=>h2 et v hv (λj hj=>? _),h3⟩;have:=h1 j hj;exact(Pm bH v).1 (hh j hj)):G:=h
theorem Zlj(h:G:=by rw[Z0];split;{exact Zco};rename_i h;have:ps=[]:=by{cases ps with|nil=>(rfl)|cons p ps=>exact absurd (Or.inr (Or.inr bK)) h};subst this;simp[J0]):G:=h
theorem GL(h:G:=by exact heap_alloc2_new w _ _):G:=h
theorem zy(h:G:=by rw[<-hV];exact Ch):G:=h
theorem zz(h:G:=by rw[<-hV];exact qD):G:=h
theorem ZdK(h:G:=by intro q hq;rcases cX q hq with e|e;{exact rq q e};exact lQ):G:=h
theorem Zlq(h:G:=by simp at hw;rcases hw with rfl|rfl;{exact ZmT};exact ZmT):G:=h
theorem UW(h:G:=by rw[Ab.o]at hz;simp at hz;exact hz.2.2.2.2):G:=h
theorem xC(h:G:=by exact heap_alloc_new w1 _):G:=h
theorem Cp(h:G:=by rw[<-hW];exact Ch):G:=h
theorem Cq(h:G:=by rw[<-hW];exact qD):G:=h
theorem Zls(h:G:=by rcases ho.2 with⟨_,e0⟩|⟨g,cap,cur,hv,_⟩;{omega};cases hv;refine⟨g,rfl,? _⟩;rw[ho.cellAt j bH,dN,he];rfl):G:=h
theorem Zlt(h:G:=by have h9:=zY2 nY (Hg s.toList 600 0 [] Vm bH) (cr s.toList) [] rfl;simp at h9;exact h9):G:=h
theorem xD(h:G:=by simpa using h2):G:=h
theorem UX(h:G:=by rw[hl,eF];exact mJ):G:=h
theorem UZ(h:G:=by exact⟨0,cf _,rfl,q9.refl _ _,bK⟩):G:=h
theorem MP(h:G:=by unfold kD;rw[bL bH]):G:=h
theorem rL(h:G:=by exact⟨bH,bH⟩):G:=h
theorem Zlv(h:G:=by rintro k (e|e|e);{exact rJ};{exact(h1 k e).imp (λh=>.inr (.inl h)) id};exact(h2 k e).imp (λh=>.inr (.inr h)) id):G:=h
theorem Zlw(h:G:=by exact⟨rfl,hx,H.lU hx (H.wf.tail nN) bH bH ⟨i+1,by have:=HI.o;exact nJ,hn,HT.2.2.2,X6 (X6 HB 2 _) 1 _⟩⟩):G:=h
theorem uO(h:G:=by simp at h'):G:=h
theorem rM(h:G:=by simp[TW]):G:=h
theorem Zlx(h:G:=by simp only[Tb.fM];by_cases h2:a<f\/a=f/\b<t;{rw[bO h2,bO bH]};rw[bL h2,bL bH]):G:=h
theorem ZdM(h:G:=by simp only[IntKind.wrap,IntKind.signed,IntKind.bits];exact bQ):G:=h
theorem MQ(h:G:=by have:=h.len;exact nJ):G:=h
theorem Zlz(h:G:=by rcases h.own.2 with⟨e,e0⟩|⟨g,cap,cur,hv,_⟩;{exact⟨none,0,zt⟩};exact Zdx):G:=h
theorem ZlB(h:G:=by by_cases hr:c.rb<w.heap.size;{exact hr};rw[uQ bH]at hb;exact absurd hb bK):G:=h
theorem ZlC(h:G:=by rcases h.2 with⟨e,e0⟩|⟨g,cap,cur,hv,_⟩;{exact⟨none,0,zt⟩};exact Zdx):G:=h
theorem U'(h:G:=by rw[heap_alloc_old _ _ bK];exact qD):G:=h
theorem ZdN(h:G:=by obtain⟨t,us,rfl⟩:=hP.head;exact zW2 hP):G:=h
theorem ZlD(h:G:=by simp only[Rs.ok.injEq]at e;obtain⟨rfl,rfl⟩:=e;exact .mk (λh=>absurd h bJ) (λp hp=>absurd hp bK)):G:=h
theorem dC(h:G:=by exact this):G:=h
theorem ZlF(h:G:=by rw[e,cO,jC];exact ZmV):G:=h
theorem ZdO(h:G:=by intro e;rw[e]at eK;exact absurd eK bJ):G:=h
theorem ZdP(h:G:=by simp only[Addr.add];split;{exact Zqh};exact lO):G:=h
theorem ZlG(h:G:=by rcases kS.o.2 with⟨e,e0⟩|⟨g',cap,cur,hv,_,hh,_⟩;{omega};exact sW):G:=h
theorem ZdQ(h:G:=by rw[tO _ _ _ bJ];exact(qV1 hw).1):G:=h
theorem ZdR(h:G:=by rw[tO _ _ _ bJ];exact(qV1 hw).2):G:=h
theorem ZlI(h:G:=by rcases HT.o.2 with⟨e,e0⟩|⟨g',cap,cur,hv,_,hh,_⟩;{omega};exact sW):G:=h
theorem ZlM(h:G:=by by_cases h:tc=n;{exact⟨_,zC,λh2=>bH⟩};exact ZiR):G:=h
theorem ZlN(h:G:=by rw[vV hn];have ho:=j8 (j8 c9 h2 (λk hk e=>pH)) h3 (λk hk e=>pH);exact ML):G:=h
theorem ZlO(h:G:=by intro W cJ;have:=tZ (h.ext cJ (λ_ _ f=>f)) bK bQ;exact ZgX):G:=h
theorem Va(h:G:=by intro f hf;exact Gv):G:=h
theorem ZlP(h:G:=by intro j u hj;have h2:j<(cr s.toList).length*2:=ZgA;exact ZiC):G:=h
theorem ZlQ(h:G:=by intro j u hj;have h2:j<(cr s.toList).length*3:=ZgA;exact ZiC):G:=h
theorem Vb(h:G:=by rw[cO]at h1;omega):G:=h
theorem ga(h:G:=by simp at h):G:=h
theorem ZdT(h:G:=by subst e;have:=h.bP;rw[hc]at this;exact ie):G:=h
theorem ZlR(h:G:=by intro k hk;simp[Value.ownBlock]at hk;subst hk;exact cu.imp id (λe=>bH)):G:=h
theorem ZlS(h:G:=by exact hr.ext qO jO (by have:=H.o.dW;exact jP) (by have:=H.o.qM;exact lu)):G:=h
theorem Vc(h:G:=by rw[<-oU];exact Ch):G:=h
theorem Vd(h:G:=by rw[<-oU];exact qD):G:=h
theorem ZlT(h:G:=by show q9 _ _ _;exact(cw.z ds).z' cI (λi hi e=>Cg)):G:=h
theorem MR(h:G:=by rw[decide_eq_decide];omega):G:=h
theorem Ve(h:G:=by rw[<-eC];exact qD):G:=h
theorem Cr(h:G:=by exact(rr w1).alloc _):G:=h
theorem Vf(h:G:=by unfold fZ;exact bQ):G:=h
theorem ZlU(h:G:=by have:=(VZ hn).2.2;intro e;rw[e]at this;exact Vn):G:=h
theorem zA(h:G:=by exact absurd h bK):G:=h
theorem ZdU(h:G:=by rw[Er HZ.o];exact PZ.o bK):G:=h
theorem ZdV(h:G:=by rw[me false]at hz;exact ZgJ):G:=h
theorem ZdW(h:G:=by unfold maxLen at h2;exact h2):G:=h
theorem ZlV(h:G:=by rw[tO _ _ _ bJ];rcases h with e|e<;>rw[e]<;>decide):G:=h
theorem ZdX(h:G:=by rw[me true]at hz;exact ZgJ):G:=h
theorem ZlW(h:G:=by simp[hq]at h';obtain⟨_,rfl⟩:=h';exact⟨h3.1,bH⟩):G:=h
theorem ZlX(h:G:=by exact(((eR w).alloc _).z cw).z' (J9 _ _ _ _ _ _) (λi hi e=>fS)):G:=h
theorem ZlY(h:G:=by refine bodyPost_ret (results_none rfl _ _ _) rfl ? _;exact⟨rfl,_,rfl⟩):G:=h
theorem ZlZ(h:G:=by exact up _ _ ((Ac.o.ext oQ.o (λk _ hk e=>bH)).I (λk _ hk=>bH))):G:=h
theorem Vg(h:G:=by exact((rr w).alloc _).alloc _):G:=h
theorem MT(h:G:=by intro k hk;exact pH):G:=h
theorem Zma(h:G:=by exfalso;have h1:=HA.o;rw[cZ bH]at h1;exact h1 HX):G:=h
theorem Zmb(h:G:=by have:=(ck.1 hz).1;exact nJ):G:=h
theorem Cs(h:G:=by exact absurd e bJ):G:=h
theorem Vh(h:G:=by have:=hk.1;omega):G:=h
theorem Zmc(h:G:=by refine⟨λe he=>? _,bK⟩;simp at he;subst he;simp only;exact pK):G:=h
theorem Zmd(h:G:=by exact((Fv.z' (KY _ _ _ _ _ _ _ _) (λi hi e=>fS)).drew).drew):G:=h
theorem ZdY(h:G:=by rw[e2]at e;injection e with e3;omega):G:=h
theorem Zme(h:G:=by rw[vV hn,GO];refine⟨h.nd,bK,? _⟩;exact Zqk):G:=h
theorem zB(h:G:=by simp at hv;omega):G:=h
theorem ZdZ(h:G:=by have:=p6.o g hg;omega):G:=h
theorem Vi(h:G:=by have:=iy k hd;omega):G:=h
theorem Zmf(h:G:=by show _=_;rw[HT.o,cZ bH]):G:=h
theorem Zmg(h:G:=by apply UInt8.toNat_inj.1;rw[UInt8.toNat_ofNat'];omega):G:=h
theorem Zmh(h:G:=by exact((bT.o.drewN m).z' mR.o (λi hi e=>Cg)).drewN _):G:=h
theorem Zmi(h:G:=by have:=KB.o;rw[<-e,KA.o]at this;exact ie):G:=h
theorem Zmj(h:G:=by exact(Fv.z' (KY _ _ _ _ _ _ _ _) (λi hi e=>fS)).drew):G:=h
theorem Zmk(h:G:=by have:=jQ List.length ox;exact lO):G:=h
theorem Zml(h:G:=by simp at h';obtain⟨rfl,rfl⟩:=h';decide):G:=h
theorem Zec(h:G:=by exact⟨none,0,zt,λh0=>bH⟩):G:=h
theorem Zmn(h:G:=by exact(dY.o.z' (J9 _ _ _ _ _ _) (λi hi e=>fS)).drew):G:=h
theorem Zmo(h:G:=by exact⟨n,D,cj _,hn,bK,q9.refl _ _,ZpU,sh⟩):G:=h
theorem Zmp(h:G:=by rw[eG,bO bJ];exact(RZ h1 h2).2.2):G:=h
theorem Zmq(h:G:=by intro e;rw[e]at hp;exact absurd hp bJ):G:=h
theorem Zmr(h:G:=by intro e;rw[e]at hn;exact absurd hn bJ):G:=h
theorem Vj(h:G:=by show w.heap.size<k;omega):G:=h
theorem Zms(h:G:=by have h1:=(H.own.lt g hg).2;exact Zdi):G:=h
theorem Zmt(h:G:=by exact hr.ext hW jO jP Zim (λg hg e=>Zqa) ZhF):G:=h
theorem Zmu(h:G:=by rw[jl bH,jl bH]):G:=h
theorem Zmv(h:G:=by rw[du bH,gW,Nat.sub_self];rfl):G:=h
theorem Zmw(h:G:=by rw[tO _ _ _ bJ];exact(qx2 h).1):G:=h
theorem Zmx(h:G:=by rw[tO _ _ _ bJ];exact(qx2 h).2):G:=h
theorem Zmy(h:G:=by rw[eG,bO bJ];exact(RZ h1 h2).1):G:=h
theorem Zed(h:G:=by split at h<;>exact absurd h bK):G:=h
theorem Zmz(h:G:=by rw[jY.o,U0,bL mI];split<;>rfl):G:=h
theorem ZmA(h:G:=by rw[zU8,eF];exact mJ):G:=h
theorem ZmB(h:G:=by have:=(h3.2 nd cA h').2;exact bQ):G:=h
theorem Zee(h:G:=by rw[e]at he;exact absurd he bJ):G:=h
theorem ZmD(h:G:=by simp only[Tb.fM];rw[bL bH]):G:=h
theorem Zef(h:G:=by simpa using HO.o):G:=h
theorem ZmE(h:G:=by rw[Z0,bL bJ,eG,bO bJ]):G:=h
theorem ZmF(h:G:=by exact dm (CT _ _) bK):G:=h
theorem ZmG(h:G:=by have:=HR.o;unfold GE;exact lO):G:=h
theorem ZmH(h:G:=by rw[ei bH]at hc;exact ZpY):G:=h
theorem ZmI(h:G:=by rw[Z1,bO oF];exact Zqg):G:=h
theorem ZmJ(h:G:=by rw[List.drop_drop];exact mJ):G:=h
theorem ZmK(h:G:=by have:=hs _ (tg.2 rfl);exact nJ):G:=h
theorem ZmL(h:G:=by simp only[Tb.ek];exact pK):G:=h
theorem ZmM(h:G:=by rw[hl,eF];omega):G:=h
theorem ZmN(h:G:=by have g2:(ByteArray.mk #[32]).size=1:=rfl;omega):G:=h
theorem ZmO(h:G:=by rw[tg]at he;subst he;exact bQ):G:=h
theorem ZmP(h:G:=by have:=(ck.1 hx).1;omega):G:=h
theorem ZmQ(h:G:=by rw[fQ,bO bJ];simp[sP]):G:=h
theorem ZmS(h:G:=by refine⟨0,bH,rfl,(((rr w).alloc _).alloc _).alloc _,? _,? _,? _⟩;{exact UT};{exact Zei};exact ZpO):G:=h
theorem GM(h:G:=by have:=h.sm;exact cN):G:=h
theorem Zeg(h:G:=by rw[Hn,(Hq bH eK).2,cO];exact gS):G:=h
theorem lQ(h:G:=by exact .inr bH):G:=h
theorem GN(h:G:=by unfold maxLen;exact qE):G:=h
theorem Vl(h:G:=by have:=lY.o;exact bQ):G:=h
theorem MU(h:G:=by have:=HE.o.size;exact qE):G:=h
theorem Vm(h:G:=by rw[Z6];exact bQ):G:=h
theorem zC(h:G:=by rw[bO h]):G:=h
theorem ZmT(h:G:=by exact⟨λe he=>by simp at he;subst he;exact bQ,bK⟩):G:=h
theorem ZmU(h:G:=by intro i q p wC ep;rw[X2,bL bJ]at ep;exact ZpF):G:=h
theorem ZmV(h:G:=by exact j8 c9 hW (λk hk e=>K8 c9 ja bJ (e▸hk))):G:=h
theorem MV(h:G:=by simp[Addr.add]):G:=h
theorem Vn(h:G:=by exact absurd this bJ):G:=h
theorem Zei(h:G:=by rw[heap_alloc_old _ _ bK];exact GL):G:=h
theorem _root_.Eq.z:type_of% @Eq.trans:=@Eq.trans
theorem _root_.Iff.z:type_of% @Iff.trans:=@Iff.trans
theorem _root_.List.IsPrefix.z:type_of% @List.IsPrefix.trans:=@List.IsPrefix.trans
end Go.Proofs.YtegbdaffhpiacaaGreatDoor
