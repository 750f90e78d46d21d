/- The program's reader: a formula in brackets; The program's reader: a formula in brackets that begins well; The program's reader: a formula, whatever comes. -/
import Derived.Test.YtegbdaffhpiacaaGreatDoorBck08
namespace Go.Proofs.YtegbdaffhpiacaaGreatDoor
open Go.RowKit Ar
set_option maxRecDepth 100000 in
set_option maxHeartbeats 400000 in
theorem qy5 {w:World} {c:W9} {t:Tk} {ts:List Tk} {d pl er:Int} (h:PR w c (t :: ts) d pl er) (hd:30<=d) :
    Calls Tryz.prog 108 #[.pointer (some ⟨c.rb,0,none⟩)] w (X5 w c d pl er (.no 6 t.pos)):=by
  have F0:=zg5
  have F2:=zj2
  have hrb:=h.rbs
  have hrn:¬w.heap.size=c.rb:=by omega
  have htb:=h.tbs
  have hsb:=h.sbs
  have HNV:=q8 h.nvs
  have HX0:Hid (q9 (fun _=>False) w (w.alloc (.cells #[.int .i64 0,.string ⟨#[]⟩,.int .i64 0,.slice none 0 0] 115))):=(q9.refl _ w).alloc _
  have H0:=q8 (h.new HX0.out)
  clear h F0 F2
  go_enter Tryz.func108,Tryz.ntmps108
  go_wp2_with first
    | (go_at_call 144;refine (zD5 H0.out hd).mono ?_;rintro en w2 ⟨rfl,hx2,hr2⟩
       have HX2:Hid (q9 (· = c.rb) (w.alloc (.cells #[.int .i64 0,.string ⟨#[]⟩,.int .i64 0,.slice none 0 0] 115)) w2):=hx2
       have kb:w2.heap[w.heap.size]?=some (.cells #[.int .i64 0,.string ⟨#[]⟩,.int .i64 0,.slice none 0 0] 115):=(HX2.out.block _ (z8 (heap_alloc_new w _)) hrn).trans (heap_alloc_new w _)
       have z0:=z6 kb 0
       have z1:=z6 kb 1
       have z2:=z6 kb 2
       have z3:=z6 kb 3
       have y0:=Q0 kb 0
       have y1:=Q0 kb 1
       have y2:=Q0 kb 2
       have y3:=Q0 kb 3
       clear kb
       have HR2:=q8 hr2
       clear hx2 hr2)
  refine bodyPost_ret (v:=.tuple #[.agg #[.int .i64 0,.string ⟨#[]⟩,.int .i64 0,.slice none 0 0],.bool false]) (by simp [results,Tryz.results108,go_sem,z0,z1,z2,z3]) rfl ?_
  exact V6 HX0.out HX2.out HR2.out (Z5 _ _ _ _ _ _) hrb htb hsb HNV.out
set_option maxRecDepth 100000 in
set_option maxHeartbeats 400000 in
theorem qV2 {w:World} {c:W9} {t u:Tk} {us:List Tk} {d pl er:Int} (h:PR w c (t :: u :: us) d pl er) (hd:d < 30) (hne:t.txt.toList ≠ []) (ha:ze9 u.txt.toList=none) :
    Calls Tryz.prog 108 #[.pointer (some ⟨c.rb,0,none⟩)] w (X5 w c d pl er (.no 2 u.pos)):=by
  have F0:=zg5
  have F2:=zj2
  have hrb:=h.rbs
  have hrn:¬w.heap.size=c.rb:=by omega
  have htb:=h.tbs
  have hsb:=h.sbs
  have HNV:=q8 h.nvs
  have HX0:Hid (q9 (fun _=>False) w (w.alloc (.cells #[.int .i64 0,.string ⟨#[]⟩,.int .i64 0,.slice none 0 0] 115))):=(q9.refl _ w).alloc _
  have H0:=q8 (h.new HX0.out)
  have HNE:=q8 hne
  have HA:=q8 ha
  clear h hne ha
  go_enter Tryz.func108,Tryz.ntmps108
  go_wp2_with (go_at_call 144;refine (zk9 H0.out hd HNE.out).mono ?_;rintro en w1 ⟨rfl,hx1,hr1⟩;have HX1:=q8 hx1;have HR1:=q8 hr1;clear hx1 hr1)
  refine (X2 HR1.out).mono ?_
  rintro en w1a ⟨rfl,hx1a⟩
  have HX1A:=q8 hx1a
  clear hx1a
  go_wp2_with fail
  refine (zZ4 (HR1.out.new HX1A.out).hd HA.out).mono ?_
  rintro en w2 ⟨rfl,hx2⟩
  have hx3:q9 (fun _=>False) w1 (w2.alloc (.cells #[.string ⟨#[]⟩,.int .i64 0,.int .i64 0] 270)):=(HX1A.out.trans hx2).alloc _
  have HX3:=q8 hx3
  clear hx2 hx3
  go_wp2_with first
    | (go_at_call 110;refine (x6 _ (HR1.out.new HX3.out)).mono ?_;rintro en w4 ⟨rfl,hx4,hr4⟩
       have HX2:Hid (q9 (· = c.rb) (w.alloc (.cells #[.int .i64 0,.string ⟨#[]⟩,.int .i64 0,.slice none 0 0] 115)) w4):=(HX1.out.trans (HX3.out.mono (fun _ _ f=>f.elim))).trans hx4
       have kb:w4.heap[w.heap.size]?=some (.cells #[.int .i64 0,.string ⟨#[]⟩,.int .i64 0,.slice none 0 0] 115):=(HX2.out.block _ (z8 (heap_alloc_new w _)) hrn).trans (heap_alloc_new w _)
       have z0:=z6 kb 0
       have z1:=z6 kb 1
       have z2:=z6 kb 2
       have z3:=z6 kb 3
       have y0:=Q0 kb 0
       have y1:=Q0 kb 1
       have y2:=Q0 kb 2
       have y3:=Q0 kb 3
       clear kb
       have HR2:=q8 hr4
       clear hx4 hr4)
  refine bodyPost_ret (v:=.tuple #[.agg #[.int .i64 0,.string ⟨#[]⟩,.int .i64 0,.slice none 0 0],.bool false]) (by simp [results,Tryz.results108,go_sem,z0,z1,z2,z3]) rfl ?_
  exact V6 HX0.out HX2.out HR2.out (Z5 _ _ _ _ _ _) hrb htb hsb HNV.out
set_option maxRecDepth 100000 in
set_option maxHeartbeats 400000 in
theorem jp5 {w:World} {c:W9} {t u:Tk} {us:List Tk} {d pl er:Int} (n:Nat) (x:ByteArray × Int × Int) (h:PR w c (t :: u :: us) d pl er) (hd:d < 30) (hne:t.txt.toList ≠ []) (hx:ze9 u.txt.toList=some x) (hune:u.txt.toList ≠ []) (hus:us.length<=n) (F T:List Tk->Rs Nd) (hfF:Fits F) (hfT:Fits T)
    (hf:∀ (w:World) (ts:List Tk),ts.length<=n->PR w c ts (d+1) pl er->Calls Tryz.prog 72 #[.pointer (some ⟨c.rb,0,none⟩)] w (X5 w c (d+1) pl er (F ts)))
    (ht:∀ (w:World) (ts:List Tk),ts.length<=n->PR w c ts (d+1) pl er->Calls Tryz.prog 153 #[.pointer (some ⟨c.rb,0,none⟩)] w (X5 w c (d+1) pl er (T ts))) :
    Calls Tryz.prog 108 #[.pointer (some ⟨c.rb,0,none⟩)] w (X5 w c d pl er (J6 2 x.2.1 u.txt (O4 x.2.2 n F T (W7 5) us))):=by
  have F0:=zg5
  have F2:=zj2
  have hrb:=h.rbs
  have hrn:¬w.heap.size=c.rb:=by omega
  have htb:=h.tbs
  have hsb:=h.sbs
  have HNV:=q8 h.nvs
  have HX0:Hid (q9 (fun _=>False) w (w.alloc (.cells #[.int .i64 0,.string ⟨#[]⟩,.int .i64 0,.slice none 0 0] 115))):=(q9.refl _ w).alloc _
  have H0:=q8 (h.new HX0.out)
  have HNE:=q8 hne
  have HH:=q8 hx
  have HUNE:=q8 hune
  have hd0:=h.dlo
  have HUS:=q8 hus
  have HP:=q8 (fun (W:World) (hW:PR W c us (d+1) pl er)=>qV1 x.2.2 (zH0 hx).2 n F T hW hus hfF hfT hf ht)
  clear h hne hx hune hfF hfT hf ht hus
  go_enter Tryz.func108,Tryz.ntmps108
  go_wp2_with (go_at_call 144;refine (zk9 H0.out hd HNE.out).mono ?_;rintro en w1 ⟨rfl,hx1,hr1⟩;have HX1:=q8 hx1;have HR1:=q8 hr1;clear hx1 hr1)
  refine (X2 HR1.out).mono ?_
  rintro en w1a ⟨rfl,hx1a⟩
  have HX1A:=q8 hx1a
  clear hx1a
  go_wp2_with fail
  refine (zZ5 (HR1.out.new HX1A.out).hd HH.out).mono ?_
  rintro en w2 ⟨rfl,hx2⟩
  have hx3:q9 (fun _=>False) w1 (w2.alloc (.cells #[.string u.txt,.int .i64 x.2.1,.int .i64 x.2.2] 270)):=(HX1A.out.trans hx2).alloc _
  have HX3:=q8 hx3
  have hs1:=HX1.out.size
  have hs2:=(HX1A.out.trans hx2).size
  have hsz1:w.heap.size < w1.heap.size:=by simp at hs1;omega
  have hsz2:w1.heap.size<=w2.heap.size:=hs2
  have hrb2:c.rb < w2.heap.size:=by omega
  clear hx2 hx3 hs1 hs2
  go_wp2_with fail
  refine (zp2 (HR1.out.new HX3.out) HUNE.out).mono ?_
  rintro en w4 ⟨rfl,hx4,hr4⟩
  have kf:w4.heap[w2.heap.size]?=some (.cells #[.string u.txt,.int .i64 x.2.1,.int .i64 x.2.2] 270):=(hx4.block _ (z8 (heap_alloc_new w2 _)) (by show ¬w2.heap.size=c.rb;omega)).trans (heap_alloc_new w2 _)
  have q2:=z6 kf 2
  have hl4:=z8 kf
  have hs4:=hx4.size
  have HX04:Hid (q9 (· = c.rb) (w.alloc (.cells #[.int .i64 0,.string ⟨#[]⟩,.int .i64 0,.slice none 0 0] 115)) w4):=(HX1.out.trans (HX3.out.mono (fun _ _ f=>f.elim))).trans hx4
  have HR4:=q8 hr4
  have KF:=q8 kf
  clear hx4 hr4 kf hs4
  go_wp2_with fail
  refine (HP.out w4 HR4.out).mono ?_
  clear q2
  cases hrr:O4 x.2.2 n F T (W7 5) us with
  | no e p =>
    have HRES:Hid (J6 2 x.2.1 u.txt (O4 x.2.2 n F T (W7 5) us)=.no e p):=by
      show _=_
      rw [hrr];rfl
    clear hrr
    rintro en w7 ⟨hx7,rfl,ts',d',hr7⟩
    have HX2:Hid (q9 (· = c.rb) (w.alloc (.cells #[.int .i64 0,.string ⟨#[]⟩,.int .i64 0,.slice none 0 0] 115)) w7):=HX04.out.trans hx7
    have kb:w7.heap[w.heap.size]?=some (.cells #[.int .i64 0,.string ⟨#[]⟩,.int .i64 0,.slice none 0 0] 115):=(HX2.out.block _ (z8 (heap_alloc_new w _)) hrn).trans (heap_alloc_new w _)
    have z0:=z6 kb 0
    have z1:=z6 kb 1
    have z2:=z6 kb 2
    have z3:=z6 kb 3
    have y0:=Q0 kb 0
    have y1:=Q0 kb 1
    have y2:=Q0 kb 2
    have y3:=Q0 kb 3
    clear kb
    have HR2:=q8 hr7
    clear hx7 hr7
    go_wp2_with fail
    rw [HRES.out]
    refine bodyPost_ret (v:=.tuple #[.agg #[.int .i64 0,.string ⟨#[]⟩,.int .i64 0,.slice none 0 0],.bool false]) (by simp [results,Tryz.results108,go_sem,z0,z1,z2,z3]) rfl ?_
    exact V6 HX0.out HX2.out HR2.out (Z5 _ _ _ _ _ _) hrb htb hsb HNV.out
  | ok ps ts' =>
    rintro en w7 ⟨hx7,sa,sn,sc,kids,rfl,hrow7,hr7⟩
    obtain ⟨v,vs,rfl⟩:=hr7.head
    have hl7:w2.heap.size < w7.heap.size:=Nat.lt_of_lt_of_le hl4 hx7.size
    have HROW7:Hid (zv0 w7 (fun k=>w.heap.size < k) (.slice sa sn sc) ps kids):=hrow7.mono (fun k _ hk=>by have h5:w4.heap.size<=k:=hk;show w.heap.size < k;omega)
    have HX07:=q8 (HX04.out.trans hx7)
    have KF7:=q8 ((hx7.block _ (z8 KF.out) (by show ¬w2.heap.size=c.rb;omega)).trans KF.out)
    have HR7:=q8 hr7
    clear hx7 hr7 hrow7
    by_cases hq:v.txt.toList=[41]
    · have HRES:Hid (J6 2 x.2.1 u.txt (O4 x.2.2 n F T (W7 5) us)=.ok (.mk x.2.1 u.txt 0 ps) vs):=by
        show _=_
        rw [hrr,J6,zc4,if_pos hq]
      clear hrr
      go_wp2_with first
        | (go_at_call 147;refine (zH3 _ HR7.out (by omega) hq).mono ?_;rintro en w8 ⟨rfl,hx8,hr8⟩
           have HX2:Hid (q9 (· = c.rb) (w.alloc (.cells #[.int .i64 0,.string ⟨#[]⟩,.int .i64 0,.slice none 0 0] 115)) w8):=HX07.out.trans hx8
           have kb:w8.heap[w.heap.size]?=some (.cells #[.int .i64 0,.string ⟨#[]⟩,.int .i64 0,.slice none 0 0] 115):=(HX2.out.block _ (z8 (heap_alloc_new w _)) hrn).trans (heap_alloc_new w _)
           have z0:=z6 kb 0
           have z1:=z6 kb 1
           have z2:=z6 kb 2
           have z3:=z6 kb 3
           have y0:=Q0 kb 0
           have y1:=Q0 kb 1
           have y2:=Q0 kb 2
           have y3:=Q0 kb 3
           clear kb
           have kf8:=(hx8.block _ (z8 KF7.out) (by show ¬w2.heap.size=c.rb;omega)).trans KF7.out
           have q80:=z6 kf8 0
           have q81:=z6 kf8 1
           have HROW8:=q8 (HROW7.out.ext hx8 (fun k _ hk e=>by have h5:w.heap.size < k:=hk;have h6:k=c.rb:=e;omega))
           rw [show d+1 - 1=d from by omega] at hr8
           have HR2:=q8 hr8
           clear hx8 hr8 kf8)
      rw [HRES.out]
      refine bodyPost_ret (v:=.tuple #[.agg #[.int .i64 x.2.1,.string u.txt,.int .i64 0,.slice sa sn sc],.bool true]) (by simp [results,Tryz.results108,go_sem,z0,z1,z2,z3]) rfl ?_
      exact zc8 HX0.out HX2.out HR2.out (qa3 HROW8.out) (Z5 _ _ _ _ _ _) hrb htb hsb HNV.out
    · have HRES:Hid (J6 2 x.2.1 u.txt (O4 x.2.2 n F T (W7 5) us)=.no (zH4 2 v.txt.toList) v.pos):=by
        show _=_
        rw [hrr,J6,zc4,if_neg hq]
        unfold zH4
        split <;> rfl
      clear hrr
      go_wp2_with first
        | (go_at_call 147;refine (zH5 _ HR7.out hq).mono ?_;rintro en w8 ⟨rfl,hx8,hr8⟩
           have HX2:Hid (q9 (· = c.rb) (w.alloc (.cells #[.int .i64 0,.string ⟨#[]⟩,.int .i64 0,.slice none 0 0] 115)) w8):=HX07.out.trans hx8
           have kb:w8.heap[w.heap.size]?=some (.cells #[.int .i64 0,.string ⟨#[]⟩,.int .i64 0,.slice none 0 0] 115):=(HX2.out.block _ (z8 (heap_alloc_new w _)) hrn).trans (heap_alloc_new w _)
           have z0:=z6 kb 0
           have z1:=z6 kb 1
           have z2:=z6 kb 2
           have z3:=z6 kb 3
           have y0:=Q0 kb 0
           have y1:=Q0 kb 1
           have y2:=Q0 kb 2
           have y3:=Q0 kb 3
           clear kb
           have HR2:=q8 hr8
           clear hx8 hr8)
      rw [HRES.out]
      refine bodyPost_ret (v:=.tuple #[.agg #[.int .i64 0,.string ⟨#[]⟩,.int .i64 0,.slice none 0 0],.bool false]) (by simp [results,Tryz.results108,go_sem,z0,z1,z2,z3]) rfl ?_
      exact V6 HX0.out HX2.out HR2.out (Z5 _ _ _ _ _ _) hrb htb hsb HNV.out
set_option maxRecDepth 100000 in
set_option maxHeartbeats 400000 in
theorem qy6 {w:World} {c:W9} {t:Tk} {ts:List Tk} {d pl er:Int} (r:Rs Nd) (h:PR w c (t :: ts) d pl er) (ho:(t.txt.toList == [40])=true)
  (hf:∀ (w:World),PR w c (t :: ts) d pl er->Calls Tryz.prog 108 #[.pointer (some ⟨c.rb,0,none⟩)] w (X5 w c d pl er r)) :
  Calls Tryz.prog 72 #[.pointer (some ⟨c.rb,0,none⟩)] w (X5 w c d pl er r):=by
 have F0:=zg5
 have F2:=zj2
 have hrb:=h.rbs
 have hrn:¬w.heap.size=c.rb:=by omega
 have htb:=h.tbs
 have hsb:=h.sbs
 have HNV:=q8 h.nvs
 have HX0:Hid (q9 (fun _=>False) w (w.alloc (.cells #[.int .i64 0,.string ⟨#[]⟩,.int .i64 0,.slice none 0 0] 115))):=(q9.refl _ w).alloc _
 have H0:=q8 (h.new HX0.out)
 have HF:=q8 hf
 have hk:=(zh9 (l:=t.txt.toList)).trans ho
 clear F2
 clear h hf ho
 cases r with
 | no e p =>
  go_enter Tryz.func72,Tryz.ntmps72
  go_wp2_with first
    | (go_at_call 107;refine (X2 H0.out).mono ?_;rintro en w1 ⟨rfl,hx1⟩;have HX1:=q8 hx1;clear hx1)
  refine (HF.out _ (H0.out.new HX1.out)).mono ?_
  rintro en w5 ⟨hx5,rfl,ts',d',hr2⟩
  have HX2:Hid (q9 (· = c.rb) (w.alloc (.cells #[.int .i64 0,.string ⟨#[]⟩,.int .i64 0,.slice none 0 0] 115)) w5):=(HX1.out.mono (fun _ _ f=>f.elim)).trans hx5
  have kb:w5.heap[w.heap.size]?=some (.cells #[.int .i64 0,.string ⟨#[]⟩,.int .i64 0,.slice none 0 0] 115):=(HX2.out.block _ (z8 (heap_alloc_new w _)) hrn).trans (heap_alloc_new w _)
  have z0:=z6 kb 0
  have z1:=z6 kb 1
  have z2:=z6 kb 2
  have z3:=z6 kb 3
  have y0:=Q0 kb 0
  have y1:=Q0 kb 1
  have y2:=Q0 kb 2
  have y3:=Q0 kb 3
  clear kb
  clear hx5
  go_wp2_with fail
  refine bodyPost_ret (v:=.tuple #[.agg #[.int .i64 0,.string ⟨#[]⟩,.int .i64 0,.slice none 0 0],.bool false]) (by simp [results,Tryz.results72,go_sem,z0,z1,z2,z3]) rfl ?_
  exact V6 HX0.out HX2.out hr2 (Z5 _ _ _ _ _ _) hrb htb hsb HNV.out
 | ok nd ts' =>
  go_enter Tryz.func72,Tryz.ntmps72
  go_wp2_with first
    | (go_at_call 107;refine (X2 H0.out).mono ?_;rintro en w1 ⟨rfl,hx1⟩;have HX1:=q8 hx1;clear hx1)
  refine (HF.out _ (H0.out.new HX1.out)).mono ?_
  rintro en w5 ⟨hx5,k,wd,v,sa,sn,sc,rfl,hn,hr2⟩
  have HX2:Hid (q9 (· = c.rb) (w.alloc (.cells #[.int .i64 0,.string ⟨#[]⟩,.int .i64 0,.slice none 0 0] 115)) w5):=(HX1.out.mono (fun _ _ f=>f.elim)).trans hx5
  have kb:w5.heap[w.heap.size]?=some (.cells #[.int .i64 0,.string ⟨#[]⟩,.int .i64 0,.slice none 0 0] 115):=(HX2.out.block _ (z8 (heap_alloc_new w _)) hrn).trans (heap_alloc_new w _)
  have z0:=z6 kb 0
  have z1:=z6 kb 1
  have z2:=z6 kb 2
  have z3:=z6 kb 3
  have y0:=Q0 kb 0
  have y1:=Q0 kb 1
  have y2:=Q0 kb 2
  have y3:=Q0 kb 3
  clear kb
  have hsz:=HX1.out.size
  have HPN:=q8 (hn.mono (D':=fun k=>w.heap.size < k) (fun k _ hk=>by have h1:w1.heap.size<=k:=hk;simp at hsz;show w.heap.size < k;omega))
  clear hx5 hn hsz
  go_wp2_with fail
  refine bodyPost_ret (v:=.tuple #[.agg #[.int .i64 k,.string wd,.int .i64 v,.slice sa sn sc],.bool true]) (by simp [results,Tryz.results72,go_sem,z0,z1,z2,z3]) rfl ?_
  exact zc8 HX0.out HX2.out hr2 HPN.out (Z5 _ _ _ _ _ _) hrb htb hsb HNV.out
set_option maxRecDepth 100000 in
set_option maxHeartbeats 400000 in
theorem zZ6 {w:World} {c:W9} {t:Tk} {ts:List Tk} {d pl er:Int} (h:PR w c (t :: ts) d pl er) (ho:(t.txt.toList == [40])=false) (hw:t.txt.toList=zl8) :
    Calls Tryz.prog 72 #[.pointer (some ⟨c.rb,0,none⟩)] w (X5 w c d pl er (.ok (.mk 0 t.txt 0 []) ts)):=by
  have F0:=zg5
  have F2:=zj2
  have hrb:=h.rbs
  have hrn:¬w.heap.size=c.rb:=by omega
  have htb:=h.tbs
  have hsb:=h.sbs
  have HNV:=q8 h.nvs
  have HX0:Hid (q9 (fun _=>False) w (w.alloc (.cells #[.int .i64 0,.string ⟨#[]⟩,.int .i64 0,.slice none 0 0] 115))):=(q9.refl _ w).alloc _
  have H0:=q8 (h.new HX0.out)
  have hk:=(zh9 (l:=t.txt.toList)).trans ho
  have HNE:Hid (t.txt.toList ≠ []):=by rw [hw];exact (by decide:(zl8:List UInt8) ≠ [])
  have e1:(t.txt.toList == [116,114,117,101])=true:=by rw [hw];rfl
  have htx:t.txt=⟨#[116,114,117,101]⟩:=zb0 (hw.trans (by kernel_rfl))
  have HTX:=q8 htx
  clear h ho hw htx
  go_enter Tryz.func72,Tryz.ntmps72
  go_wp2_with first
     | (go_at_call 107;refine (X2 (H0.out)).mono ?_;rintro en w1 ⟨rfl,hx1⟩;have HX1:=q8 hx1;clear hx1)
     | (go_at_call 107;refine (X2 (H0.out.new HX1.out)).mono ?_;rintro en w2 ⟨rfl,hx2⟩;have HX2a:=q8 hx2;clear hx2)
     | (go_at_call 109;refine (zp2 (H0.out.new (HX1.out.trans HX2a.out)) HNE.out).mono ?_;rintro en w4 ⟨rfl,hx4,hr4⟩
        have HX2:Hid (q9 (· = c.rb) (w.alloc (.cells #[.int .i64 0,.string ⟨#[]⟩,.int .i64 0,.slice none 0 0] 115)) w4):=((HX1.out.trans HX2a.out).mono (fun _ _ f=>f.elim)).trans hx4
        have kb:w4.heap[w.heap.size]?=some (.cells #[.int .i64 0,.string ⟨#[]⟩,.int .i64 0,.slice none 0 0] 115):=(HX2.out.block _ (z8 (heap_alloc_new w _)) hrn).trans (heap_alloc_new w _)
        have z0:=z6 kb 0
        have z1:=z6 kb 1
        have z2:=z6 kb 2
        have z3:=z6 kb 3
        have y0:=Q0 kb 0
        have y1:=Q0 kb 1
        have y2:=Q0 kb 2
        have y3:=Q0 kb 3
        clear kb
        have HR2:=q8 hr4
        clear hx4 hr4)
  refine bodyPost_ret (v:=.tuple #[.agg #[.int .i64 0,.string ⟨#[116,114,117,101]⟩,.int .i64 0,.slice none 0 0],.bool true]) (by simp [results,Tryz.results72,go_sem,z0,z1,z2,z3]) rfl ?_
  rw [HTX.out]
  exact zc8 HX0.out HX2.out HR2.out (PN.leaf 0 0 _) (Z5 _ _ _ _ _ _) hrb htb hsb HNV.out
set_option maxRecDepth 100000 in
set_option maxHeartbeats 400000 in
theorem zU6 {w:World} {c:W9} {t:Tk} {ts:List Tk} {d pl er:Int} (h:PR w c (t :: ts) d pl er) (ho:(t.txt.toList == [40])=false) (hw:t.txt.toList=zg6) :
    Calls Tryz.prog 72 #[.pointer (some ⟨c.rb,0,none⟩)] w (X5 w c d pl er (.ok (.mk 0 t.txt 0 []) ts)):=by
  have F0:=zg5
  have F2:=zj2
  have hrb:=h.rbs
  have hrn:¬w.heap.size=c.rb:=by omega
  have htb:=h.tbs
  have hsb:=h.sbs
  have HNV:=q8 h.nvs
  have HX0:Hid (q9 (fun _=>False) w (w.alloc (.cells #[.int .i64 0,.string ⟨#[]⟩,.int .i64 0,.slice none 0 0] 115))):=(q9.refl _ w).alloc _
  have H0:=q8 (h.new HX0.out)
  have hk:=(zh9 (l:=t.txt.toList)).trans ho
  have HNE:Hid (t.txt.toList ≠ []):=by rw [hw];exact (by decide:(zg6:List UInt8) ≠ [])
  have e1:(t.txt.toList == [116,114,117,101])=false:=by rw [hw];rfl
  have e2:(t.txt.toList == [102,97,108,115,101])=true:=by rw [hw];rfl
  have htx:t.txt=⟨#[102,97,108,115,101]⟩:=zb0 (hw.trans (by kernel_rfl))
  have HTX:=q8 htx
  clear h ho hw htx
  go_enter Tryz.func72,Tryz.ntmps72
  go_wp2_with first
     | (go_at_call 107;refine (X2 (H0.out)).mono ?_;rintro en w1 ⟨rfl,hx1⟩;have HX1:=q8 hx1;clear hx1)
     | (go_at_call 107;refine (X2 (H0.out.new HX1.out)).mono ?_;rintro en w2 ⟨rfl,hx2⟩;have HX2a:=q8 hx2;clear hx2)
     | (go_at_call 109;refine (zp2 (H0.out.new (HX1.out.trans HX2a.out)) HNE.out).mono ?_;rintro en w4 ⟨rfl,hx4,hr4⟩
        have HX2:Hid (q9 (· = c.rb) (w.alloc (.cells #[.int .i64 0,.string ⟨#[]⟩,.int .i64 0,.slice none 0 0] 115)) w4):=((HX1.out.trans HX2a.out).mono (fun _ _ f=>f.elim)).trans hx4
        have kb:w4.heap[w.heap.size]?=some (.cells #[.int .i64 0,.string ⟨#[]⟩,.int .i64 0,.slice none 0 0] 115):=(HX2.out.block _ (z8 (heap_alloc_new w _)) hrn).trans (heap_alloc_new w _)
        have z0:=z6 kb 0
        have z1:=z6 kb 1
        have z2:=z6 kb 2
        have z3:=z6 kb 3
        have y0:=Q0 kb 0
        have y1:=Q0 kb 1
        have y2:=Q0 kb 2
        have y3:=Q0 kb 3
        clear kb
        have HR2:=q8 hr4
        clear hx4 hr4)
  refine bodyPost_ret (v:=.tuple #[.agg #[.int .i64 0,.string ⟨#[102,97,108,115,101]⟩,.int .i64 0,.slice none 0 0],.bool true]) (by simp [results,Tryz.results72,go_sem,z0,z1,z2,z3]) rfl ?_
  rw [HTX.out]
  exact zc8 HX0.out HX2.out HR2.out (PN.leaf 0 0 _) (Z5 _ _ _ _ _ _) hrb htb hsb HNV.out
set_option maxRecDepth 100000 in
set_option maxHeartbeats 400000 in
theorem qy7 {w:World} {c:W9} {t:Tk} {ts:List Tk} {d pl er:Int} (h:PR w c (t :: ts) d pl er) (ho:(t.txt.toList == [40])=false) (hw1:¬t.txt.toList=zl8) (hw2:¬t.txt.toList=zg6) :
    Calls Tryz.prog 72 #[.pointer (some ⟨c.rb,0,none⟩)] w (X5 w c d pl er (.no 2 t.pos)):=by
  have F0:=zg5
  have F2:=zj2
  have hrb:=h.rbs
  have hrn:¬w.heap.size=c.rb:=by omega
  have htb:=h.tbs
  have hsb:=h.sbs
  have HNV:=q8 h.nvs
  have HX0:Hid (q9 (fun _=>False) w (w.alloc (.cells #[.int .i64 0,.string ⟨#[]⟩,.int .i64 0,.slice none 0 0] 115))):=(q9.refl _ w).alloc _
  have H0:=q8 (h.new HX0.out)
  have hk:=(zh9 (l:=t.txt.toList)).trans ho
  have e1:(t.txt.toList == [116,114,117,101])=false:=beq_eq_false_iff_ne.2 hw1
  have e2:(t.txt.toList == [102,97,108,115,101])=false:=beq_eq_false_iff_ne.2 hw2
  clear h ho hw1 hw2
  go_enter Tryz.func72,Tryz.ntmps72
  go_wp2_with first
     | (go_at_call 107;refine (X2 (H0.out)).mono ?_;rintro en w1 ⟨rfl,hx1⟩;have HX1:=q8 hx1;clear hx1)
     | (go_at_call 107;refine (X2 (H0.out.new HX1.out)).mono ?_;rintro en w2 ⟨rfl,hx2⟩;have HX2a:=q8 hx2;clear hx2)
     | (go_at_call 110;refine (x6 _ (H0.out.new (HX1.out.trans HX2a.out))).mono ?_;rintro en w4 ⟨rfl,hx4,hr4⟩
        have HX2:Hid (q9 (· = c.rb) (w.alloc (.cells #[.int .i64 0,.string ⟨#[]⟩,.int .i64 0,.slice none 0 0] 115)) w4):=((HX1.out.trans HX2a.out).mono (fun _ _ f=>f.elim)).trans hx4
        have kb:w4.heap[w.heap.size]?=some (.cells #[.int .i64 0,.string ⟨#[]⟩,.int .i64 0,.slice none 0 0] 115):=(HX2.out.block _ (z8 (heap_alloc_new w _)) hrn).trans (heap_alloc_new w _)
        have z0:=z6 kb 0
        have z1:=z6 kb 1
        have z2:=z6 kb 2
        have z3:=z6 kb 3
        have y0:=Q0 kb 0
        have y1:=Q0 kb 1
        have y2:=Q0 kb 2
        have y3:=Q0 kb 3
        clear kb
        have HR2:=q8 hr4
        clear hx4 hr4)
  refine bodyPost_ret (v:=.tuple #[.agg #[.int .i64 0,.string ⟨#[]⟩,.int .i64 0,.slice none 0 0],.bool false]) (by simp [results,Tryz.results72,go_sem,z0,z1,z2,z3]) rfl ?_
  exact V6 HX0.out HX2.out HR2.out (Z5 _ _ _ _ _ _) hrb htb hsb HNV.out
theorem qy8 (c:W9) (pl er:Int) (n:Nat):∀ (w:World) (ts:List Tk) (d:Int),ts.length<=n->PR w c ts d pl er->Calls Tryz.prog 72 #[.pointer (some ⟨c.rb,0,none⟩)] w (X5 w c d pl er (K6 c.N n d ts)):=by
 induction n with
 | zero =>
  intro w ts d hn h
  obtain ⟨t,us,rfl⟩:=h.head
  simp at hn
 | succ n ih =>
  intro w ts d hn h
  obtain ⟨t,us,rfl⟩:=h.head
  cases ho:(t.txt.toList == [40]) with
  | true =>
   have ho':t.txt.toList=[40]:=beq_iff_eq.1 ho
   have hne:t.txt.toList ≠ []:=by rw [ho'];simp
   have h1:=h.wf.tail hne
   obtain ⟨u,us0,rfl⟩:∃ u us0,us=u :: us0:=by
    cases us with
    | nil=>exact absurd rfl h1.ne
    | cons u us0=>exact ⟨u,us0,rfl⟩
   refine qy6 _ h ho (fun W hW=>?_)
   by_cases hd:30<=d
   ·have er':K6 c.N (n+1) d (t :: u :: us0)=.no 6 t.pos:=by rw [K6,if_pos ho',if_pos hd]
    rw [er'];exact qy5 hW hd
   ·have hd':d < 30:=by omega
    cases hh:ze9 u.txt.toList with
    | none =>
     have er':K6 c.N (n+1) d (t :: u :: us0)=.no 2 u.pos:=by
      rw [K6,if_pos ho',if_neg hd]
      simp only [zP0,hh,Option.map_none]
     rw [er'];exact qV2 hW hd' hne hh
    | some x =>
     have er':K6 c.N (n+1) d (t :: u :: us0)=J6 2 x.2.1 u.txt (O4 x.2.2 n (K6 c.N n (d+1)) (X0 c.N n (d+1)) (W7 5) us0):=by
      rw [K6,if_pos ho',if_neg hd]
      simp only [zP0,hh,Option.map_some]
     have hune:u.txt.toList ≠ []:=by
      intro e
      rw [e] at hh
      rw [show ze9 []=none from by kernel_rfl] at hh
      cases hh
     rw [er']
     exact jp5 n x hW hd' hne hh hune (by simp at hn;omega) _ _ (zS0 c.N n (d+1)) (zs7 c.N n (d+1)) (fun W' ts' hl hP=>ih W' ts' (d+1) hl hP) (fun W' ts' hl hP=>jg2 c pl er n W' ts' (d+1) hl hP)
  | false =>
   have ho':¬t.txt.toList=[40]:=by simpa using ho
   by_cases h1:t.txt.toList=zl8
   ·have er':K6 c.N (n+1) d (t :: us)=.ok (.mk 0 t.txt 0 []) us:=by rw [K6.eq_def];simp only;rw [if_neg ho',if_pos (Or.inl h1)]
    rw [er'];exact zZ6 h ho h1
   ·by_cases h2:t.txt.toList=zg6
    ·have er':K6 c.N (n+1) d (t :: us)=.ok (.mk 0 t.txt 0 []) us:=by rw [K6.eq_def];simp only;rw [if_neg ho',if_pos (Or.inr h2)]
     rw [er'];exact zU6 h ho h2
    ·have er':K6 c.N (n+1) d (t :: us)=.no 2 t.pos:=by rw [K6.eq_def];simp only;rw [if_neg ho',if_neg (fun e=>e.elim h1 h2)]
     rw [er'];exact qy7 h ho h1 h2
end Go.Proofs.YtegbdaffhpiacaaGreatDoor
