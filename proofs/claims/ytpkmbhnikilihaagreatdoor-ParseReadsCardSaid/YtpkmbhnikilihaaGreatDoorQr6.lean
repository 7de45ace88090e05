/- The landed reader of values: wordValue, single. -/
import Derived.Test.YtpkmbhnikilihaaGreatDoorQr5
set_option maxRecDepth 100000
set_option maxHeartbeats 8000000
namespace Go.Proofs.YtpkmbhnikilihaaGreatDoor
open Go.RowKit
def Cw (k n:Int) (s:ByteArray):Value:=.agg #[.int .i64 k,.int .i64 n,.string s,.slice none 0 0,.slice none 0 0]
def Wn (s:ByteArray):Int × Int × ByteArray:=
 if s.data.toList=Zx6 then (0,0,⟨#[]⟩) else if s.data.toList=Yac then (1,1,⟨#[]⟩) else if s.data.toList=Zkj then (1,0,⟨#[]⟩) else (5,0,s)
def Zo (t:Tok):Option (Int × Int × ByteArray):=
 if t.1=2 then some (Wn t.2)
 else if t.1=3 then (if Ja (Mm t.2.data.toList)=true then some (2,Mm t.2.data.toList,⟨#[]⟩) else some (3,0,t.2))
 else if t.1=4 then some (3,0,t.2) else if t.1=5 then some (4,0,t.2) else none
theorem Zza {s:ByteArray} {l:List UInt8} {b:Bool} (h:(s.toList == l)=b):(s.data.toList=l) ↔ b=true:=by
 rw [Lib.toList_data] at h
 rw [← h];simp
theorem Ycs (s:ByteArray) (w:World):Calls Tryz.prog 188 #[.string s] w fun e w'=>e=.returned (Cw (Wn s).1 (Wn s).2.1 (Wn s).2.2)∧Below w.heap.size w w':=by
 obtain ⟨b1,h1⟩:∃ b,(s.toList == [110,117,108,108])=b:=⟨_,rfl⟩
 obtain ⟨b2,h2⟩:∃ b,(s.toList == [116,114,117,101])=b:=⟨_,rfl⟩
 obtain ⟨b3,h3⟩:∃ b,(s.toList == [102,97,108,115,101])=b:=⟨_,rfl⟩
 have hw:Wn s=if b1=true then (0,0,⟨#[]⟩) else if b2=true then (1,1,⟨#[]⟩) else if b3=true then (1,0,⟨#[]⟩) else (5,0,s):=by
   unfold Wn
   simp only [show (s.data.toList=Zx6)=(b1=true) from propext (Zza h1),show (s.data.toList=Yac)=(b2=true) from propext (Zza h2),show (s.data.toList=Zkj)=(b3=true) from propext (Zza h3)]
 rw [hw]
 clear hw
 cases b1 with
 | true =>
   go_enter Tryz.func188,Tryz.ntmps188
   go_wp2_with fail
   exact Vb rfl rfl rfl (heap_alloc_last _ _) ⟨rfl,(Below.refl _ _).alloc (Nat.le_refl _) _⟩
 | false =>
 cases b2 with
 | true =>
   go_enter Tryz.func188,Tryz.ntmps188
   go_wp2_with fail
   exact Vb rfl rfl rfl (heap_alloc_last _ _) ⟨rfl,(Below.refl _ _).alloc (Nat.le_refl _) _⟩
 | false =>
 cases b3 with
 | true =>
   go_enter Tryz.func188,Tryz.ntmps188
   go_wp2_with fail
   exact Vb rfl rfl rfl (heap_alloc_last _ _) ⟨rfl,(Below.refl _ _).alloc (Nat.le_refl _) _⟩
 | false =>
   go_enter Tryz.func188,Tryz.ntmps188
   go_wp2_with fail
   exact Vb rfl rfl rfl (heap_alloc_last _ _) ⟨rfl,(Below.refl _ _).alloc (Nat.le_refl _) _⟩
theorem Zz3 (w:World) (a b:Value) (o:Obj):((w.alloc (.cells #[a,b] 70)).alloc o).heap[w.heap.size]? = some (.cells #[a,b] 70 (0,0))∧((w.alloc (.cells #[a,b] 70)).alloc o).heap[w.heap.size+1]? = some o∧Below w.heap.size w ((w.alloc (.cells #[a,b] 70)).alloc o):=by
 refine ⟨(Below.heap_alloc _ _ _ (by simp)).trans (heap_alloc_new _ _),?_,((Below.refl _ _).alloc (Nat.le_refl _) _).alloc (by simp) _⟩
 have h2:=heap_alloc_new (w.alloc (.cells #[a,b] 70)) o
 have e:(w.alloc (.cells #[a,b] 70)).heap.size=w.heap.size+1:=by simp
 rwa [e] at h2
theorem Dl {w w2:World} {b:Nat} (h:Below w.heap.size w w2) (hb:w.heap.size≤b) (x0 x1 x2 x3 x4:Value):Below w.heap.size w (((((w2.setCell ⟨b,0,none⟩ x0).setCell ⟨b,1,none⟩ x1).setCell ⟨b,2,none⟩ x2).setCell ⟨b,3,none⟩ x3).setCell ⟨b,4,none⟩ x4):=
 ((((h.setCell hb _).setCell hb _).setCell hb _).setCell hb _).setCell hb _
theorem N6 (t:Tok) (w:World) (hs:t.2.size≤9000) (hk:t.1=3→Up t.2.data.toList=3) (hw:Uj w):Calls Tryz.prog 118 #[.agg #[.int .i64 t.1,.string t.2]] w fun e w'=>match Zo t with
   | some (k,n,s)=>e=.returned (Cw k n s)∧Below w.heap.size w w'
   | none=>e=Y5 2∧Below w.heap.size w w':=by
 obtain ⟨tk,s⟩:=t
 simp only at hs hk ⊢
 obtain ⟨y0,y1,yb⟩:=Zz3 w (.int .i64 tk) (.string s) (.cells #[.int .i64 0,.int .i64 0,.string ⟨#[]⟩,.slice none 0 0,.slice none 0 0] 35)
 have Y:=Hd (And.intro y0 (And.intro y1 yb))
 have hsz:Hid (((w.alloc (.cells #[.int .i64 tk,.string s] 70)).alloc (.cells #[.int .i64 0,.int .i64 0,.string ⟨#[]⟩,.slice none 0 0,.slice none 0 0] 35)).heap.size=w.heap.size+2):=Hd (by simp)
 clear y0 y1 yb
 by_cases h2:tk=2
 · subst h2
   have hr:Zo (2,s)=some (Wn s):=by unfold Zo;rw [if_pos rfl]
   rw [hr]
   have HW:=fun wx=>Hd (Ycs s wx)
   obtain ⟨⟨k,n,x⟩,hx⟩:∃ p,Wn s=p:=⟨_,rfl⟩
   rw [hx] at HW ⊢
   show Calls _ _ _ _ fun e w'=>e=.returned (Cw k n x)∧Below w.heap.size w w'
   unfold Cw at HW ⊢
   clear hr hx hk
   go_enter Tryz.func118,Tryz.ntmps118
   go_wp2_with fail
   refine (HW _).out.mono ?_
   rintro e w2 ⟨rfl,hb⟩
   have z1:=(hb.block (w.heap.size+1) (by have:=hsz.out;omega)).trans Y.out.2.1
   have Z:=Hd (And.intro z1 (Y.out.2.2.trans (hb.mono (by have:=hsz.out;omega))))
   obtain ⟨g0,g1,g2,g3,g4,gz⟩:=gvc z1
   have z0':=gz 0
   have z1':=gz 1
   have z2':=gz 2
   have z3':=gz 3
   have z4':=gz 4
   clear hb z1 HW gz
   go_wp2_with fail
   exact Vb rfl rfl rfl (L7 Z.out.1) ⟨rfl,Dl Z.out.2 (Nat.le_succ _) _ _ _ _ _⟩
 · have e2:(tk == 2)=false:=by simpa using h2
   by_cases h3:tk=3
   · subst h3
     have hk3:=hk rfl
     cases hf:Ja (Mm s.data.toList) with
     | true =>
       have hr:Zo (3,s)=some (2,Mm s.data.toList,⟨#[]⟩):=by unfold Zo;rw [if_neg (by simp),if_pos rfl,if_pos hf]
       rw [hr]
       have HP:=fun wx=>Hd (So s (by omega) hk3 hf wx)
       generalize Mm s.data.toList=z at *
       have HI:=fun wx=>Hd (Yg0 z wx)
       show Calls _ _ _ _ fun e w'=>e=.returned (Cw 2 z ⟨#[]⟩)∧Below w.heap.size w w'
       unfold Cw
       clear hr hk hk3 hf h2
       obtain ⟨q0,q1,_,_⟩:=Ui Y.out.1
       go_enter Tryz.func118,Tryz.ntmps118
       go_wp2_with fail
       refine (HP _).out.mono ?_
       rintro e w2 ⟨rfl,hb⟩
       clear q0 q1
       have z0:=(hb.block w.heap.size (by have:=hsz.out;omega)).trans Y.out.1
       have z1:=(hb.block (w.heap.size+1) (by have:=hsz.out;omega)).trans Y.out.2.1
       have Z:=Hd (And.intro z1 (Y.out.2.2.trans (hb.mono (by have:=hsz.out;omega))))
       have hlt2:w.heap.size+2≤w2.heap.size:=by have:=hb.size;have:=hsz.out;omega
       obtain ⟨q0,q1,_,_⟩:=Ui z0
       obtain ⟨g0,g1,g2,g3,g4,gz⟩:=gvc z1
       have z0':=gz 0
       have z1':=gz 1
       have z2':=gz 2
       have z3':=gz 3
       have z4':=gz 4
       clear hb z0 z1 gz
       go_wp2_with fail
       refine (HI _).out.mono ?_
       rintro e w3 ⟨rfl,hb3⟩
       have z1:=(hb3.block (w.heap.size+1) (by omega)).trans Z.out.1
       have Z3:=Hd (And.intro z1 (Z.out.2.trans (hb3.mono (by omega))))
       clear q0 q1 g0 g1 g2 g3 g4 z0' z1' z2' z3' z4'
       obtain ⟨g0,g1,g2,g3,g4,gz⟩:=gvc z1
       have z0':=gz 0
       have z1':=gz 1
       have z2':=gz 2
       have z3':=gz 3
       have z4':=gz 4
       clear hb3 z1 gz
       go_wp2_with fail
       exact Vb rfl rfl rfl (L7 Z3.out.1) ⟨rfl,Dl Z3.out.2 (Nat.le_succ _) _ _ _ _ _⟩
     | false =>
       have hr:Zo (3,s)=some (3,0,s):=by unfold Zo;rw [if_neg (by simp),if_pos rfl,if_neg (by rw [hf];simp)]
       rw [hr]
       have HP:=fun wx (hx:Uj wx)=>Hd (Zzn s (by omega) hk3 hf wx hx)
       have HW:=Hd (hw.below Y.out.2.2)
       show Calls _ _ _ _ fun e w'=>e=.returned (Cw 3 0 s)∧Below w.heap.size w w'
       unfold Cw
       clear hr hk hk3 hf h2
       obtain ⟨q0,q1,_,_⟩:=Ui Y.out.1
       go_enter Tryz.func118,Tryz.ntmps118
       go_wp2_with fail
       refine (HP _ HW.out).out.mono ?_
       rintro e w2 ⟨⟨z,N,rfl⟩,hb⟩
       clear q0 q1
       have z0:=(hb.block w.heap.size (by have:=hsz.out;omega)).trans Y.out.1
       have z1:=(hb.block (w.heap.size+1) (by have:=hsz.out;omega)).trans Y.out.2.1
       have Z:=Hd (And.intro z1 (Y.out.2.2.trans (hb.mono (by have:=hsz.out;omega))))
       have hlt2:w.heap.size+2≤w2.heap.size:=by have:=hb.size;have:=hsz.out;omega
       obtain ⟨q0,q1,_,_⟩:=Ui z0
       obtain ⟨g0,g1,g2,g3,g4,gz⟩:=gvc z1
       have z0':=gz 0
       have z1':=gz 1
       have z2':=gz 2
       have z3':=gz 3
       have z4':=gz 4
       clear hb z0 z1 gz
       go_wp2_with fail
       exact Vb rfl rfl rfl (L7 Z.out.1) ⟨rfl,Dl Z.out.2 (Nat.le_succ _) _ _ _ _ _⟩
   · have e3:(tk == 3)=false:=by simpa using h3
     by_cases h4:tk=4
     · subst h4
       have hr:Zo (4,s)=some (3,0,s):=by unfold Zo;rw [if_neg (by simp),if_neg (by simp),if_pos rfl]
       rw [hr]
       show Calls _ _ _ _ fun e w'=>e=.returned (Cw 3 0 s)∧Below w.heap.size w w'
       unfold Cw
       clear hr hk h2 h3
       go_enter Tryz.func118,Tryz.ntmps118
       go_wp2_with fail
       exact Vb rfl rfl rfl (Zz3 w _ _ _).2.1 ⟨rfl,(Zz3 w _ _ _).2.2⟩
     · have e4:(tk == 4)=false:=by simpa using h4
       by_cases h5:tk=5
       · subst h5
         have hr:Zo (5,s)=some (4,0,s):=by unfold Zo;rw [if_neg (by simp),if_neg (by simp),if_neg (by simp),if_pos rfl]
         rw [hr]
         have HI:=fun wx=>Hd (Ycq s wx)
         show Calls _ _ _ _ fun e w'=>e=.returned (Cw 4 0 s)∧Below w.heap.size w w'
         unfold Cw
         clear hr hk h2 h3 h4
         go_enter Tryz.func118,Tryz.ntmps118
         go_wp2_with fail
         refine (HI _).out.mono ?_
         rintro e w2 ⟨rfl,hb⟩
         have z0:=(hb.block w.heap.size (by have:=hsz.out;omega)).trans Y.out.1
         have z1:=(hb.block (w.heap.size+1) (by have:=hsz.out;omega)).trans Y.out.2.1
         have Z:=Hd (And.intro z1 (Y.out.2.2.trans (hb.mono (by have:=hsz.out;omega))))
         have hlt2:w.heap.size+2≤w2.heap.size:=by have:=hb.size;have:=hsz.out;omega
         obtain ⟨q0,q1,_,_⟩:=Ui z0
         obtain ⟨g0,g1,g2,g3,g4,gz⟩:=gvc z1
         have z0':=gz 0
         have z1':=gz 1
         have z2':=gz 2
         have z3':=gz 3
         have z4':=gz 4
         clear hb z0 z1 gz
         go_wp2_with fail
         exact Vb rfl rfl rfl (L7 Z.out.1) ⟨rfl,Dl Z.out.2 (Nat.le_succ _) _ _ _ _ _⟩
       · have e5:(tk == 5)=false:=by simpa using h5
         have hr:Zo (tk,s)=none:=by unfold Zo;rw [if_neg h2,if_neg h3,if_neg h4,if_neg h5]
         rw [hr]
         show Calls _ _ _ _ fun e w'=>e=Y5 2∧Below w.heap.size w w'
         clear hr hk h2 h3 h4 h5
         go_enter Tryz.func118,Tryz.ntmps118
         go_wp2_with fail
         exact ⟨rfl,rfl,Y.out.2.2⟩
def KQ (w:World) (c0 c1 c2 c3 c4:Value) (W:World):Prop:=W.heap[w.heap.size]? = some (.cells #[c0,c1,c2,c3,c4] 35 (0,0))∧W.heap[w.heap.size+1]? = some (.cells #[.int .i64 0,.int .i64 0,.string ⟨#[]⟩,.slice none 0 0,.slice none 0 0] 35 (0,0))∧Below w.heap.size w W∧w.heap.size+2≤W.heap.size
theorem KQ.start (w:World) (c0 c1 c2 c3 c4:Value):KQ w c0 c1 c2 c3 c4 ((w.alloc (.cells #[c0,c1,c2,c3,c4] 35)).alloc (.cells #[.int .i64 0,.int .i64 0,.string ⟨#[]⟩,.slice none 0 0,.slice none 0 0] 35)):=by
 refine ⟨?_,heap_alloc2_new _ _ _,((Below.refl _ _).alloc (Nat.le_refl _) _).alloc (by simp) _,by simp⟩
 rw [Below.heap_alloc _ _ _ (by simp)]
 exact heap_alloc_new _ _
theorem KQ.grown {w W W':World} {c0 c1 c2 c3 c4:Value} (h:KQ w c0 c1 c2 c3 c4 W) (hb:∀ b,b < w.heap.size+2→W'.heap[b]? = W.heap[b]?) (hw:Below w.heap.size w W') (hs:W.heap.size≤W'.heap.size):KQ w c0 c1 c2 c3 c4 W':=
 ⟨(hb _ (by omega)).trans h.1,(hb _ (by omega)).trans h.2.1,hw,Nat.le_trans h.2.2.2 hs⟩
theorem KQ.next {w W W':World} {c0 c1 c2 c3 c4:Value} (h:KQ w c0 c1 c2 c3 c4 W) (hb:Below W.heap.size W W'):KQ w c0 c1 c2 c3 c4 W':=
 h.grown (fun b hl=>hb.block b (Nat.lt_of_lt_of_le hl h.2.2.2)) (h.2.2.1.trans (hb.mono h.2.2.1.size)) hb.size
def omB:ByteArray:=⟨#[123]⟩
def cmB:ByteArray:=⟨#[125]⟩
def X9:ByteArray:=⟨#[36]⟩
def Jq:ByteArray:=⟨#[58]⟩
def Zqa:List Tok→Except Int (VT × List Tok)
 | []=>.error 2
 | t :: r =>
   match Zo t with
   | none=>.error 2
   | some (k,n,s)=>.ok (.mk k n s .nil .nil,r)
mutual
def F3:Nat→Bool→Nat→List Tok→Except Int (VT × List Tok)
 | 0,_,_,_=>.error 2
 | f + 1,fx,d,ts =>
   if atB 1 oB ts=true then
    if d=16 then .error 4 else
     match Xd f fx (d+1) .nil ts.tail with
     | .error e=>.error e
     | .ok (l,r)=>.ok (.mk 6 0 ⟨#[]⟩ l .nil,r)
   else if atB 1 omB ts=true then
    if d=16 then .error 4 else
     match Vr f fx (d+1) .nil ts.tail with
     | .error e=>.error e
     | .ok (m,r)=>.ok (.mk 7 0 ⟨#[]⟩ .nil m,r)
   else if (!fx && atB 1 X9 ts)=true then
    match Zb ts.tail with
    | none=>.error 2
    | some (s,r)=>.ok (.mk 8 0 s .nil .nil,r)
   else Zqa ts
def Xd:Nat→Bool→Nat→VL→List Tok→Except Int (VL × List Tok)
 | 0,_,_,_,_=>.error 2
 | f+1,fx,d,acc,ts =>
   if atB 1 cB ts=true then .ok (acc,ts.tail) else
    match F3 f fx d ts with
    | .error e=>.error e
    | .ok (v,r)=>Xd f fx d (acc.snoc v) r
def Vr:Nat→Bool→Nat→VM→List Tok→Except Int (VM × List Tok)
 | 0,_,_,_,_=>.error 2
 | f+1,fx,d,acc,ts =>
   if atB 1 cmB ts=true then .ok (acc,ts.tail) else
    match Cj f fx d ts with
    | .error e=>.error e
    | .ok ((nm,v),r)=>Vr f fx d (acc.snoc nm v) r
def Cj:Nat→Bool→Nat→List Tok→Except Int ((ByteArray × VT) × List Tok)
 | 0,_,_,_=>.error 2
 | f + 1,fx,d,ts =>
   match Zb ts with
   | none=>.error 2
   | some (nm,r) =>
     if atB 1 Jq r=true then
      match F3 f fx d r.tail with
      | .error e=>.error e
      | .ok (v,r2)=>.ok ((nm,v),r2)
     else .error 2
end
theorem Ig {k:Int} {s:ByteArray} {ts:List Tok} (h:atB k s ts=true):ts.tail.length+1=ts.length:=by
 cases ts with
 | nil=>cases h
 | cons t ts=>rfl
theorem Wg {ts r:List Tok} {s:ByteArray} (h:Zb ts=some (s,r)):r.length+1=ts.length:=by
 cases ts with
 | nil=>cases h
 | cons t ts =>
   change (if t.1=2 then some (t.2,ts) else none)=some (s,r) at h
   split at h
   · have:=(Prod.mk.inj (Option.some.inj h)).2
     subst this;rfl
   · cases h
theorem Fi : ∀ f:Nat,
   (∀ fx d ts v r,F3 f fx d ts=.ok (v,r)→r.length+1≤ts.length) ∧
   (∀ fx d acc ts l r,Xd f fx d acc ts=.ok (l,r)→r.length+1≤ts.length) ∧
   (∀ fx d acc ts l r,Vr f fx d acc ts=.ok (l,r)→r.length+1≤ts.length) ∧
   (∀ fx d ts p r,Cj f fx d ts=.ok (p,r)→r.length+1≤ts.length):=by
 intro f
 induction f with
 | zero =>
   refine ⟨fun _ _ _ _ _ h=>?_,fun _ _ _ _ _ _ h=>?_,fun _ _ _ _ _ _ h=>?_,fun _ _ _ _ _ h=>?_⟩
   · rw [F3] at h;cases h
   · rw [Xd] at h;cases h
   · rw [Vr] at h;cases h
   · rw [Cj] at h;cases h
 | succ f ih =>
   obtain ⟨iv,il,im,ib⟩:=ih
   refine ⟨fun fx d ts v r h=>?_,fun fx d acc ts l r h=>?_,fun fx d acc ts l r h=>?_,fun fx d ts p r h=>?_⟩
   · rw [F3] at h
     split at h
     · rename_i ha
       have:=Ig ha
       split at h
       · cases h
       · cases hi:Xd f fx (d+1) .nil ts.tail with
         | error e=>rw [hi] at h;cases h
         | ok q =>
           obtain ⟨l,r'⟩:=q
           rw [hi] at h
           have:=il _ _ _ _ _ _ hi
           have e:=(Prod.mk.inj (Except.ok.inj h)).2
           subst e;omega
     · split at h
       · rename_i ha
         have:=Ig ha
         split at h
         · cases h
         · cases hi:Vr f fx (d+1) .nil ts.tail with
           | error e=>rw [hi] at h;cases h
           | ok q =>
             obtain ⟨l,r'⟩:=q
             rw [hi] at h
             have:=im _ _ _ _ _ _ hi
             have e:=(Prod.mk.inj (Except.ok.inj h)).2
             subst e;omega
       · split at h
         · rename_i ha
           have:=Ig (show atB 1 X9 ts=true by cases fx<;>simp_all)
           cases hn:Zb ts.tail with
           | none=>rw [hn] at h;cases h
           | some q =>
             obtain ⟨s,r'⟩:=q
             rw [hn] at h
             have:=Wg hn
             have e:=(Prod.mk.inj (Except.ok.inj h)).2
             subst e;omega
         · cases ts with
           | nil=>cases h
           | cons t ts =>
             unfold Zqa at h
             simp only at h
             cases hs:Zo t with
             | none=>rw [hs] at h;cases h
             | some q =>
               rw [hs] at h
               have e:=(Prod.mk.inj (Except.ok.inj h)).2
               subst e;exact Nat.le_refl _
   · rw [Xd] at h
     split at h
     · rename_i ha
       have:=Ig ha
       have e:=(Prod.mk.inj (Except.ok.inj h)).2
       subst e;omega
     · cases hi:F3 f fx d ts with
       | error e=>rw [hi] at h;cases h
       | ok q =>
         obtain ⟨v,r'⟩:=q
         rw [hi] at h
         have h1:=iv _ _ _ _ _ hi
         have h2:=il _ _ _ _ _ _ h
         omega
   · rw [Vr] at h
     split at h
     · rename_i ha
       have:=Ig ha
       have e:=(Prod.mk.inj (Except.ok.inj h)).2
       subst e;omega
     · cases hi:Cj f fx d ts with
       | error e=>rw [hi] at h;cases h
       | ok q =>
         obtain ⟨⟨nm,v⟩,r'⟩:=q
         rw [hi] at h
         have h1:=ib _ _ _ _ _ hi
         have h2:=im _ _ _ _ _ _ h
         omega
   · rw [Cj] at h
     cases hn:Zb ts with
     | none=>rw [hn] at h;cases h
     | some q =>
       obtain ⟨nm,r'⟩:=q
       rw [hn] at h
       have h0:=Wg hn
       simp only at h
       split at h
       · rename_i ha
         have h1:=Ig ha
         cases hi:F3 f fx d r'.tail with
         | error e=>rw [hi] at h;cases h
         | ok q =>
           obtain ⟨v,r2⟩:=q
           rw [hi] at h
           have h2:=iv _ _ _ _ _ hi
           have e:=(Prod.mk.inj (Except.ok.inj h)).2
           subst e;omega
       · cases h
def Ze (ts:List Tok):Prop:=∀ t ∈ ts,t.2.size≤9000∧(t.1=3→Up t.2.data.toList=3)
theorem Ze.tail {ts:List Tok} (h:Ze ts):Ze ts.tail:=fun t ht=>h t (List.mem_of_mem_tail ht)
theorem Ze.name {ts r:List Tok} {s:ByteArray} (h:Ze ts) (hn:Zb ts=some (s,r)):s.size≤9000∧Ze r:=by
 cases ts with
 | nil=>cases hn
 | cons t ts =>
   change (if t.1=2 then some (t.2,ts) else none)=some (s,r) at hn
   split at hn
   · obtain ⟨e1,e2⟩:=Prod.mk.inj (Option.some.inj hn)
     subst e1 e2
     exact ⟨(h t (by simp)).1,fun u hu=>h u (by simp [hu])⟩
   · cases hn
def KRd (r:Nat) (w:World):Prop:=∃ w0,Uj w0∧w0.heap.size≤r∧Below w0.heap.size w0 w
theorem KRd.laid {r:Nat} {w:World} (h:KRd r w):Uj w:=by
 obtain ⟨w0,h0,_,hb⟩:=h
 exact h0.below hb
theorem KRd.moved {r:Nat} {w w':World} (h:KRd r w) (m:Z0 r w w'):KRd r w':=by
 obtain ⟨w0,h0,hl,hb⟩:=h
 exact ⟨w0,h0,hl,⟨m.os.trans hb.os,m.tape.trans hb.tape,m.output.trans hb.output,Nat.le_trans hb.size m.size,fun k hk=>(m.block k (Nat.lt_of_lt_of_le hk hb.size) (fun e=>by injection e;omega)).trans (hb.block k hk)⟩⟩
def Ym8 (f:Nat):Prop:=∀ (fx:Bool) (d:Nat) (ts:List Tok) (r:Nat) (w:World),2*ts.length+1≤f→Ze ts→d≤16→Rd w r ts d→KRd r w →
 Calls Tryz.prog 49 #[.pointer (some ⟨r,0,none⟩),.bool fx] w fun e w'=>match F3 f fx d ts with
  | .ok (v,ts')=>(∃ d0 d1 d2 d3 d4,e=.returned (.agg #[d0,d1,d2,d3,d4])∧VP w' (Zs w w') v d0 d1 d2 d3 d4)∧Rd w' r ts' d∧Ze ts'∧Z0 r w w'
  | .error x=>e=Y5 x∧Z0 r w w'
def Ts (f:Nat) (fx:Bool) (d:Nat) (ts:List Tok):Except Int (VL × List Tok):=if d=16 then .error 4 else Xd f fx (d+1) .nil ts.tail
def Yi6 (f:Nat) (fx:Bool) (d:Nat) (ts:List Tok):Except Int (VM × List Tok):=if d=16 then .error 4 else Vr f fx (d+1) .nil ts.tail
def Ykj (f:Nat):Prop:=∀ (fx:Bool) (d:Nat) (ts:List Tok) (r:Nat) (w:World),2*ts.length≤f→Ze ts→d≤16→atB 1 oB ts=true→Rd w r ts d→KRd r w →
 Calls Tryz.prog 115 #[.pointer (some ⟨r,0,none⟩),.bool fx] w fun e w'=>match Ts f fx d ts with
  | .ok (l,ts')=>(∃ d0 d1 d2 d3 d4,e=.returned (.agg #[d0,d1,d2,d3,d4])∧VP w' (Zs w w') (.mk 6 0 ⟨#[]⟩ l .nil) d0 d1 d2 d3 d4)∧Rd w' r ts' d∧Ze ts'∧Z0 r w w'
  | .error x=>e=Y5 x∧Z0 r w w'
def Yn9 (f:Nat):Prop:=∀ (fx:Bool) (d:Nat) (ts:List Tok) (r:Nat) (w:World),2*ts.length+1≤f→Ze ts→d≤16→Rd w r ts d→KRd r w →
 Calls Tryz.prog 187 #[.pointer (some ⟨r,0,none⟩),.bool fx] w fun e w'=>match Cj f fx d ts with
  | .ok ((nm,v),ts')=>(∃ d0 d1 d2 d3 d4,e=.returned (.agg #[.string nm,d0,d1,d2,d3,d4])∧nm.size≤9000∧VP w' (Zs w w') v d0 d1 d2 d3 d4)∧Rd w' r ts' d∧Ze ts'∧Z0 r w w'
  | .error x=>e=Y5 x∧Z0 r w w'
def Ynk (f:Nat):Prop:=∀ (fx:Bool) (d:Nat) (ts:List Tok) (r:Nat) (w:World),2*ts.length≤f→Ze ts→d≤16→atB 1 omB ts=true→Rd w r ts d→KRd r w →
 Calls Tryz.prog 116 #[.pointer (some ⟨r,0,none⟩),.bool fx] w fun e w'=>match Yi6 f fx d ts with
  | .ok (l,ts')=>(∃ d0 d1 d2 d3 d4,e=.returned (.agg #[d0,d1,d2,d3,d4])∧VP w' (Zs w w') (.mk 7 0 ⟨#[]⟩ .nil l) d0 d1 d2 d3 d4)∧Rd w' r ts' d∧Ze ts'∧Z0 r w w'
  | .error x=>e=Y5 x∧Z0 r w w'
theorem Zyq {f:Nat} {fx:Bool} {d:Nat} {ts:List Tok} (h:atB 1 oB ts=true):F3 (f+1) fx d ts=(match Ts f fx d ts with | .error e=>.error e | .ok (l,r)=>.ok (.mk 6 0 ⟨#[]⟩ l .nil,r)):=by
 rw [F3,if_pos h]
 unfold Ts
 by_cases hd:d=16
 · rw [if_pos hd,if_pos hd]
 · rw [if_neg hd,if_neg hd]
theorem Ygf {f:Nat} {fx:Bool} {d:Nat} {ts:List Tok} (h0:atB 1 oB ts=false) (h:atB 1 omB ts=true):F3 (f+1) fx d ts=(match Yi6 f fx d ts with | .error e=>.error e | .ok (l,r)=>.ok (.mk 7 0 ⟨#[]⟩ .nil l,r)):=by
 rw [F3,if_neg (by rw [h0];simp),if_pos h]
 unfold Yi6
 by_cases hd:d=16
 · rw [if_pos hd,if_pos hd]
 · rw [if_neg hd,if_neg hd]
theorem Ygb {f:Nat} {fx:Bool} {d:Nat} {ts:List Tok} (h0:atB 1 oB ts=false) (h1:atB 1 omB ts=false) (h:(!fx && atB 1 X9 ts)=true):F3 (f+1) fx d ts=(match Zb ts.tail with|none=>.error 2|some (s,r)=>.ok (.mk 8 0 s .nil .nil,r)):=by
 rw [F3,if_neg (by rw [h0];simp),if_neg (by rw [h1];simp),if_pos h]
theorem Zjk {f:Nat} {fx:Bool} {d:Nat} {ts:List Tok} (h0:atB 1 oB ts=false) (h1:atB 1 omB ts=false) (h:(!fx && atB 1 X9 ts)=false):F3 (f+1) fx d ts=Zqa ts:=by
 rw [F3,if_neg (by rw [h0];simp),if_neg (by rw [h1];simp),if_neg (by rw [h];simp)]
def Zyl (w:World) (r:Nat) (W:World):Prop:=W.heap[w.heap.size]? = some (.cells #[.int .i64 0,.int .i64 0,.string ⟨#[]⟩,.slice none 0 0,.slice none 0 0] 35 (0,0))∧Z0 r w W∧r < w.heap.size
theorem Zyl.start {w:World} {r:Nat} (hr:r < w.heap.size):Zyl w r (w.alloc (.cells #[.int .i64 0,.int .i64 0,.string ⟨#[]⟩,.slice none 0 0,.slice none 0 0] 35)):=⟨heap_alloc_new _ _,Z0.of_below ((Below.refl _ _).alloc (Nat.le_refl _) _),hr⟩
theorem Zyl.next {w:World} {r:Nat} {W W':World} (h:Zyl w r W) (m:Z0 r W W'):Zyl w r W':=⟨m.keep h.1 (by have:=h.2.2;omega),h.2.1.trans m,h.2.2⟩
abbrev set5 (W:World) (b:Nat) (x0 x1 x2 x3 x4:Value):World:=((((W.setCell ⟨b,0,none⟩ x0).setCell ⟨b,1,none⟩ x1).setCell ⟨b,2,none⟩ x2).setCell ⟨b,3,none⟩ x3).setCell ⟨b,4,none⟩ x4
theorem Bl (W:World) (b:Nat) (x0 x1 x2 x3 x4:Value):(set5 W b x0 x1 x2 x3 x4).heap.size=W.heap.size:=by simp [set5,World.setCell]
theorem Wm (W:World) (b:Nat) (x0 x1 x2 x3 x4:Value) {k:Nat} (h:k ≠ b):(set5 W b x0 x1 x2 x3 x4).heap[k]? = W.heap[k]?:=by
 unfold set5
 rw [Below.heap_setCell _ _ _ _ h,Below.heap_setCell _ _ _ _ h,Below.heap_setCell _ _ _ _ h,Below.heap_setCell _ _ _ _ h,Below.heap_setCell _ _ _ _ h]
theorem Zyl.fin {w:World} {r:Nat} {W:World} (h:Zyl w r W) (x0 x1 x2 x3 x4:Value):(set5 W w.heap.size x0 x1 x2 x3 x4).heap[w.heap.size]? = some (.cells #[x0,x1,x2,x3,x4] 35 (0,0))∧Z0 r w (set5 W w.heap.size x0 x1 x2 x3 x4):=
 ⟨L7 h.1,((((h.2.1.put (Nat.le_refl _)).put (Nat.le_refl _)).put (Nat.le_refl _)).put (Nat.le_refl _)).put (Nat.le_refl _)⟩
theorem Rd.set5 {w:World} {r b:Nat} {x0 x1 x2 x3 x4:Value} {ts:List Tok} {d:Nat} (h:Rd w r ts d) (hb:r < b):Rd (set5 w b x0 x1 x2 x3 x4) r ts d:=((((h.set hb).set hb).set hb).set hb).set hb
theorem Yht {w W0 W:World} {v:VT} {c0 c1 c2 c3 c4 x0 x1 x2 x3 x4:Value} (h:VP W (Zs W0 W) v c0 c1 c2 c3 c4) (h0:w.heap.size+1≤W0.heap.size):VP (set5 W w.heap.size x0 x1 x2 x3 x4) (Zs w (set5 W w.heap.size x0 x1 x2 x3 x4)) v c0 c1 c2 c3 c4:=
 VP.keep (fun b hb=>by
  have h1:=hb.1
  have h2:=hb.2
  exact ⟨⟨by omega,by rw [Bl];exact h2⟩,Wm _ _ _ _ _ _ _ (by omega)⟩) _ _ _ _ _ _ h
theorem Qy (w:World) (P:Nat→Prop) (k n:Int) (s:ByteArray) (hs:s.size≤9000):VP w P (.mk k n s .nil .nil) (.int .i64 k) (.int .i64 n) (.string s) (.slice none 0 0) (.slice none 0 0):=by
 unfold VP
 exact ⟨rfl,rfl,rfl,by omega,⟨none,0,rfl,Nat.zero_le _,by unfold LP;trivial⟩,none,0,rfl,Nat.zero_le _,by unfold MP;trivial⟩
theorem Ygt (f:Nat) (HL:Ykj f) (fx:Bool) (d:Nat) (ts:List Tok) (r:Nat) (w:World) (hf:2*ts.length+1≤f+1) (hG:Ze ts) (hd:d≤16) (hR:Rd w r ts d) (hK:KRd r w) (hb:atB 1 oB ts=true) :
 Calls Tryz.prog 49 #[.pointer (some ⟨r,0,none⟩),.bool fx] w fun e w'=>match F3 (f+1) fx d ts with
   | .ok (v,ts')=>(∃ d0 d1 d2 d3 d4,e=.returned (.agg #[d0,d1,d2,d3,d4])∧VP w' (Zs w w') v d0 d1 d2 d3 d4)∧Rd w' r ts' d∧Ze ts'∧Z0 r w w'
   | .error x=>e=Y5 x∧Z0 r w w':=by
 have K0:=Hd (Zyl.start hR.lt)
 have B0:=Hd ((Below.refl w.heap.size w).alloc (Nat.le_refl _) (.cells #[.int .i64 0,.int .i64 0,.string ⟨#[]⟩,.slice none 0 0,.slice none 0 0] 35))
 have HA:=Hd (U6 r ts d 1 oB _ (hR.below B0.out))
 have C:=Hd (HL fx d ts r _ (by omega) hG hd hb (hR.below B0.out) (hK.moved (Z0.of_below B0.out)))
 rw [Zyq hb]
 rw [hb] at HA
 have hsz:Hid ((w.alloc (.cells #[.int .i64 0,.int .i64 0,.string ⟨#[]⟩,.slice none 0 0,.slice none 0 0] 35)).heap.size=w.heap.size+1):=Hd (by simp)
 clear hR hK hb hf hG
 cases hl:Ts f fx d ts with
 | error x =>
   rw [hl] at C
   show Calls _ _ _ _ fun e w'=>e=Y5 x∧Z0 r w w'
   go_enter Tryz.func49,Tryz.ntmps49
   go_wp2_with fail
   refine HA.out.mono ?_
   rintro e w1 ⟨rfl,rfl⟩
   go_wp2_with fail
   refine C.out.mono ?_
   rintro e w2 ⟨rfl,m2⟩
   exact ⟨rfl,rfl,K0.out.2.1.trans m2⟩
 | ok p =>
   obtain ⟨l,ts1⟩:=p
   rw [hl] at C
   show Calls _ _ _ _ fun e w'=>(∃ d0 d1 d2 d3 d4,e=.returned (.agg #[d0,d1,d2,d3,d4])∧VP w' (Zs w w') (.mk 6 0 ⟨#[]⟩ l .nil) d0 d1 d2 d3 d4)∧Rd w' r ts1 d∧Ze ts1∧Z0 r w w'
   clear hl
   go_enter Tryz.func49,Tryz.ntmps49
   go_wp2_with fail
   refine HA.out.mono ?_
   rintro e w1 ⟨rfl,rfl⟩
   go_wp2_with fail
   refine C.out.mono ?_
   rintro e w2 ⟨⟨d0,d1,d2,d3,d4,rfl,hv⟩,r2,g2,m2⟩
   have HV:=Hd hv
   have R2:=Hd (And.intro r2 g2)
   have K2:=Hd (K0.out.next m2)
   unfold VP at hv
   obtain ⟨rfl,rfl,rfl,_,⟨A3,c3,rfl,_,_⟩,A4,c4,rfl,_,_⟩:=hv
   obtain ⟨q0,q1,q2,q3,q4,qz⟩:=gvc K2.out.1
   have z0:=qz 0
   have z1:=qz 1
   have z2:=qz 2
   have z3:=qz 3
   have z4:=qz 4
   clear r2 g2 m2 C HA K0 qz
   go_wp2_with fail
   refine Vb rfl rfl rfl (K2.out.fin _ _ _ _ _).1 ⟨⟨_,_,_,_,_,rfl,Yht HV.out (Nat.le_of_eq hsz.out.symm)⟩,R2.out.1.set5 K2.out.2.2,R2.out.2,(K2.out.fin _ _ _ _ _).2⟩
theorem Yjc (f:Nat) (HL:Ynk f) (fx:Bool) (d:Nat) (ts:List Tok) (r:Nat) (w:World) (hf:2*ts.length+1≤f+1) (hG:Ze ts) (hd:d≤16) (hR:Rd w r ts d) (hK:KRd r w) (h0:atB 1 oB ts=false) (hb:atB 1 omB ts=true) :
 Calls Tryz.prog 49 #[.pointer (some ⟨r,0,none⟩),.bool fx] w fun e w'=>match F3 (f+1) fx d ts with
   | .ok (v,ts')=>(∃ d0 d1 d2 d3 d4,e=.returned (.agg #[d0,d1,d2,d3,d4])∧VP w' (Zs w w') v d0 d1 d2 d3 d4)∧Rd w' r ts' d∧Ze ts'∧Z0 r w w'
   | .error x=>e=Y5 x∧Z0 r w w':=by
 have K0:=Hd (Zyl.start hR.lt)
 have B0:=Hd ((Below.refl w.heap.size w).alloc (Nat.le_refl _) (.cells #[.int .i64 0,.int .i64 0,.string ⟨#[]⟩,.slice none 0 0,.slice none 0 0] 35))
 have HA:=Hd (U6 r ts d 1 oB _ (hR.below B0.out))
 have HA2:=Hd (U6 r ts d 1 omB _ (hR.below B0.out))
 have C:=Hd (HL fx d ts r _ (by omega) hG hd hb (hR.below B0.out) (hK.moved (Z0.of_below B0.out)))
 rw [Ygf h0 hb]
 rw [h0] at HA
 rw [hb] at HA2
 have hsz:Hid ((w.alloc (.cells #[.int .i64 0,.int .i64 0,.string ⟨#[]⟩,.slice none 0 0,.slice none 0 0] 35)).heap.size=w.heap.size+1):=Hd (by simp)
 clear hR hK hb hf hG h0
 cases hl:Yi6 f fx d ts with
 | error x =>
   rw [hl] at C
   show Calls _ _ _ _ fun e w'=>e=Y5 x∧Z0 r w w'
   go_enter Tryz.func49,Tryz.ntmps49
   go_wp2_with fail
   refine HA.out.mono ?_
   rintro e w1 ⟨rfl,rfl⟩
   go_wp2_with fail
   refine HA2.out.mono ?_
   rintro e w1 ⟨rfl,rfl⟩
   go_wp2_with fail
   refine C.out.mono ?_
   rintro e w2 ⟨rfl,m2⟩
   exact ⟨rfl,rfl,K0.out.2.1.trans m2⟩
 | ok p =>
   obtain ⟨l,ts1⟩:=p
   rw [hl] at C
   show Calls _ _ _ _ fun e w'=>(∃ d0 d1 d2 d3 d4,e=.returned (.agg #[d0,d1,d2,d3,d4])∧VP w' (Zs w w') (.mk 7 0 ⟨#[]⟩ .nil l) d0 d1 d2 d3 d4)∧Rd w' r ts1 d∧Ze ts1∧Z0 r w w'
   clear hl
   go_enter Tryz.func49,Tryz.ntmps49
   go_wp2_with fail
   refine HA.out.mono ?_
   rintro e w1 ⟨rfl,rfl⟩
   go_wp2_with fail
   refine HA2.out.mono ?_
   rintro e w1 ⟨rfl,rfl⟩
   go_wp2_with fail
   refine C.out.mono ?_
   rintro e w2 ⟨⟨d0,d1,d2,d3,d4,rfl,hv⟩,r2,g2,m2⟩
   have HV:=Hd hv
   have R2:=Hd (And.intro r2 g2)
   have K2:=Hd (K0.out.next m2)
   unfold VP at hv
   obtain ⟨rfl,rfl,rfl,_,⟨A3,c3,rfl,_,_⟩,A4,c4,rfl,_,_⟩:=hv
   obtain ⟨q0,q1,q2,q3,q4,qz⟩:=gvc K2.out.1
   have z0:=qz 0
   have z1:=qz 1
   have z2:=qz 2
   have z3:=qz 3
   have z4:=qz 4
   clear r2 g2 m2 C HA HA2 K0 qz
   go_wp2_with fail
   refine Vb rfl rfl rfl (K2.out.fin _ _ _ _ _).1 ⟨⟨_,_,_,_,_,rfl,Yht HV.out (Nat.le_of_eq hsz.out.symm)⟩,R2.out.1.set5 K2.out.2.2,R2.out.2,(K2.out.fin _ _ _ _ _).2⟩
theorem Zzm {t:Tok} {ts:List Tok} (h:Zo t=none):Zqa (t :: ts)=.error 2:=by unfold Zqa;simp only [h]
theorem Zx0 {t:Tok} {ts:List Tok} {k n:Int} {s:ByteArray} (h:Zo t=some (k,n,s)):Zqa (t :: ts)=.ok (.mk k n s .nil .nil,ts):=by unfold Zqa;simp only [h]
theorem Bq {t:Tok} {k n:Int} {s:ByteArray} (ht:t.2.size≤9000) (h:Zo t=some (k,n,s)):s.size≤9000:=by
 have hz:(⟨#[]⟩:ByteArray).size=0:=rfl
 have h2:=h
 unfold Zo at h2
 split at h2
 · have h3:=Option.some.inj h2
   unfold Wn at h3
   repeat' split at h3
   all_goals
     have:=(Prod.mk.inj (Prod.mk.inj h3).2).2
     subst this
     omega
 · split at h2
   · split at h2
     · have:=(Prod.mk.inj (Prod.mk.inj (Option.some.inj h2)).2).2
       subst this;omega
     · have:=(Prod.mk.inj (Prod.mk.inj (Option.some.inj h2)).2).2
       subst this;exact ht
   · split at h2
     · have:=(Prod.mk.inj (Prod.mk.inj (Option.some.inj h2)).2).2
       subst this;exact ht
     · split at h2
       · have:=(Prod.mk.inj (Prod.mk.inj (Option.some.inj h2)).2).2
         subst this;exact ht
       · cases h2
theorem Ykb (f d:Nat) (ts:List Tok) (r:Nat) (w:World) (hG:Ze ts) (hR:Rd w r ts d) (h0:atB 1 oB ts=false) (h1:atB 1 omB ts=false) (hb:atB 1 X9 ts=true) :
 Calls Tryz.prog 49 #[.pointer (some ⟨r,0,none⟩),.bool false] w fun e w'=>match F3 (f+1) false d ts with
   | .ok (v,ts')=>(∃ d0 d1 d2 d3 d4,e=.returned (.agg #[d0,d1,d2,d3,d4])∧VP w' (Zs w w') v d0 d1 d2 d3 d4)∧Rd w' r ts' d∧Ze ts'∧Z0 r w w'
   | .error x=>e=Y5 x∧Z0 r w w':=by
 have K0:=Hd (Zyl.start hR.lt)
 have B0:=Hd ((Below.refl w.heap.size w).alloc (Nat.le_refl _) (.cells #[.int .i64 0,.int .i64 0,.string ⟨#[]⟩,.slice none 0 0,.slice none 0 0] 35))
 have HA:=Hd (U6 r ts d 1 oB _ (hR.below B0.out))
 have HA2:=Hd (U6 r ts d 1 omB _ (hR.below B0.out))
 rw [h0] at HA
 rw [h1] at HA2
 have HS:=Hd (Zv r ts d 1 X9 _ (hR.below B0.out))
 have hst:Vj 1 X9 ts=ts.tail:=by unfold Vj;rw [hb];rfl
 rw [hst,hb] at HS
 rw [Ygb h0 h1 (by rw [hb];rfl)]
 have hgt:=hG.tail
 clear hR hst hb h0 h1 hG
 cases hn:Zb ts.tail with
 | none =>
   have HP:=fun wx (hx:Rd wx r ts.tail d)=>Hd (by have:=Yd r ts.tail d wx hx;rw [hn] at this;exact this)
   show Calls _ _ _ _ fun e w'=>e=Y5 2∧Z0 r w w'
   clear hn hgt
   go_enter Tryz.func49,Tryz.ntmps49
   go_wp2_with fail
   refine HA.out.mono ?_
   rintro e w1 ⟨rfl,rfl⟩
   go_wp2_with fail
   refine HA2.out.mono ?_
   rintro e w1 ⟨rfl,rfl⟩
   go_wp2_with fail
   refine HS.out.mono ?_
   rintro e w2 ⟨rfl,r2,m2⟩
   have K2:=Hd (K0.out.next m2)
   have R2:=Hd r2
   clear r2 m2
   go_wp2_with fail
   refine (HP _ R2.out).out.mono ?_
   rintro e w3 ⟨rfl,m3⟩
   exact ⟨rfl,rfl,K2.out.2.1.trans m3⟩
 | some p =>
   obtain ⟨s,ts1⟩:=p
   have HP:=fun wx (hx:Rd wx r ts.tail d)=>Hd (by have:=Yd r ts.tail d wx hx;rw [hn] at this;exact this)
   have hg1:=Hd (hgt.name hn)
   show Calls _ _ _ _ fun e w'=>(∃ d0 d1 d2 d3 d4,e=.returned (.agg #[d0,d1,d2,d3,d4])∧VP w' (Zs w w') (.mk 8 0 s .nil .nil) d0 d1 d2 d3 d4)∧Rd w' r ts1 d∧Ze ts1∧Z0 r w w'
   clear hn hgt
   go_enter Tryz.func49,Tryz.ntmps49
   go_wp2_with fail
   refine HA.out.mono ?_
   rintro e w1 ⟨rfl,rfl⟩
   go_wp2_with fail
   refine HA2.out.mono ?_
   rintro e w1 ⟨rfl,rfl⟩
   go_wp2_with fail
   refine HS.out.mono ?_
   rintro e w2 ⟨rfl,r2,m2⟩
   have K2:=Hd (K0.out.next m2)
   have R2:=Hd r2
   clear r2 m2
   go_wp2_with fail
   refine (HP _ R2.out).out.mono ?_
   rintro e w3 ⟨rfl,r3,m3⟩
   have K3:=Hd (K2.out.next m3)
   have R3:=Hd r3
   obtain ⟨q0,q1,q2,q3,q4,qz⟩:=gvc K3.out.1
   have z0:=qz 0
   have z1:=qz 1
   have z2:=qz 2
   have z3:=qz 3
   have z4:=qz 4
   clear qz
   clear r3 m3 HP HS K0 K2 R2 HA HA2
   go_wp2_with fail
   refine Vb rfl rfl rfl (K3.out.fin _ _ _ _ _).1 ⟨⟨_,_,_,_,_,rfl,Qy _ _ 8 0 s hg1.out.1⟩,R3.out.set5 K3.out.2.2,hg1.out.2,(K3.out.fin _ _ _ _ _).2⟩
theorem Sb (f d:Nat) (ts:List Tok) (r:Nat) (w:World) (hG:Ze ts) (hR:Rd w r ts d) (hK:KRd r w) (h0:atB 1 oB ts=false) (h1:atB 1 omB ts=false) :
 Calls Tryz.prog 49 #[.pointer (some ⟨r,0,none⟩),.bool true] w fun e w'=>match F3 (f+1) true d ts with
   | .ok (v,ts')=>(∃ d0 d1 d2 d3 d4,e=.returned (.agg #[d0,d1,d2,d3,d4])∧VP w' (Zs w w') v d0 d1 d2 d3 d4)∧Rd w' r ts' d∧Ze ts'∧Z0 r w w'
   | .error x=>e=Y5 x∧Z0 r w w':=by
 have K0:=Hd (Zyl.start hR.lt)
 have B0:=Hd ((Below.refl w.heap.size w).alloc (Nat.le_refl _) (.cells #[.int .i64 0,.int .i64 0,.string ⟨#[]⟩,.slice none 0 0,.slice none 0 0] 35))
 have HA:=Hd (U6 r ts d 1 oB _ (hR.below B0.out))
 have HA2:=Hd (U6 r ts d 1 omB _ (hR.below B0.out))
 rw [h0] at HA
 rw [h1] at HA2
 have R0:=Hd (hR.below B0.out)
 have KD:=Hd (hK.moved (Z0.of_below B0.out))
 rw [Zjk h0 h1 rfl]
 clear hR h0 h1 hK
 cases ts with
 | nil =>
   have HT:=fun wx (hx:Rd wx r [] d)=>Hd (Zzc r d wx hx)
   show Calls _ _ _ _ fun e w'=>e=Y5 2∧Z0 r w w'
   go_enter Tryz.func49,Tryz.ntmps49
   go_wp2_with fail
   refine HA.out.mono ?_
   rintro e w1 ⟨rfl,rfl⟩
   go_wp2_with fail
   refine HA2.out.mono ?_
   rintro e w1 ⟨rfl,rfl⟩
   go_wp2_with fail
   refine (HT _ R0.out).out.mono ?_
   rintro e w3 ⟨rfl,m3⟩
   exact ⟨rfl,rfl,K0.out.2.1.trans m3⟩
 | cons t ts =>
   have HT:=fun wx (hx:Rd wx r (t :: ts) d)=>Hd (Di r t ts d wx hx)
   have HG:=Hd (hG t (by simp))
   have hgt:=Hd hG.tail
   have HSG:=fun wx (hx:Uj wx)=>Hd (N6 t wx HG.out.1 HG.out.2 hx)
   clear hG
   cases hs:Zo t with
   | none =>
     rw [hs] at HSG
     rw [Zzm hs]
     show Calls _ _ _ _ fun e w'=>e=Y5 2∧Z0 r w w'
     clear hs
     go_enter Tryz.func49,Tryz.ntmps49
     go_wp2_with fail
     refine HA.out.mono ?_
     rintro e w1 ⟨rfl,rfl⟩
     go_wp2_with fail
     refine HA2.out.mono ?_
     rintro e w1 ⟨rfl,rfl⟩
     go_wp2_with fail
     refine (HT _ R0.out).out.mono ?_
     rintro e w3 ⟨rfl,r3,m3⟩
     have K3:=Hd (K0.out.next m3)
     have D3:=Hd (KD.out.moved m3)
     clear r3 m3
     go_wp2_with fail
     refine (HSG _ D3.out.laid).out.mono ?_
     rintro e w4 ⟨rfl,hb4⟩
     exact ⟨rfl,rfl,K3.out.2.1.trans (Z0.of_below hb4)⟩
   | some p =>
     obtain ⟨k,n,s⟩:=p
     rw [hs] at HSG
     have hss:=Hd (Bq HG.out.1 hs)
     rw [Zx0 hs]
     show Calls _ _ _ _ fun e w'=>(∃ d0 d1 d2 d3 d4,e=.returned (.agg #[d0,d1,d2,d3,d4])∧VP w' (Zs w w') (.mk k n s .nil .nil) d0 d1 d2 d3 d4)∧Rd w' r ts d∧Ze ts∧Z0 r w w'
     unfold Cw at HSG
     clear hs
     go_enter Tryz.func49,Tryz.ntmps49
     go_wp2_with fail
     refine HA.out.mono ?_
     rintro e w1 ⟨rfl,rfl⟩
     go_wp2_with fail
     refine HA2.out.mono ?_
     rintro e w1 ⟨rfl,rfl⟩
     go_wp2_with fail
     refine (HT _ R0.out).out.mono ?_
     rintro e w3 ⟨rfl,r3,m3⟩
     have K3:=Hd (K0.out.next m3)
     have D3:=Hd (KD.out.moved m3)
     have R3:=Hd r3
     clear r3 m3
     go_wp2_with fail
     refine (HSG _ D3.out.laid).out.mono ?_
     rintro e w4 ⟨rfl,hb4⟩
     have K4:=Hd (K3.out.next (Z0.of_below hb4))
     have R4:=Hd (R3.out.below hb4)
     obtain ⟨q0,q1,q2,q3,q4,qz⟩:=gvc K4.out.1
     have z0:=qz 0
     have z1:=qz 1
     have z2:=qz 2
     have z3:=qz 3
     have z4:=qz 4
     clear qz
     clear hb4 K3 R3 D3 HSG HT
     go_wp2_with fail
     refine Vb rfl rfl rfl (K4.out.fin _ _ _ _ _).1 ⟨⟨_,_,_,_,_,rfl,Qy _ _ k n s hss.out⟩,R4.out.set5 K4.out.2.2,hgt.out,(K4.out.fin _ _ _ _ _).2⟩
theorem R7 (f d:Nat) (ts:List Tok) (r:Nat) (w:World) (hG:Ze ts) (hR:Rd w r ts d) (hK:KRd r w) (h0:atB 1 oB ts=false) (h1:atB 1 omB ts=false) (hb:atB 1 X9 ts=false) :
 Calls Tryz.prog 49 #[.pointer (some ⟨r,0,none⟩),.bool false] w fun e w'=>match F3 (f+1) false d ts with
   | .ok (v,ts')=>(∃ d0 d1 d2 d3 d4,e=.returned (.agg #[d0,d1,d2,d3,d4])∧VP w' (Zs w w') v d0 d1 d2 d3 d4)∧Rd w' r ts' d∧Ze ts'∧Z0 r w w'
   | .error x=>e=Y5 x∧Z0 r w w':=by
 have K0:=Hd (Zyl.start hR.lt)
 have B0:=Hd ((Below.refl w.heap.size w).alloc (Nat.le_refl _) (.cells #[.int .i64 0,.int .i64 0,.string ⟨#[]⟩,.slice none 0 0,.slice none 0 0] 35))
 have HA:=Hd (U6 r ts d 1 oB _ (hR.below B0.out))
 have HA2:=Hd (U6 r ts d 1 omB _ (hR.below B0.out))
 rw [h0] at HA
 rw [h1] at HA2
 have R0:=Hd (hR.below B0.out)
 have KD:=Hd (hK.moved (Z0.of_below B0.out))
 have HS:=Hd (Zv r ts d 1 X9 _ (hR.below B0.out))
 have hst:Vj 1 X9 ts=ts:=by unfold Vj;rw [hb];rfl
 rw [hst,hb] at HS
 rw [Zjk h0 h1 (by rw [hb];rfl)]
 clear hR hst hb h0 h1 hK
 cases ts with
 | nil =>
   have HT:=fun wx (hx:Rd wx r [] d)=>Hd (Zzc r d wx hx)
   show Calls _ _ _ _ fun e w'=>e=Y5 2∧Z0 r w w'
   go_enter Tryz.func49,Tryz.ntmps49
   go_wp2_with fail
   refine HA.out.mono ?_
   rintro e w1 ⟨rfl,rfl⟩
   go_wp2_with fail
   refine HA2.out.mono ?_
   rintro e w1 ⟨rfl,rfl⟩
   go_wp2_with fail
   refine HS.out.mono ?_
   rintro e w2 ⟨rfl,r2,m2⟩
   have K2:=Hd (K0.out.next m2)
   have R2:=Hd r2
   have D2:=Hd (KD.out.moved m2)
   clear r2 m2
   go_wp2_with fail
   refine (HT _ R2.out).out.mono ?_
   rintro e w3 ⟨rfl,m3⟩
   exact ⟨rfl,rfl,K2.out.2.1.trans m3⟩
 | cons t ts =>
   have HT:=fun wx (hx:Rd wx r (t :: ts) d)=>Hd (Di r t ts d wx hx)
   have HG:=Hd (hG t (by simp))
   have hgt:=Hd hG.tail
   have HSG:=fun wx (hx:Uj wx)=>Hd (N6 t wx HG.out.1 HG.out.2 hx)
   clear hG
   cases hs:Zo t with
   | none =>
     rw [hs] at HSG
     rw [Zzm hs]
     show Calls _ _ _ _ fun e w'=>e=Y5 2∧Z0 r w w'
     clear hs
     go_enter Tryz.func49,Tryz.ntmps49
     go_wp2_with fail
     refine HA.out.mono ?_
     rintro e w1 ⟨rfl,rfl⟩
     go_wp2_with fail
     refine HA2.out.mono ?_
     rintro e w1 ⟨rfl,rfl⟩
     go_wp2_with fail
     refine HS.out.mono ?_
     rintro e w2 ⟨rfl,r2,m2⟩
     have K2:=Hd (K0.out.next m2)
     have R2:=Hd r2
     have D2:=Hd (KD.out.moved m2)
     clear r2 m2
     go_wp2_with fail
     refine (HT _ R2.out).out.mono ?_
     rintro e w3 ⟨rfl,r3,m3⟩
     have K3:=Hd (K2.out.next m3)
     have D3:=Hd (D2.out.moved m3)
     clear r3 m3
     go_wp2_with fail
     refine (HSG _ D3.out.laid).out.mono ?_
     rintro e w4 ⟨rfl,hb4⟩
     exact ⟨rfl,rfl,K3.out.2.1.trans (Z0.of_below hb4)⟩
   | some p =>
     obtain ⟨k,n,s⟩:=p
     rw [hs] at HSG
     have hss:=Hd (Bq HG.out.1 hs)
     rw [Zx0 hs]
     show Calls _ _ _ _ fun e w'=>(∃ d0 d1 d2 d3 d4,e=.returned (.agg #[d0,d1,d2,d3,d4])∧VP w' (Zs w w') (.mk k n s .nil .nil) d0 d1 d2 d3 d4)∧Rd w' r ts d∧Ze ts∧Z0 r w w'
     unfold Cw at HSG
     clear hs
     go_enter Tryz.func49,Tryz.ntmps49
     go_wp2_with fail
     refine HA.out.mono ?_
     rintro e w1 ⟨rfl,rfl⟩
     go_wp2_with fail
     refine HA2.out.mono ?_
     rintro e w1 ⟨rfl,rfl⟩
     go_wp2_with fail
     refine HS.out.mono ?_
     rintro e w2 ⟨rfl,r2,m2⟩
     have K2:=Hd (K0.out.next m2)
     have R2:=Hd r2
     have D2:=Hd (KD.out.moved m2)
     clear r2 m2
     go_wp2_with fail
     refine (HT _ R2.out).out.mono ?_
     rintro e w3 ⟨rfl,r3,m3⟩
     have K3:=Hd (K2.out.next m3)
     have D3:=Hd (D2.out.moved m3)
     have R3:=Hd r3
     clear r3 m3
     go_wp2_with fail
     refine (HSG _ D3.out.laid).out.mono ?_
     rintro e w4 ⟨rfl,hb4⟩
     have K4:=Hd (K3.out.next (Z0.of_below hb4))
     have R4:=Hd (R3.out.below hb4)
     obtain ⟨q0,q1,q2,q3,q4,qz⟩:=gvc K4.out.1
     have z0:=qz 0
     have z1:=qz 1
     have z2:=qz 2
     have z3:=qz 3
     have z4:=qz 4
     clear qz
     clear hb4 K3 R3 D3 HSG HT
     go_wp2_with fail
     refine Vb rfl rfl rfl (K4.out.fin _ _ _ _ _).1 ⟨⟨_,_,_,_,_,rfl,Qy _ _ k n s hss.out⟩,R4.out.set5 K4.out.2.2,hgt.out,(K4.out.fin _ _ _ _ _).2⟩
theorem Yeb (f:Nat) (HL:Ykj f) (HM:Ynk f):Ym8 (f+1):=by
 intro fx d ts r w hf hG hd hR hK
 cases h0:atB 1 oB ts with
 | true=>exact Ygt f HL fx d ts r w hf hG hd hR hK h0
 | false =>
   cases h1:atB 1 omB ts with
   | true=>exact Yjc f HM fx d ts r w hf hG hd hR hK h0 h1
   | false =>
     cases fx with
     | true=>exact Sb f d ts r w hG hR hK h0 h1
     | false =>
       cases hb:atB 1 X9 ts with
       | true=>exact Ykb f d ts r w hG hR h0 h1 hb
       | false=>exact R7 f d ts r w hG hR hK h0 h1 hb
theorem Ybg {f:Nat} {fx:Bool} {d:Nat} {ts:List Tok} (h:Zb ts=none):Cj (f+1) fx d ts=.error 2:=by rw [Cj,h]
theorem Ye8 {f:Nat} {fx:Bool} {d:Nat} {ts r:List Tok} {nm:ByteArray} (h:Zb ts=some (nm,r)) (hc:atB 1 Jq r=false):Cj (f+1) fx d ts=.error 2:=by
 rw [Cj,h];simp only [hc];rfl
theorem Yf4 {f:Nat} {fx:Bool} {d:Nat} {ts r:List Tok} {nm:ByteArray} {e:Int} (h:Zb ts=some (nm,r)) (hc:atB 1 Jq r=true) (hv:F3 f fx d r.tail=.error e):Cj (f+1) fx d ts=.error e:=by
 rw [Cj,h];simp only [hc,hv];rfl
theorem Yjh {f:Nat} {fx:Bool} {d:Nat} {ts r r2:List Tok} {nm:ByteArray} {v:VT} (h:Zb ts=some (nm,r)) (hc:atB 1 Jq r=true) (hv:F3 f fx d r.tail=.ok (v,r2)):Cj (f+1) fx d ts=.ok ((nm,v),r2):=by
 rw [Cj,h];simp only [hc,hv];rfl
abbrev Ynd:Obj:=.cells #[.string ⟨#[]⟩,.int .i64 0,.int .i64 0,.string ⟨#[]⟩,.slice none 0 0,.slice none 0 0] 98
def Yi2 (w:World) (r:Nat) (W:World):Prop:=W.heap[w.heap.size]? = some Ynd∧Z0 r w W∧r < w.heap.size
theorem Yi2.start {w:World} {r:Nat} (hr:r < w.heap.size):Yi2 w r (w.alloc Ynd):=⟨heap_alloc_new _ _,Z0.of_below ((Below.refl _ _).alloc (Nat.le_refl _) _),hr⟩
theorem Yi2.next {w:World} {r:Nat} {W W':World} (h:Yi2 w r W) (m:Z0 r W W'):Yi2 w r W':=⟨m.keep h.1 (by have:=h.2.2;omega),h.2.1.trans m,h.2.2⟩
abbrev set6 (W:World) (b:Nat) (x0 x1 x2 x3 x4 x5:Value):World:=(((((W.setCell ⟨b,0,none⟩ x0).setCell ⟨b,1,none⟩ x1).setCell ⟨b,2,none⟩ x2).setCell ⟨b,3,none⟩ x3).setCell ⟨b,4,none⟩ x4).setCell ⟨b,5,none⟩ x5
theorem Ya5 (W:World) (b:Nat) (x0 x1 x2 x3 x4 x5:Value):(set6 W b x0 x1 x2 x3 x4 x5).heap.size=W.heap.size:=by simp [set6,World.setCell]
theorem Zxt (W:World) (b:Nat) (x0 x1 x2 x3 x4 x5:Value) {k:Nat} (h:k ≠ b):(set6 W b x0 x1 x2 x3 x4 x5).heap[k]? = W.heap[k]?:=by
 unfold set6
 rw [Below.heap_setCell _ _ _ _ h,Below.heap_setCell _ _ _ _ h,Below.heap_setCell _ _ _ _ h,Below.heap_setCell _ _ _ _ h,Below.heap_setCell _ _ _ _ h,Below.heap_setCell _ _ _ _ h]
theorem Yjn {w:World} {b:Nat} {z0 z1 z2 z3 z4 z5 v0 v1 v2 v3 v4 v5:Value} {t:TypeId} (h:w.heap[b]? = some (.cells #[z0,z1,z2,z3,z4,z5] t (0,0))):(set6 w b v0 v1 v2 v3 v4 v5).heap[b]? = some (.cells #[v0,v1,v2,v3,v4,v5] t (0,0)):=
 heap_setCell_same _ b 5 _ _ _ (heap_setCell_same _ b 4 _ _ _ (heap_setCell_same _ b 3 _ _ _ (heap_setCell_same _ b 2 _ _ _ (heap_setCell_same _ b 1 _ _ _ (heap_setCell_same _ b 0 _ _ _ h)))))
theorem Yi2.fin {w:World} {r:Nat} {W:World} (h:Yi2 w r W) (x0 x1 x2 x3 x4 x5:Value):(set6 W w.heap.size x0 x1 x2 x3 x4 x5).heap[w.heap.size]? = some (.cells #[x0,x1,x2,x3,x4,x5] 98 (0,0))∧Z0 r w (set6 W w.heap.size x0 x1 x2 x3 x4 x5):=
 ⟨Yjn h.1,(((((h.2.1.put (Nat.le_refl _)).put (Nat.le_refl _)).put (Nat.le_refl _)).put (Nat.le_refl _)).put (Nat.le_refl _)).put (Nat.le_refl _)⟩
theorem Zq0 {w:World} {b:Nat} {z0 z1 z2 z3 z4 z5:Value} {t:TypeId} (h:w.heap[b]? = some (.cells #[z0,z1,z2,z3,z4,z5] t (0,0))):w.cell? ⟨b,0,none⟩=some z0∧w.cell? ⟨b,1,none⟩=some z1∧w.cell? ⟨b,2,none⟩=some z2∧w.cell? ⟨b,3,none⟩=some z3∧w.cell? ⟨b,4,none⟩=some z4∧w.cell? ⟨b,5,none⟩=some z5∧∀ i,w.frozen? ⟨b,i,none⟩=false:=by
 refine ⟨?_,?_,?_,?_,?_,?_,fun i=>?_⟩
 all_goals first|(simp only [World.cell?,h];rfl)|simp [World.frozen?,h]
theorem Rd.set6 {w:World} {r b:Nat} {x0 x1 x2 x3 x4 x5:Value} {ts:List Tok} {d:Nat} (h:Rd w r ts d) (hb:r < b):Rd (set6 w b x0 x1 x2 x3 x4 x5) r ts d:=(((((h.set hb).set hb).set hb).set hb).set hb).set hb
theorem Yio {w W0 W:World} {v:VT} {c0 c1 c2 c3 c4 x0 x1 x2 x3 x4 x5:Value} (h:VP W (Zs W0 W) v c0 c1 c2 c3 c4) (h0:w.heap.size+1≤W0.heap.size):VP (set6 W w.heap.size x0 x1 x2 x3 x4 x5) (Zs w (set6 W w.heap.size x0 x1 x2 x3 x4 x5)) v c0 c1 c2 c3 c4:=
 VP.keep (fun b hb=>by
  have h1:=hb.1
  have h2:=hb.2
  exact ⟨⟨by omega,by rw [Ya5];exact h2⟩,Zxt _ _ _ _ _ _ _ _ (by omega)⟩) _ _ _ _ _ _ h
theorem Ym6 {R:Ending→World→Prop} {fn:Func} {a:Act} {W:World} {c0 c1 c2 c3 c4 c5:Value} {p b:Nat} (hf:fn.results=#[.cell p 98]) (h2:a.tmps.getD p undef=.pointer (some ⟨b,0,none⟩)) (hd:a.defers=[])
  (hc:W.heap[b]? = some (.cells #[c0,c1,c2,c3,c4,c5] 98 (0,0))) (hR:R (.returned (.agg #[c0,c1,c2,c3,c4,c5])) W):bodyPost Tryz.prog fn R .ret a W:=by
 have hl:(loadVar 98 ⟨b,0,none⟩).run Tryz.prog W=.ok (.agg #[c0,c1,c2,c3,c4,c5]) W:=
  run_loadVar_row W b 98 98 #[c0,c1,c2,c3,c4,c5] (0,0) _ hc Tryz.underlying98 rfl (by kernel_rfl)
 refine bodyPost_ret ?_ hd hR
 have h2':a.tmps[p]?.getD undef=.pointer (some ⟨b,0,none⟩):=by rw [← h2];simp
 simp [results,hf,h2',asAddr,hl]
theorem Ygd (f:Nat) (HV:Ym8 f):Yn9 (f+1):=by
 intro fx d ts r w hf hG hd hR hK
 have K0:=Hd (Yi2.start hR.lt)
 have B0:=Hd ((Below.refl w.heap.size w).alloc (Nat.le_refl _) Ynd)
 have R0:=Hd (hR.below B0.out)
 have D0:=Hd (hK.moved (Z0.of_below B0.out))
 have hsz:Hid ((w.alloc Ynd).heap.size=w.heap.size+1):=Hd (by simp)
 clear hR hK
 cases hn:Zb ts with
 | none =>
   have HP:=fun wx (hx:Rd wx r ts d)=>Hd (by have:=Yd r ts d wx hx;rw [hn] at this;exact this)
   rw [Ybg hn]
   show Calls _ _ _ _ fun e w'=>e=Y5 2∧Z0 r w w'
   clear hn hG
   go_enter Tryz.func187,Tryz.ntmps187
   go_wp2_with fail
   refine (HP _ R0.out).out.mono ?_
   rintro e w1 ⟨rfl,m1⟩
   exact ⟨rfl,rfl,K0.out.2.1.trans m1⟩
 | some p =>
   obtain ⟨nm,ts1⟩:=p
   have HP:=fun wx (hx:Rd wx r ts d)=>Hd (by have:=Yd r ts d wx hx;rw [hn] at this;exact this)
   have HN:=Hd (hG.name hn)
   have hln:=Wg hn
   clear hG
   cases hc:atB 1 Jq ts1 with
   | false =>
     have HC:=fun wx (hx:Rd wx r ts1 d)=>Hd (by have:=Iq r ts1 d 1 Jq wx hx;rw [hc] at this;simp only [Bool.false_eq_true,if_false] at this;exact this)
     rw [Ye8 hn hc]
     show Calls _ _ _ _ fun e w'=>e=Y5 2∧Z0 r w w'
     clear hn hc
     go_enter Tryz.func187,Tryz.ntmps187
     go_wp2_with fail
     refine (HP _ R0.out).out.mono ?_
     rintro e w1 ⟨rfl,r1,m1⟩
     have K1:=Hd (K0.out.next m1)
     have R1:=Hd r1
     clear r1 m1
     go_wp2_with fail
     refine (HC _ R1.out).out.mono ?_
     rintro e w2 ⟨rfl,m2⟩
     exact ⟨rfl,rfl,K1.out.2.1.trans m2⟩
   | true =>
     have HC:=fun wx (hx:Rd wx r ts1 d)=>Hd (by have:=Iq r ts1 d 1 Jq wx hx;rw [hc] at this;simp only [if_true] at this;exact this)
     have hlt:=Ig hc
     have CV:=fun wx (hx:Rd wx r ts1.tail d) (hd:KRd r wx)=>Hd (HV fx d ts1.tail r wx (by omega) HN.out.2.tail (by assumption) hx hd)
     cases hv:F3 f fx d ts1.tail with
     | error x =>
       rw [hv] at CV
       rw [Yf4 hn hc hv]
       show Calls _ _ _ _ fun e w'=>e=Y5 x∧Z0 r w w'
       clear hn hc hv
       go_enter Tryz.func187,Tryz.ntmps187
       go_wp2_with fail
       refine (HP _ R0.out).out.mono ?_
       rintro e w1 ⟨rfl,r1,m1⟩
       have K1:=Hd (K0.out.next m1)
       have R1:=Hd r1
       have D1:=Hd (D0.out.moved m1)
       clear r1 m1
       go_wp2_with fail
       refine (HC _ R1.out).out.mono ?_
       rintro e w2 ⟨rfl,r2,m2⟩
       have K2:=Hd (K1.out.next m2)
       have R2:=Hd r2
       have D2:=Hd (D1.out.moved m2)
       clear r2 m2
       go_wp2_with fail
       refine (CV _ R2.out D2.out).out.mono ?_
       rintro e w3 ⟨rfl,m3⟩
       exact ⟨rfl,rfl,K2.out.2.1.trans m3⟩
     | ok p =>
       obtain ⟨v,ts2⟩:=p
       rw [hv] at CV
       rw [Yjh hn hc hv]
       show Calls _ _ _ _ fun e w'=>(∃ d0 d1 d2 d3 d4,e=.returned (.agg #[.string nm,d0,d1,d2,d3,d4])∧nm.size≤9000∧VP w' (Zs w w') v d0 d1 d2 d3 d4)∧Rd w' r ts2 d∧Ze ts2∧Z0 r w w'
       clear hn hc hv
       go_enter Tryz.func187,Tryz.ntmps187
       go_wp2_with fail
       refine (HP _ R0.out).out.mono ?_
       rintro e w1 ⟨rfl,r1,m1⟩
       have K1:=Hd (K0.out.next m1)
       have R1:=Hd r1
       have D1:=Hd (D0.out.moved m1)
       have s1:=m1.size
       clear r1 m1
       go_wp2_with fail
       refine (HC _ R1.out).out.mono ?_
       rintro e w2 ⟨rfl,r2,m2⟩
       have K2:=Hd (K1.out.next m2)
       have R2:=Hd r2
       have D2:=Hd (D1.out.moved m2)
       have s2:=m2.size
       clear r2 m2
       go_wp2_with fail
       refine (CV _ R2.out D2.out).out.mono ?_
       rintro e w3 ⟨⟨d0,d1,d2,d3,d4,rfl,hvp⟩,r3,g3,m3⟩
       have HVP:=Hd hvp
       have R3:=Hd (And.intro r3 g3)
       have K3:=Hd (K2.out.next m3)
       have HSZ:=Hd (show w.heap.size+1≤w2.heap.size by have:=hsz.out;omega)
       obtain ⟨vk,vn,vs,vl,vm⟩:=v
       unfold VP at hvp
       obtain ⟨rfl,rfl,rfl,_,⟨A3,c3,rfl,_,_⟩,A4,c4,rfl,_,_⟩:=hvp
       obtain ⟨q0,q1,q2,q3,q4,q5,qz⟩:=Zq0 K3.out.1
       have z0:=qz 0
       have z1:=qz 1
       have z2:=qz 2
       have z3:=qz 3
       have z4:=qz 4
       have z5:=qz 5
       clear r3 g3 m3 CV HC HP K0 K1 K2 R0 R1 R2 D0 D1 D2 qz s1 s2
       go_wp2_with fail
       refine Ym6 rfl rfl rfl (K3.out.fin _ _ _ _ _ _).1 ⟨⟨_,_,_,_,_,rfl,HN.out.1,Yio HVP.out HSZ.out⟩,R3.out.1.set6 K3.out.2.2,R3.out.2,(K3.out.fin _ _ _ _ _ _).2⟩
end Go.Proofs.YtpkmbhnikilihaaGreatDoor
