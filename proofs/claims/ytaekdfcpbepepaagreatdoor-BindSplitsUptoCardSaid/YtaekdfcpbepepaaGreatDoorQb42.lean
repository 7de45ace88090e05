/- schema: ScRule7. (gen_rules.py wrote it.) -/
import Derived.Test.YtaekdfcpbepepaaGreatDoorQb38
set_option maxRecDepth 100000
set_option maxHeartbeats 8000000
namespace Go.Proofs.YtaekdfcpbepepaaGreatDoor
open Go.RowKit
def un7B (D:List DefnT) (d:DefnT):Bool:=!(d.kind == 3) || d.parts.all fun s=>isaB D s 1
def rule7B (S:SchT):Bool:=S.defs.all (un7B S.defs)
theorem rule7_any (S:SchT) (c0 c1 c2:Value) (w:World) (B:Nat) (hB:B≤w.heap.size) (hz:SlimS S) (hS:TS w (fun b=>b < B) (encSch S) [c0,c1,c2]) :
  Calls Tryz.prog 60 #[.agg #[c0,c1,c2]] w fun e w'=>e=.returned (.bool (rule7B S))∧Below w.heap.size w w':=by
 have IS:=Hd (fun (s:ByteArray) (hs:s.size≤9223372036854775807) (wx:World) (hb:Below w.heap.size w wx)=>isa_any S s 1 c0 c1 c2 wx B (Nat.le_trans hB hb.size) hs hz (TS.low (hb.mono hB) hS))
 obtain ⟨A,k,e,hl,hR⟩:=sch_cells hS
 injection e with e0 e
 injection e with e1 e
 injection e with e2 e
 subst e0 e1 e2
 have HR:=Hd hR
 have HB:=Hd hB
 have B1:=Hd (dbelow_new w (.cells #[.slice A S.defs.length k,.string S.query,.string S.mutation] 24))
 have Y1:=Hd (heap_alloc_new w (.cells #[.slice A S.defs.length k,.string S.query,.string S.mutation] 24))
 have HE:Hid (rule7B S=S.defs.all (un7B S.defs)):=Hd rfl
 clear hB hS hR hz e
 go_enter Tryz.func60,Tryz.ntmps60
 go_upto_region 1 with fail
 generalize w.alloc (.cells #[.slice A S.defs.length k,.string S.query,.string S.mutation] 24)=w1 at B1 Y1 ⊢
 obtain ⟨y0,y1,y2⟩:=three_cells Y1.out
 go_wp2_with fail
 go_loopg [10] S.defs.length (fun g i wx=>∃ q:Nat,q+g=S.defs.length∧i=.int .i64 q∧Aside ((S.defs.take q).all (un7B S.defs)=true∧Below w.heap.size w wx∧wx.heap[w.heap.size]? = some (.cells #[.slice A S.defs.length k,.string S.query,.string S.mutation] 24 (0,0))))
 case atStart=>exact ⟨0,by omega,rfl,Blk.Aside.intro ⟨rfl,B1.out,Y1.out⟩⟩
 case round =>
  obtain ⟨q,hq,rfl,HX⟩:=hrel
  have HI:=Hd HX.out.1
  have BX:=Hd HX.out.2.1
  have YX:=Hd HX.out.2.2
  clear HX B1 Y1 y0 y1 y2
  cases gk with
  | zero =>
    obtain rfl:q=S.defs.length:=by omega
    have HA:=Hd (all_take_end HI.out)
    go_wp2_with fail
    go_ret
    exact ⟨by rw [HE.out,HA.out];rfl,BX.out⟩
  | succ g =>
    have hqn:q < S.defs.length:=by omega
    have hqn':(q:Int) < (S.defs.length:Int):=by omega
    obtain ⟨d,hx⟩:∃ x,S.defs[q]? = some x:=⟨_,List.getElem?_eq_getElem hqn⟩
    obtain ⟨b,o,cs,rfl,hb,hc,hT⟩:=rowOf_at 6 defn_len HR.out hx
    have HBL:=Hd (Nat.lt_of_lt_of_le hb HB.out)
    obtain ⟨Af,kf,Ax,kx,Ap,kp,Am,km,rfl,_,_,_,⟨hpl,hp⟩,_⟩:=defn_cells hT
    have g0:=(BX.out.cell (p:=⟨b,o+q*6,none⟩) HBL.out).trans (hc 0 _ rfl)
    have g1:=(BX.out.cell (p:=⟨b,o+q*6+1,none⟩) HBL.out).trans (hc 1 _ rfl)
    have g2:=(BX.out.cell (p:=⟨b,o+q*6+2,none⟩) HBL.out).trans (hc 2 _ rfl)
    have g3:=(BX.out.cell (p:=⟨b,o+q*6+3,none⟩) HBL.out).trans (hc 3 _ rfl)
    have g4:=(BX.out.cell (p:=⟨b,o+q*6+4,none⟩) HBL.out).trans (hc 4 _ rfl)
    have g5:=(BX.out.cell (p:=⟨b,o+q*6+5,none⟩) HBL.out).trans (hc 5 _ rfl)
    have HN:=Hd (fun h=>all_take_next (p:=un7B S.defs) HI.out hx h)
    have HM:=Hd (fun h=>all_take_no (p:=un7B S.defs) hx h)
    have HU:Hid (un7B S.defs d=(!(d.kind == 3) || d.parts.all fun s=>isaB S.defs s 1)):=Hd rfl
    have HP:=Hd hp
    generalize un7B S.defs d=ud at HN HM HU
    clear hx hb hc hT hp
    go_upto_region 4 with fail
    clear g0 g1 g2 g3 g4 g5
    have bn:=dbelow_new wr (.cells #[.int .i64 d.kind,.string d.name,.slice Af d.faces.length kf,.slice Ax d.fields.length kx,.slice Ap d.parts.length kp,.slice Am d.params.length km] 37)
    have B2:=Hd (BX.out.trans (bn.mono BX.out.size))
    have Y2:=Hd (heap_alloc_new wr (.cells #[.int .i64 d.kind,.string d.name,.slice Af d.faces.length kf,.slice Ax d.fields.length kx,.slice Ap d.parts.length kp,.slice Am d.params.length km] 37))
    have S2:=Hd ((bn.block _ (Array.getElem?_eq_some_iff.1 YX.out).1).trans YX.out)
    generalize wr.alloc (.cells #[.int .i64 d.kind,.string d.name,.slice Af d.faces.length kf,.slice Ax d.fields.length kx,.slice Ap d.parts.length kp,.slice Am d.params.length km] 37)=w2 at B2 Y2 S2 bn ⊢
    generalize wr.heap.size=g4 at Y2 ⊢
    clear bn BX YX
    obtain ⟨⟨y0,y1,y2,y3,y4,y5⟩,_⟩:=six_cells Y2.out
    cases e3:(d.kind == 3) with
    | false =>
      have e3':(d.kind != 3)=true:=by show (!(d.kind == 3))=true;rw [e3];rfl
      have HA:=Hd (HN.out (by rw [HU.out,e3];rfl))
      go_wp2_with fail
      go_roundg g
      case measure=>omega
      case rel=>exact ⟨q+1,by omega,by go_num,Blk.Aside.intro ⟨HA.out,B2.out,S2.out⟩⟩
    | true =>
      have e3':(d.kind != 3)=false:=by show (!(d.kind == 3))=false;rw [e3];rfl
      rw [e3] at HU
      go_wp2_with fail
      go_loopg [20] d.parts.length (fun g2 i wx=>∃ z:Nat,z+g2=d.parts.length∧i=.int .i64 z∧Aside ((d.parts.take z).all (fun s=>isaB S.defs s 1)=true∧Below w.heap.size w wx∧wx.heap[w.heap.size]? = some (.cells #[.slice (some ⟨b,o,none⟩) S.defs.length k,.string S.query,.string S.mutation] 24 (0,0))))
      case atStart=>exact ⟨0,by omega,rfl,Blk.Aside.intro ⟨rfl,B2.out,S2.out⟩⟩
      case round =>
       obtain ⟨z,hz,rfl,HX⟩:=hrel
       have HJ:=Hd HX.out.1
       have BX:=Hd HX.out.2.1
       have YX:=Hd HX.out.2.2
       clear HX B2 Y2 S2 y0 y1 y2 y3 y4 y5
       cases gk with
       | zero =>
         obtain rfl:z=d.parts.length:=by omega
         have HA:=Hd (HN.out (by rw [HU.out,all_take_end HJ.out];rfl))
         go_wp2_with fail
         go_roundg g
         case measure=>omega
         case rel=>exact ⟨q+1,by omega,by go_num,Blk.Aside.intro ⟨HA.out,BX.out,YX.out⟩⟩
       | succ g2 =>
         have hzn:z < d.parts.length:=by omega
         have hzn':(z:Int) < (d.parts.length:Int):=by omega
         obtain ⟨s,hs⟩:∃ x,d.parts[z]? = some x:=⟨_,List.getElem?_eq_getElem hzn⟩
         obtain ⟨b',o',cs',rfl,hb',hc',hT'⟩:=rowOf_at 1 len_str HP.out hs
         obtain ⟨rfl,hsz⟩:=str_one hT'
         have h0:w.cell? ⟨b',o'+z,none⟩=some (.string s):=by have h:=hc' 0 _ rfl;rw [Nat.mul_one] at h;exact h
         have g0:=(BX.out.cell (p:=⟨b',o'+z,none⟩) (Nat.lt_of_lt_of_le hb' HB.out)).trans h0
         have CI:=Hd (IS.out s hsz)
         have HN2:=Hd (fun h=>all_take_next (p:=fun s=>isaB S.defs s 1) HJ.out hs h)
         have HM2:=Hd (fun h=>all_take_no (p:=fun s=>isaB S.defs s 1) hs h)
         generalize hia:isaB S.defs s 1=ia at CI HN2 HM2
         clear hs hb' hc' hT' h0 hsz hia
         obtain ⟨y0,y1,y2⟩:=three_cells YX.out
         go_wp2_with fail
         refine (CI.out _ BX.out).mono ?_
         rintro e w5 ⟨rfl,hb⟩
         have B5:=Hd (BX.out.trans (hb.mono BX.out.size))
         have S5:=Hd ((hb.block _ (Array.getElem?_eq_some_iff.1 YX.out).1).trans YX.out)
         clear hb y0 y1 y2 g0 BX YX
         cases ia with
         | false =>
           have HA:=Hd (HM.out (by rw [HU.out,HM2.out rfl];rfl))
           go_wp2_with fail
           go_ret
           exact ⟨by rw [HE.out,HA.out];rfl,B5.out⟩
         | true =>
           have HA:=Hd (HN2.out rfl)
           go_wp2_with fail
           go_roundg g2
           case measure=>omega
           case rel=>exact ⟨z+1,by omega,by go_num,Blk.Aside.intro ⟨HA.out,B5.out,S5.out⟩⟩
section
variable {α:Type} [DecidableEq α]
def scanR (en:α→Bool):List α→Option (α × List α)
 | []=>none
 | x :: t=>if en x=true then scanR en t else some (x,t)
def insR (f:α→Bool) (a:α):α→Bool:=fun b=>if b=a then true else f b
def updR (L:α→List α) (a:α) (t:List α):α→List α:=fun b=>if b=a then t else L b
inductive RingS:(α→List α)→(α→Bool)→(α→Bool)→List α→Bool→(α→List α)→(α→Bool)→(α→Bool)→Prop
 | done {L bg en} : RingS L bg en [] false L bg en
 | pop {L bg en a w r L' bg' en'} : scanR en (L a)=none→RingS L (insR bg a) (insR en a) w r L' bg' en'→RingS L bg en (a :: w) r L' bg' en'
 | push {L bg en a w r L' bg' en' x t} : scanR en (L a)=some (x,t)→insR bg a x=false→RingS (updR L a t) (insR bg a) en (x :: a :: w) r L' bg' en'→RingS L bg en (a :: w) r L' bg' en'
 | hit {L bg en a w x t} : scanR en (L a)=some (x,t)→insR bg a x=true→RingS L bg en (a :: w) true L (insR bg a) en
omit [DecidableEq α] in
theorem scan_none {en:α→Bool} : ∀ {l:List α},scanR en l=none→∀ b,b ∈ l→en b=true
 | [],_,b,hb=>by cases hb
 | x :: t,h,b,hb=>by
   unfold scanR at h
   by_cases e:en x=true
   · rw [if_pos e] at h
     rcases List.mem_cons.1 hb with rfl|hb
     · exact e
     · exact scan_none h b hb
   · rw [if_neg e] at h;cases h
omit [DecidableEq α] in
theorem scan_some {en:α→Bool} {x:α} {t:List α} : ∀ {l:List α},scanR en l=some (x,t)→x ∈ l∧en x=false∧(∀ b,b ∈ t→b ∈ l)∧(∀ b,b ∈ l→b ∈ t∨en b=true∨b=x)∧t.length < l.length
 | [],h=>by cases h
 | y :: l,h=>by
   unfold scanR at h
   by_cases e:en y=true
   · rw [if_pos e] at h
     obtain ⟨h1,h2,h3,h4,h5⟩:=scan_some h
     refine ⟨List.mem_cons_of_mem _ h1,h2,fun b hb=>List.mem_cons_of_mem _ (h3 b hb),fun b hb=>?_,by rw [List.length_cons];omega⟩
     rcases List.mem_cons.1 hb with rfl|hb
     · exact .inr (.inl e)
     · exact h4 b hb
   · rw [if_neg e] at h
     injection h with h
     injection h with h1 h2
     subst h1 h2
     refine ⟨List.mem_cons_self ..,by simpa using e,fun b hb=>List.mem_cons_of_mem _ hb,fun b hb=>?_,by simp⟩
     rcases List.mem_cons.1 hb with rfl|hb
     · exact .inr (.inr rfl)
     · exact .inl hb
def WayI (L0 L:α→List α) (bg en:α→Bool):Option α→List α→Prop
 | _,[]=>True
 | up,a :: w=>(∀ u,up=some u→u ∈ L0 a∧bg a=true∧en a=false)∧(∀ b,b ∈ L0 a→b ∈ L a∨en b=true∨up=some b)∧WayI L0 L bg en (some a) w
structure RingI (L0 L:α→List α) (bg en:α→Bool) (way:List α):Prop where
 acc:∀ a,en a=true→Acc (fun b a=>b ∈ L0 a) a
 clo:∀ a,en a=true→∀ b,b ∈ L0 a→en b=true
 fresh:∀ a,bg a=false→L a=L0 a
 sub:∀ a b,b ∈ L a→b ∈ L0 a
 bw:∀ a,bg a=true→en a=true∨a ∈ way
 nd:way.Nodup
 way:WayI L0 L bg en none way
omit [DecidableEq α] in
theorem way_below {L0 L:α→List α} {bg en:α→Bool} : ∀ {up:Option α} {w:List α},up ≠ none→WayI L0 L bg en up w→∀ b,b ∈ w→bg b=true∧en b=false
 | _,[],_,_,b,hb=>by cases hb
 | up,a :: w,hu,h,b,hb=>by
   obtain ⟨h1,_,h3⟩:=h
   rcases List.mem_cons.1 hb with rfl|hb
   · cases up with
     | none=>exact absurd rfl hu
     | some u=>exact (h1 u rfl).2
   · exact way_below (by simp) h3 b hb
omit [DecidableEq α] in
theorem way_leads {L0 L:α→List α} {bg en:α→Bool} : ∀ {up:α} {w:List α},WayI L0 L bg en (some up) w→∀ b,b ∈ w→∃ c,c ∈ L0 b∧(c=up∨c ∈ w)
 | up,[],_,b,hb=>by cases hb
 | up,a :: w,h,b,hb=>by
   obtain ⟨h1,_,h3⟩:=h
   rcases List.mem_cons.1 hb with rfl|hb
   · exact ⟨up,(h1 up rfl).1,.inl rfl⟩
   · obtain ⟨c,hc,h⟩:=way_leads h3 b hb
     exact ⟨c,hc,.inr (by rcases h with rfl|h;exact List.mem_cons_self ..;exact List.mem_cons_of_mem _ h)⟩
omit [DecidableEq α] in
theorem not_acc {L0:α→List α} {T:α→Prop} (h:∀ a,T a→∃ b,b ∈ L0 a∧T b) {a:α} (ha:Acc (fun b a=>b ∈ L0 a) a) : ¬ T a:=by
 induction ha with
 | intro a _ ih =>
   intro ht
   obtain ⟨b,hb,hT⟩:=h a ht
   exact ih b hb hT
omit [DecidableEq α] in
theorem WayI.turn {L0 L L':α→List α} {bg bg' en en':α→Bool} : ∀ {up:Option α} {w:List α},(∀ b,b ∈ w→L' b=L b)→(∀ b,b ∈ w→bg b=true→bg' b=true)→(∀ b,b ∈ w→en' b=en b)→(∀ b,en b=true→en' b=true)→WayI L0 L bg en up w→WayI L0 L' bg' en' up w
 | _,[],_,_,_,_,_=>trivial
 | up,a :: w,h1,h2,h3,h4,⟨g1,g2,g3⟩=>by
   refine ⟨fun u hu=>?_,fun b hb=>?_,WayI.turn (fun b hb=>h1 b (List.mem_cons_of_mem _ hb)) (fun b hb=>h2 b (List.mem_cons_of_mem _ hb)) (fun b hb=>h3 b (List.mem_cons_of_mem _ hb)) h4 g3⟩
   · obtain ⟨p,q,r⟩:=g1 u hu
     exact ⟨p,h2 a (List.mem_cons_self ..) q,by rw [h3 a (List.mem_cons_self ..)];exact r⟩
   · rw [h1 a (List.mem_cons_self ..)]
     rcases g2 b hb with h|h|h
     · exact .inl h
     · exact .inr (.inl (h4 b h))
     · exact .inr (.inr h)
theorem ins_self (f:α→Bool) (a:α):insR f a a=true:=if_pos rfl
theorem ins_of {f:α→Bool} {a b:α} (h:f b=true):insR f a b=true:=by unfold insR;split;rfl;exact h
theorem ins_ne {f:α→Bool} {a b:α} (h:b ≠ a):insR f a b=f b:=if_neg h
theorem ring_sound {L0 L:α→List α} {bg en:α→Bool} {way:List α} {r:Bool} {L':α→List α} {bg' en':α→Bool} (h:RingS L bg en way r L' bg' en'):RingI L0 L bg en way →
   (r=true→∀ z,way.getLast? = some z→¬ Acc (fun b a=>b ∈ L0 a) z)∧(r=false→RingI L0 L' bg' en' []∧(∀ a,a ∈ way→en' a=true)∧∀ a,en a=true→en' a=true):=by
 induction h with
 | done=>exact fun hi=>⟨fun h=>(by cases h),fun _=>⟨hi,fun a ha=>(by cases ha),fun _ h=>h⟩⟩
 | @pop L bg en a w r L' bg' en' hs hrec ih =>
   intro hi
   obtain ⟨g1,g2,g3⟩:=hi.way
   have hall:∀ b,b ∈ L0 a→en b=true:=fun b hb=>by
     rcases g2 b hb with h|h|h
     · exact scan_none hs b h
     · exact h
     · cases h
   have hna:a ∉ w:=(List.nodup_cons.1 hi.nd).1
   have hi':RingI L0 L (insR bg a) (insR en a) w:=by
     refine ⟨fun b hb=>?_,fun b hb c hc=>?_,fun b hb=>?_,hi.sub,fun b hb=>?_,(List.nodup_cons.1 hi.nd).2,?_⟩
     · by_cases e:b=a
       · subst e;exact ⟨_,fun c hc=>hi.acc c (hall c hc)⟩
       · rw [ins_ne e] at hb;exact hi.acc b hb
     · by_cases e:b=a
       · subst e;exact ins_of (hall c hc)
       · rw [ins_ne e] at hb;exact ins_of (hi.clo b hb c hc)
     · by_cases e:b=a
       · subst e;rw [ins_self] at hb;cases hb
       · rw [ins_ne e] at hb;exact hi.fresh b hb
     · by_cases e:b=a
       · subst e;exact .inl (ins_self _ _)
       · rw [ins_ne e] at hb
         rcases hi.bw b hb with h|h
         · exact .inl (ins_of h)
         · rcases List.mem_cons.1 h with h|h
           · exact absurd h e
           · exact .inr h
     · have hw:WayI L0 L (insR bg a) (insR en a) (some a) w:=g3.turn (fun _ _=>rfl) (fun b _ h=>ins_of h) (fun b hb=>ins_ne (fun e=>hna (e ▸ hb))) (fun b h=>ins_of h)
       cases w with
       | nil=>trivial
       | cons y w =>
         obtain ⟨k1,k2,k3⟩:=hw
         refine ⟨fun u hu=>(by cases hu),fun b hb=>?_,k3⟩
         rcases k2 b hb with h|h|h
         · exact .inl h
         · exact .inr (.inl h)
         · injection h with h;subst h;exact .inr (.inl (ins_self _ _))
   obtain ⟨i1,i2⟩:=ih hi'
   refine ⟨fun hr z hz=>?_,fun hr=>?_⟩
   · cases w with
     | nil=>subst hr;cases hrec
     | cons y w=>exact i1 hr z (by rwa [List.getLast?_cons_cons] at hz)
   · obtain ⟨j1,j2,j3⟩:=i2 hr
     refine ⟨j1,fun b hb=>?_,fun b hb=>j3 b (ins_of hb)⟩
     rcases List.mem_cons.1 hb with rfl|hb
     · exact j3 _ (ins_self _ _)
     · exact j2 b hb
 | @push L bg en a w r L' bg' en' x t hs hx hrec ih =>
   intro hi
   obtain ⟨g1,g2,g3⟩:=hi.way
   obtain ⟨s1,s2,s3,s4,s5⟩:=scan_some hs
   have hxa:x ≠ a:=fun e=>by subst e;rw [ins_self] at hx;cases hx
   have hxb:bg x=false:=by rwa [ins_ne hxa] at hx
   have hna:a ∉ w:=(List.nodup_cons.1 hi.nd).1
   have hxw:x ∉ w:=fun h=>by have:=(way_below (by simp) g3 x h).1;rw [hxb] at this;cases this
   have hea:en a=false:=by
     cases e:en a with
     | false=>rfl
     | true=>have:=hi.clo a e x (hi.sub a x s1);rw [s2] at this;cases this
   have hi':RingI L0 (updR L a t) (insR bg a) en (x :: a :: w):=by
     refine ⟨hi.acc,hi.clo,fun b hb=>?_,fun b c hc=>?_,fun b hb=>?_,?_,?_⟩
     · have e:b ≠ a:=fun e=>by subst e;rw [ins_self] at hb;cases hb
       rw [ins_ne e] at hb
       unfold updR
       rw [if_neg e]
       exact hi.fresh b hb
     · unfold updR at hc
       by_cases e:b=a
       · rw [if_pos e] at hc;subst e;exact hi.sub _ _ (s3 c hc)
       · rw [if_neg e] at hc;exact hi.sub _ _ hc
     · by_cases e:b=a
       · subst e;exact .inr (List.mem_cons_of_mem _ (List.mem_cons_self ..))
       · rw [ins_ne e] at hb
         rcases hi.bw b hb with h|h
         · exact .inl h
         · exact .inr (List.mem_cons_of_mem _ h)
     · refine List.nodup_cons.2 ⟨fun h=>?_,hi.nd⟩
       rcases List.mem_cons.1 h with h|h
       · exact hxa h
       · exact hxw h
     · refine ⟨fun u hu=>(by cases hu),fun b hb=>.inl ?_,fun u hu=>?_,fun b hb=>?_,?_⟩
       · unfold updR;rw [if_neg hxa,hi.fresh x hxb];exact hb
       · injection hu with hu;subst hu;exact ⟨hi.sub _ _ s1,ins_self _ _,hea⟩
       · unfold updR
         rw [if_pos rfl]
         rcases g2 b hb with h|h|h
         · rcases s4 b h with h|h|h
           · exact .inl h
           · exact .inr (.inl h)
           · exact .inr (.inr (by rw [h]))
         · exact .inr (.inl h)
         · cases h
       · exact g3.turn (fun b hb=>by
         have e:b ≠ a:=fun e=>hna (e ▸ hb)
         unfold updR
         rw [if_neg e]) (fun b _ h=>ins_of h) (fun _ _=>rfl) (fun _ h=>h)
   obtain ⟨i1,i2⟩:=ih hi'
   refine ⟨fun hr z hz=>i1 hr z (by rw [List.getLast?_cons_cons];exact hz),fun hr=>?_⟩
   obtain ⟨j1,j2,j3⟩:=i2 hr
   exact ⟨j1,fun b hb=>j2 b (List.mem_cons_of_mem _ hb),j3⟩
 | @hit L bg en a w x t hs hx =>
   intro hi
   obtain ⟨g1,g2,g3⟩:=hi.way
   obtain ⟨s1,s2,s3,s4,s5⟩:=scan_some hs
   refine ⟨fun _ z hz hacc=>?_,fun h=>(by cases h)⟩
   have hxw:x ∈ a :: w:=by
     by_cases e:x=a
     · subst e;exact List.mem_cons_self ..
     · rw [ins_ne e] at hx
       rcases hi.bw x hx with h|h
       · rw [s2] at h;cases h
       · exact h
   refine not_acc (L0:=L0) (T:=fun b=>b ∈ a :: w) (fun b hb=>?_) hacc (List.mem_of_getLast? hz)
   rcases List.mem_cons.1 hb with rfl|hb
   · exact ⟨x,hi.sub _ _ s1,hxw⟩
   · obtain ⟨c,hc,h⟩:=way_leads g3 b hb
     exact ⟨c,hc,by rcases h with rfl|h;exact List.mem_cons_self ..;exact List.mem_cons_of_mem _ h⟩
omit [DecidableEq α] in
theorem ring_new (L0:α→List α):RingI L0 L0 (fun _=>false) (fun _=>false) []:=
 ⟨fun _ h=>(by cases h),fun _ h=>(by cases h),fun _ _=>rfl,fun _ _ h=>h,fun _ h=>(by cases h),List.nodup_nil,trivial⟩
omit [DecidableEq α] in
theorem ring_from {L0 L:α→List α} {bg en:α→Bool} (hi:RingI L0 L bg en []) (a:α):RingI L0 L bg en [a]:=by
 refine ⟨hi.acc,hi.clo,hi.fresh,hi.sub,fun b hb=>?_,by simp,fun u hu=>(by cases hu),fun b hb=>?_,trivial⟩
 · rcases hi.bw b hb with h|h
   · exact .inl h
   · cases h
 · cases e:bg a with
   | false=>rw [hi.fresh a e];exact .inl hb
   | true =>
     rcases hi.bw a e with h|h
     · exact .inr (.inl (hi.clo a h b hb))
     · cases h
def measR (K:List α) (L:α→List α) (way:List α):Nat:=2*(K.map fun a=>(L a).length).sum+way.length
theorem upd_sum (K:List α) (L:α→List α) {a:α} {t:List α} (ht:t.length < (L a).length):(K.map fun b=>(updR L a t b).length).sum≤(K.map fun b=>(L b).length).sum∧(a ∈ K→(K.map fun b=>(updR L a t b).length).sum < (K.map fun b=>(L b).length).sum):=by
 induction K with
 | nil=>exact ⟨Nat.le_refl _,fun h=>by cases h⟩
 | cons b K ih =>
   obtain ⟨i1,i2⟩:=ih
   simp only [List.map_cons,List.sum_cons]
   by_cases e:b=a
   · subst e
     have:(updR L b t b).length < (L b).length:=by unfold updR;rw [if_pos rfl];exact ht
     exact ⟨by omega,fun _=>by omega⟩
   · have:(updR L a t b).length=(L b).length:=by unfold updR;rw [if_neg e]
     refine ⟨by omega,fun h=>?_⟩
     rcases List.mem_cons.1 h with h|h
     · exact absurd h.symm e
     · have:=i2 h;omega
theorem meas_push {K:List α} {L:α→List α} {a x:α} {w t:List α} (ha:a ∈ K) (ht:t.length < (L a).length):measR K (updR L a t) (x :: a :: w) < measR K L (a :: w):=by
 have:=(upd_sum K L ht).2 ha
 unfold measR
 simp only [List.length_cons]
 omega
end
def X3 (lb gb eb:Nat):Nat→Prop:=fun b=>b=lb∨b=gb∨b=eb
def HeldRow (X:Nat→Prop) (N:Nat) (W:World) (o:Option Value) (l:List ByteArray):Prop:=match o with
 | none=>l=[]
 | some v=>∃ A c,v=.slice A l.length c∧l.length≤c∧∀ (j:Nat) x,l[j]? = some x→∃ b o,A=some ⟨b,o,none⟩∧b < N∧¬ X b∧W.cell? ⟨b,o+j,none⟩=some (.string x)∧x.size≤maxLen
def KeepN (X:Nat→Prop) (N:Nat) (W W':World):Prop:=∀ b,b < N→¬ X b→W'.heap[b]? = W.heap[b]?
theorem KeepN.of_below {X:Nat→Prop} {N:Nat} {W W':World} (h:Below W.heap.size W W') (hN:N≤W.heap.size):KeepN X N W W':=fun b hb _=>h.block b (Nat.lt_of_lt_of_le hb hN)
theorem KeepN.of_grown {X:Nat→Prop} {N g:Nat} {W W':World} (h:W.grownBy W' (some g)) (hN:N≤W.heap.size) (hg:X g∨N≤g):KeepN X N W W':=fun b hb hx=>h.block b (Nat.lt_of_lt_of_le hb hN) (fun e=>by
 injection e with e
 subst e
 rcases hg with hg|hg
 · exact hx hg
 · omega)
theorem HeldRow.on {X:Nat→Prop} {N:Nat} {W W':World} {o:Option Value} {l:List ByteArray} (h:HeldRow X N W o l) (hm:KeepN X N W W'):HeldRow X N W' o l:=by
 cases o with
 | none=>exact h
 | some v =>
   obtain ⟨A,c,h1,h2,h3⟩:=h
   refine ⟨A,c,h1,h2,fun j x hx=>?_⟩
   obtain ⟨b,o,g1,g2,g3,g4,g5⟩:=h3 j x hx
   exact ⟨b,o,g1,g2,g3,(World.cell?_of_block (a:=⟨b,_,none⟩) (hm b g2 g3)).trans g4,g5⟩
theorem HeldRow.more {X:Nat→Prop} {N N':Nat} {W:World} {o:Option Value} {l:List ByteArray} (h:HeldRow X N W o l) (hN:N≤N'):HeldRow X N' W o l:=by
 cases o with
 | none=>exact h
 | some v =>
   obtain ⟨A,c,h1,h2,h3⟩:=h
   refine ⟨A,c,h1,h2,fun j x hx=>?_⟩
   obtain ⟨b,o,g1,g2,g3⟩:=h3 j x hx
   exact ⟨b,o,g1,Nat.lt_of_lt_of_le g2 hN,g3⟩
theorem held_look {X:Nat→Prop} {N:Nat} {W:World} {m:ByteArray→Option Value} {s:ByteArray} {l:List ByteArray} (h:HeldRow X N W (m s) l):∃ A c ok,LookV m s (.slice none 0 0) (.slice A l.length c) ok∧l.length≤c∧∀ (j:Nat) x,l[j]? = some x→∃ b o,A=some ⟨b,o,none⟩∧b < N∧¬ X b∧W.cell? ⟨b,o+j,none⟩=some (.string x)∧x.size≤maxLen:=by
 cases e:m s with
 | none =>
   rw [e] at h
   have h:l=[]:=h
   subst h
   exact ⟨none,0,false,LookV.no e,Nat.le_refl _,fun j x hx=>by simp at hx⟩
 | some v =>
   rw [e] at h
   obtain ⟨A,c,rfl,h2,h3⟩:=h
   exact ⟨A,c,true,LookV.yes e,h2,h3⟩
theorem HeldRow.drop {X:Nat→Prop} {N:Nat} {W:World} {l:List ByteArray} {A:Option Addr} {c k b o:Nat} (hA:A=some ⟨b,o,none⟩) (hc:l.length≤c) (hk:k < l.length) (h:∀ (j:Nat) x,l[j]? = some x→∃ b o,A=some ⟨b,o,none⟩∧b < N∧¬ X b∧W.cell? ⟨b,o+j,none⟩=some (.string x)∧x.size≤maxLen) (A':Option Addr) (hA':k+1 < c→A'=some ⟨b,o+(k+1),none⟩):HeldRow X N W (some (.slice A' (l.length - (k+1)) (c - (k+1)))) (l.drop (k+1)):=by
 refine ⟨A',c - (k+1),by rw [List.length_drop],by rw [List.length_drop];omega,fun j x hx=>?_⟩
 rw [List.getElem?_drop] at hx
 have hlt:=(List.getElem?_eq_some_iff.1 hx).1
 obtain ⟨b',o',g1,g2,g3,g4,g5⟩:=h _ x hx
 rw [hA] at g1
 have g1:=Option.some.inj g1
 injection g1 with e1 e2 _
 subst e1 e2
 exact ⟨b,o+(k+1),hA' (by omega),g2,g3,by rw [show o+(k+1)+j=o+(k+1+j) by omega];exact g4,g5⟩
theorem ownsMap_le {H:Type} {P:Program} {k:TypeId} {R:Value→Option (DataW H × List MemPlace)} {w:World} {b n n':Nat} {D:DataW H} (h:w.ownsMap P k R b n D) (hn:n≤n'):w.ownsMap P k R b n' D:=by
 obtain ⟨es,clock,h1,h2,h3,h4⟩:=h
 exact ⟨es,clock,h1,h2,Nat.le_trans h3 hn,h4⟩
def SetM (W:World) (b n:Nat) (f:ByteArray→Bool):Prop:=∃ D m,W.ownsMap Tryz.prog 9 R1 b n D∧ValsD D m∧∀ s,m s=if f s=true then some (.bool true) else none
def LeftM (X:Nat→Prop) (N:Nat) (W:World) (b n:Nat) (L:ByteArray→List ByteArray):Prop:=∃ D m,W.ownsMap Tryz.prog 9 R1 b n D∧ValsD D m∧∀ s,HeldRow X N W (m s) (L s)
theorem SetM.look {W:World} {b n:Nat} {f:ByteArray→Bool} (h:SetM W b n f):∃ D m,W.ownsMap Tryz.prog 9 R1 b n D∧ValsD D m∧∀ s,LookV m s (.bool false) (.bool (f s)) (f s):=by
 obtain ⟨D,m,h1,h2,h3⟩:=h
 refine ⟨D,m,h1,h2,fun s=>?_⟩
 have:=h3 s
 cases e:f s with
 | false=>rw [e,if_neg (by decide)] at this;exact LookV.no this
 | true=>rw [e,if_pos rfl] at this;exact LookV.yes this
theorem SetM.put {D:DataW Value} {m:ByteArray→Option Value} {f:ByteArray→Bool} {W':World} {b n:Nat} (hD:ValsD D m) (hm:∀ s,m s=if f s=true then some (.bool true) else none) (a:ByteArray) (ho:W'.ownsMap Tryz.prog 9 R1 b n (D.put (.string a.data.toList) (.held (.bool true)))):SetM W' b n (insR f a):=by
 refine ⟨_,_,ho,hD.put a (.bool true),fun s=>?_⟩
 unfold putM insR
 by_cases e:s=a
 · rw [if_pos e,if_pos e];rfl
 · rw [if_neg e,if_neg e];exact hm s
theorem SetM.new (w:World):SetM (w.alloc (.map #[] 0)) w.heap.size 0 (fun _=>false):=⟨_,_,World.ownsMap_made w Tryz.prog 9 R1,ValsD.nil,fun _=>rfl⟩
theorem LeftM.new (X:Nat→Prop) (N:Nat) (w:World):LeftM X N (w.alloc (.map #[] 0)) w.heap.size 0 (fun _=>[]):=⟨_,_,World.ownsMap_made w Tryz.prog 9 R1,ValsD.nil,fun _=>rfl⟩
theorem SetM.keep {W W':World} {b n:Nat} {f:ByteArray→Bool} (h:SetM W b n f) (hb:W'.heap[b]? = W.heap[b]?):SetM W' b n f:=by
 obtain ⟨D,m,⟨es,clock,h1,h2,h3,h4⟩,g2,g3⟩:=h
 exact ⟨D,m,⟨es,clock,hb.trans h1,h2,h3,h4⟩,g2,g3⟩
theorem SetM.le {W:World} {b n n':Nat} {f:ByteArray→Bool} (h:SetM W b n f) (hn:n≤n'):SetM W b n' f:=by
 obtain ⟨D,m,h1,h2,h3⟩:=h
 exact ⟨D,m,ownsMap_le h1 hn,h2,h3⟩
theorem SetM.lt {W:World} {b n:Nat} {f:ByteArray→Bool} (h:SetM W b n f):b < W.heap.size:=by obtain ⟨D,m,h1,_⟩:=h;exact World.ownsMap.lt h1
theorem LeftM.keep {X:Nat→Prop} {N:Nat} {W W':World} {b n:Nat} {L:ByteArray→List ByteArray} (h:LeftM X N W b n L) (hb:W'.heap[b]? = W.heap[b]?) (hm:KeepN X N W W'):LeftM X N W' b n L:=by
 obtain ⟨D,m,⟨es,clock,h1,h2,h3,h4⟩,g2,g3⟩:=h
 exact ⟨D,m,⟨es,clock,hb.trans h1,h2,h3,h4⟩,g2,fun s=>(g3 s).on hm⟩
theorem LeftM.le {X:Nat→Prop} {N:Nat} {W:World} {b n n':Nat} {L:ByteArray→List ByteArray} (h:LeftM X N W b n L) (hn:n≤n'):LeftM X N W b n' L:=by
 obtain ⟨D,m,h1,h2,h3⟩:=h
 exact ⟨D,m,ownsMap_le h1 hn,h2,h3⟩
theorem LeftM.more {X:Nat→Prop} {N N':Nat} {W:World} {b n:Nat} {L:ByteArray→List ByteArray} (h:LeftM X N W b n L) (hN:N≤N'):LeftM X N' W b n L:=by
 obtain ⟨D,m,h1,h2,h3⟩:=h
 exact ⟨D,m,h1,h2,fun s=>(h3 s).more hN⟩
theorem LeftM.lt {X:Nat→Prop} {N:Nat} {W:World} {b n:Nat} {L:ByteArray→List ByteArray} (h:LeftM X N W b n L):b < W.heap.size:=by obtain ⟨D,m,h1,_⟩:=h;exact World.ownsMap.lt h1
theorem LeftM.put {X:Nat→Prop} {N:Nat} {W W':World} {b n:Nat} {D:DataW Value} {m:ByteArray→Option Value} {L:ByteArray→List ByteArray} (hD:ValsD D m) (hm:∀ s,HeldRow X N W (m s) (L s)) (hmo:KeepN X N W W') (a:ByteArray) (v:Value) (t:List ByteArray) (hv:HeldRow X N W' (some v) t) (ho:W'.ownsMap Tryz.prog 9 R1 b n (D.put (.string a.data.toList) (.held v))):LeftM X N W' b n (updR L a t):=by
 refine ⟨_,_,ho,hD.put a v,fun s=>?_⟩
 unfold putM updR
 by_cases e:s=a
 · rw [if_pos e,if_pos e];exact hv
 · rw [if_neg e,if_neg e];exact (hm s).on hmo
structure SrchM (N:Nat) (W:World) (lb gb eb n:Nat) (L:ByteArray→List ByteArray) (bg en:ByteArray→Bool):Prop where
 left:LeftM (X3 lb gb eb) N W lb n L
 begun:SetM W gb n bg
 ended:SetM W eb n en
 ne:lb ≠ gb∧gb ≠ eb∧lb ≠ eb
 le:N≤W.heap.size
theorem SrchM.on {N:Nat} {W W':World} {lb gb eb n:Nat} {L:ByteArray→List ByteArray} {bg en:ByteArray→Bool} (h:SrchM N W lb gb eb n L bg en) (hb:Below W.heap.size W W'):SrchM N W' lb gb eb n L bg en:=
 ⟨h.left.keep (hb.block _ h.left.lt) (.of_below hb h.le),h.begun.keep (hb.block _ h.begun.lt),h.ended.keep (hb.block _ h.ended.lt),h.ne,Nat.le_trans h.le hb.size⟩
theorem moz_grown {X:Nat→Prop} {W W':World} {b:Nat} (hg:W.grownBy W' (some b)) (hX:X b):MoZ X W W':=⟨hg.os,hg.tape,hg.output,hg.size,fun c hc hn=>hg.block c hc (fun e=>hn (by injection e with e;subst e;exact hX))⟩
def sumR {α:Type} (K:List α) (L:α→List α):Nat:=(K.map fun a=>(L a).length).sum
theorem meas_eq {α:Type} (K:List α) (L:α→List α) (way:List α):measR K L way=2*sumR K L+way.length:=rfl
end Go.Proofs.YtaekdfcpbepepaaGreatDoor
