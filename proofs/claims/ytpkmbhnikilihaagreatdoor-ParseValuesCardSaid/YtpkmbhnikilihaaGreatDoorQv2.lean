/- The walk of seineref1.Same, and both together. -/
import Derived.Test.YtpkmbhnikilihaaGreatDoorQv1
import Derived.Shelf.Strings.BuilderK
import Derived.Shelf.Strings.BuilderRune
import Derived.Test.YtpkmbhnikilihaaGreatDoorProg
set_option maxRecDepth 100000
set_option maxHeartbeats 8000000
namespace Go.Proofs.YtpkmbhnikilihaaGreatDoor
open Go.RowKit
def KS (w:World) (a3 a4 b3 b4:Value) (W:World):Prop:=W.cell? ⟨w.heap.size,3,none⟩=some a3∧W.cell? ⟨w.heap.size,4,none⟩=some a4∧W.cell? ⟨w.heap.size+1,3,none⟩=some b3∧W.cell? ⟨w.heap.size+1,4,none⟩=some b4∧Below w.heap.size w W∧w.heap.size+1 < W.heap.size
theorem KS.next {w W W':World} {a3 a4 b3 b4:Value} (h:KS w a3 a4 b3 b4 W) (hb:Below W.heap.size W W'):KS w a3 a4 b3 b4 W':=by
 obtain ⟨h1,h2,h3,h4,hB,hs⟩:=h
 have hs0:w.heap.size < W.heap.size:=by omega
 exact ⟨(hb.cell (p:=⟨_,_,none⟩) hs0).trans h1,(hb.cell (p:=⟨_,_,none⟩) hs0).trans h2,(hb.cell (p:=⟨_,_,none⟩) hs).trans h3,(hb.cell (p:=⟨_,_,none⟩) hs).trans h4,hB.trans (hb.mono hB.size),Nat.lt_of_lt_of_le hs hb.size⟩
theorem KS.start (w:World) (c0 c1 c2 c3 c4 d0 d1 d2 d3 d4:Value) (t:TypeId):KS w c3 c4 d3 d4 ((w.alloc (.cells #[c0,c1,c2,c3,c4] t)).alloc (.cells #[d0,d1,d2,d3,d4] t)):=by
 have k0:((w.alloc (.cells #[c0,c1,c2,c3,c4] t)).alloc (.cells #[d0,d1,d2,d3,d4] t)).heap[w.heap.size]? = some (.cells #[c0,c1,c2,c3,c4] t):=by
  rw [Below.heap_alloc _ _ _ (by simp)]
  show (w.heap.push _)[w.heap.size]? = _;simp
 have k1:((w.alloc (.cells #[c0,c1,c2,c3,c4] t)).alloc (.cells #[d0,d1,d2,d3,d4] t)).heap[w.heap.size+1]? = some (.cells #[d0,d1,d2,d3,d4] t):=by
  show ((w.heap.push _).push _)[w.heap.size+1]? = _
  rw [Array.getElem?_push,if_pos (by simp)]
 refine ⟨?_,?_,?_,?_,((Below.refl _ _).alloc (Nat.le_refl _) _).alloc (by simp) _,by simp⟩
 all_goals (simp only [World.cell?];first|(rw [k0];rfl)|(rw [k1];rfl))
theorem KS.below {w W:World} {a3 a4 b3 b4:Value} (h:KS w a3 a4 b3 b4 W):Below w.heap.size w W:=h.2.2.2.2.1
def KL (w:World) (a3 a4 b3 b4:Value) (b O:Nat) (d0 d1 d2 d3 d4:Value) (b' O':Nat) (f0 f1 f2 f3 f4:Value) (W:World):Prop:=
 Five W b O d0 d1 d2 d3 d4∧Five W b' O' f0 f1 f2 f3 f4∧KS w a3 a4 b3 b4 W
theorem KL.next {w W W':World} {a3 a4 b3 b4:Value} {b O:Nat} {d0 d1 d2 d3 d4:Value} {b' O':Nat} {f0 f1 f2 f3 f4:Value} (h:KL w a3 a4 b3 b4 b O d0 d1 d2 d3 d4 b' O' f0 f1 f2 f3 f4 W) (hl:b < w.heap.size) (hl':b' < w.heap.size) (hb:Below W.heap.size W W'):KL w a3 a4 b3 b4 b O d0 d1 d2 d3 d4 b' O' f0 f1 f2 f3 f4 W':=by
 obtain ⟨h2,h4,hK⟩:=h
 have g:=Nat.lt_of_lt_of_le hl hK.below.size
 have g':=Nat.lt_of_lt_of_le hl' hK.below.size
 exact ⟨h2.below hb g,h4.below hb g',hK.next hb⟩
theorem KL.written {w W:World} {a3 a4 b3 b4:Value} {b O:Nat} {d0 d1 d2 d3 d4:Value} {b' O':Nat} {f0 f1 f2 f3 f4:Value} (h:KL w a3 a4 b3 b4 b O d0 d1 d2 d3 d4 b' O' f0 f1 f2 f3 f4 W) :
  W.cell? ⟨b,O,none⟩=some d0∧W.cell? ⟨b,O+1,none⟩=some d1∧W.cell? ⟨b,O+2,none⟩=some d2∧W.cell? ⟨b,O+3,none⟩=some d3∧W.cell? ⟨b,O+4,none⟩=some d4 ∧
  W.cell? ⟨b',O',none⟩=some f0∧W.cell? ⟨b',O'+1,none⟩=some f1∧W.cell? ⟨b',O'+2,none⟩=some f2∧W.cell? ⟨b',O'+3,none⟩=some f3∧W.cell? ⟨b',O'+4,none⟩=some f4 ∧
  W.cell? ⟨w.heap.size,3,none⟩=some a3∧W.cell? ⟨w.heap.size+1,3,none⟩=some b3 ∧
  KL w a3 a4 b3 b4 b O d0 d1 d2 d3 d4 b' O' f0 f1 f2 f3 f4 W:=
 ⟨h.1.1,h.1.2.1,h.1.2.2.1,h.1.2.2.2.1,h.1.2.2.2.2,h.2.1.1,h.2.1.2.1,h.2.1.2.2.1,h.2.1.2.2.2.1,h.2.1.2.2.2.2,h.2.2.1,h.2.2.2.2.1,h⟩
theorem vsame_step (N:Nat) (H:∀ u,sizeV u≤N→SameC u):∀ u,sizeV u≤N+1→SameC u:=by
 intro u hu v c0 c1 c2 c3 c4 d0 d1 d2 d3 d4 w B hB h1 h2
 have HMB:=Hd (memb_any N H)
 have HS:=Hd H
 have HB0:=Hd hB
 clear H hB
 obtain ⟨k,n,s,l,m⟩:=u
 obtain ⟨k',n',s',l',m'⟩:=v
 rw [sizeV] at hu
 unfold VAt at h1 h2
 obtain ⟨rfl,rfl,rfl,hs,⟨A,c,rfl,hl,hL⟩,A2,c2',rfl,hm,hM⟩:=h1
 obtain ⟨rfl,rfl,rfl,hs',⟨A',c',rfl,hl',hL'⟩,A2',c2'',rfl,hm',hM'⟩:=h2
 have HL:=Hd hL
 have HL':=Hd hL'
 have HM:=Hd hM
 have HM':=Hd hM'
 clear hL hL' hM hM'
 by_cases q0:k=k'
 case neg =>
  have e0:(k != k')=true:=by simpa using q0
  have hno:Hid (¬ VT.mk k n s l m=.mk k' n' s' l' m'):=Hd (fun h=>q0 (by injection h))
  clear q0
  go_enter Tryz.func21,Tryz.ntmps21
  go_wp2_with fail
  go_ret
  exact vsaid (not_if hno.out) (((Below.refl _ _).alloc (Nat.le_refl _) _).alloc (by simp) _)
 subst q0
 by_cases q1:n=n'
 case neg =>
  have e0:(n != n')=true:=by simpa using q1
  have hno:Hid (¬ VT.mk k n s l m=.mk k n' s' l' m'):=Hd (fun h=>q1 (by injection h))
  clear q1
  go_enter Tryz.func21,Tryz.ntmps21
  go_wp2_with fail
  go_ret
  exact vsaid (not_if hno.out) (((Below.refl _ _).alloc (Nat.le_refl _) _).alloc (by simp) _)
 subst q1
 by_cases q2:s=s'
 case neg =>
  have hne:s.toList ≠ s'.toList:=fun h=>q2 (by
    rw [ByteArray.toList_eq,ByteArray.toList_eq] at h
    exact ByteArray.ext (Array.toList_inj.1 h))
  have e1:(s.toList != s'.toList)=true:=by simpa using hne
  have e1':(s.toList == s'.toList)=false:=by simpa using hne
  have hno:Hid (¬ VT.mk k n s l m=.mk k n s' l' m'):=Hd (fun h=>q2 (by injection h))
  clear q2 hne
  go_enter Tryz.func21,Tryz.ntmps21
  go_wp2_with fail
  go_ret
  exact vsaid (not_if hno.out) (((Below.refl _ _).alloc (Nat.le_refl _) _).alloc (by simp) _)
 subst q2
 have z1:(s.toList != s.toList)=false:=by simp
 have z1':(s.toList == s.toList)=true:=by simp
 by_cases q3:l.len=l'.len
 case neg =>
  have e0:((l.len:Int) != (l'.len:Int))=true:=by simp;omega
  have hno:Hid (¬ VT.mk k n s l m=.mk k n s l' m'):=Hd (fun h=>q3 (by injection h with _ _ _ h _;rw [h]))
  clear q3
  go_enter Tryz.func21,Tryz.ntmps21
  go_wp2_with fail
  go_ret
  exact vsaid (not_if hno.out) (((Below.refl _ _).alloc (Nat.le_refl _) _).alloc (by simp) _)
 generalize hn:l.len=nn at *
 have HN:=Hd hn
 subst q3
 clear hn
 have e0:((l'.len:Int) != (l'.len:Int))=false:=by simp
 go_enter Tryz.func21,Tryz.ntmps21
 go_wp2_with fail
 go_loopg [5] l'.len (fun g i wx=>∃ q:Nat,q+g=l'.len∧i=.int .i64 q∧KS w (.slice A l'.len c) (.slice A2 m.len c2') (.slice A' l'.len c') (.slice A2' m'.len c2'') wx∧Aside (AgreeL l l' q))
 case atStart=>exact ⟨0,by omega,rfl,KS.start _ _ _ _ _ _ _ _ _ _ _ _,vaside (fun j hj=>by omega)⟩
 case round =>
  obtain ⟨q,hq,rfl,hK,HA⟩:=hrel
  have K:=Hd hK
  have HBB:=Hd hK.below
  obtain ⟨h1,h2,h3,h4,_,_⟩:=hK
  cases gk with
  | zero =>
    obtain rfl:q=l'.len:=by omega
    have hE:Hid (l=l'):=Hd (VL.ext HN.out (by rw [HN.out];exact HA.out))
    clear HA
    have C:=fun (wx:World) (hx:Below w.heap.size w wx)=>Hd (HMB.out m (by omega) m' A2 A2' c2' c2'' wx B (Nat.le_trans HB0.out hx.size) hm hm' (MAt.below (hx.mono HB0.out) _ _ _ HM.out) (MAt.below (hx.mono HB0.out) _ _ _ HM'.out))
    go_wp2_with fail
    refine (C _ HBB.out).out.mono ?_
    rintro e w2 ⟨⟨b,rfl,hb⟩,hb2⟩
    have Hb:=Hd hb
    have Hb2:=Hd (HBB.out.trans (hb2.mono HBB.out.size))
    clear hb hb2 C h1 h2 h3 h4
    go_wp2_with fail
    go_ret
    exact vsaid ⟨fun e=>by rw [hE.out,Hb.out.1 e],fun e=>Hb.out.2 (by injection e)⟩ Hb2.out
  | succ g =>
    have hqn:q < l'.len:=by omega
    have hqn':(q:Int) < (l'.len:Int):=by omega
    obtain ⟨x,hv⟩:=VL.get_lt (l:=l) (j:=q) (by rw [HN.out];exact hqn)
    obtain ⟨y,hv'⟩:=VL.get_lt hqn
    have hvN:=sizeL_get hv
    obtain ⟨b,o,d0,d1,d2,d3,d4,rfl,hblt,hF,hV⟩:=LAt.at (LAt.below (HBB.out.mono HB0.out) _ _ _ HL.out) hv
    obtain ⟨b',o',f0,f1,f2,f3,f4,rfl,hblt',hF',hV'⟩:=LAt.at (LAt.below (HBB.out.mono HB0.out) _ _ _ HL'.out) hv'
    rw [Nat.zero_add] at hF hF'
    have hE:=Hd hv
    have hE':=Hd hv'
    have HBW:Hid (b < w.heap.size):=Hd (Nat.lt_of_lt_of_le hblt HB0.out)
    have HBW':Hid (b' < w.heap.size):=Hd (Nat.lt_of_lt_of_le hblt' HB0.out)
    have hE0:KL w (.slice (some ⟨b,o,none⟩) l'.len c) (.slice A2 m.len c2') (.slice (some ⟨b',o',none⟩) l'.len c') (.slice A2' m'.len c2'') b (o+q*5) d0 d1 d2 d3 d4 b' (o'+q*5) f0 f1 f2 f3 f4 wr:=⟨hF,hF',K.out⟩
    obtain ⟨g0,g1,g2,g3,g4⟩:=hF
    obtain ⟨g5,g6,g7,g8,g9⟩:=hF'
    clear hv hv'
    by_cases hvv:x=y
    · subst hvv
      have C:=fun (wx:World) (hx:Below wr.heap.size wr wx)=>Hd ((HS.out x (by omega)).yes rfl d0 d1 d2 d3 d4 f0 f1 f2 f3 f4 wx B (Nat.le_trans HB0.out (Nat.le_trans HBB.out.size hx.size)) (VAt.below (hx.mono (Nat.le_trans HB0.out HBB.out.size)) _ _ _ _ _ _ hV) (VAt.below (hx.mono (Nat.le_trans HB0.out HBB.out.size)) _ _ _ _ _ _ hV'))
      have hnx:Hid (AgreeL l l' (q+1)):=Hd (AgreeL.next HA.out hE.out hE'.out)
      clear hV hV' HA hvN hblt hblt'
      go_wp2_with fail
      go_region_held3 (fun w'=>w'.cell? ⟨b,o+q*5,none⟩=some d0∧w'.cell? ⟨b,o+q*5+1,none⟩=some d1∧w'.cell? ⟨b,o+q*5+2,none⟩=some d2∧w'.cell? ⟨b,o+q*5+3,none⟩=some d3∧w'.cell? ⟨b,o+q*5+4,none⟩=some d4∧w'.cell? ⟨b',o'+q*5,none⟩=some f0∧w'.cell? ⟨b',o'+q*5+1,none⟩=some f1∧w'.cell? ⟨b',o'+q*5+2,none⟩=some f2∧w'.cell? ⟨b',o'+q*5+3,none⟩=some f3∧w'.cell? ⟨b',o'+q*5+4,none⟩=some f4∧w'.cell? ⟨w.heap.size,3,none⟩=some (.slice (some ⟨b,o,none⟩) l'.len c)∧w'.cell? ⟨w.heap.size+1,3,none⟩=some (.slice (some ⟨b',o',none⟩) l'.len c')∧KL w (.slice (some ⟨b,o,none⟩) l'.len c) (.slice A2 m.len c2') (.slice (some ⟨b',o',none⟩) l'.len c') (.slice A2' m'.len c2'') b (o+q*5) d0 d1 d2 d3 d4 b' (o'+q*5) f0 f1 f2 f3 f4 w')
       (first
        | exact KL.written (KL.next hE0 HBW.out HBW'.out (Below.drew (Below.refl _ _)))
        | exact KL.written ((KL.next hE0 HBW.out HBW'.out (Below.drew (Below.refl _ _))).next HBW.out HBW'.out (by assumption))
        | exact KL.written (KL.next hE0 HBW.out HBW'.out (by assumption))
        | exact KL.written (KL.next (by assumption) HBW.out HBW'.out (by assumption))
        | go_keep)
       ((first|(go_at_call 21;refine (C _ (by first|exact Below.drew (Below.refl _ _)|exact Below.refl _ _|assumption)).out.mono ?_;rintro e w' ⟨rfl,hb⟩)))
      all_goals
       have HKM:KL w (.slice (some ⟨b,o,none⟩) l'.len c) (.slice A2 m.len c2') (.slice (some ⟨b',o',none⟩) l'.len c') (.slice A2' m'.len c2'') b (o+q*5) d0 d1 d2 d3 d4 b' (o'+q*5) f0 f1 f2 f3 f4 w':=And.right (And.right (And.right (And.right (And.right (And.right (And.right (And.right (And.right (And.right (And.right (And.right (by assumption))))))))))))
       have HKB:=Hd HKM.2.2
       clear HKM hE0 C g0 g1 g2 g3 g4 g5 g6 g7 g8 g9 h1 h2 h3 h4
       go_wp2_with fail
       go_roundg g
       case measure=>omega
       case rel=>exact ⟨q+1,by omega,by go_num,HKB.out,vaside hnx.out⟩
    · have C:=fun (wx:World) (hx:Below wr.heap.size wr wx)=>Hd ((HS.out x (by omega)).no hvv d0 d1 d2 d3 d4 f0 f1 f2 f3 f4 wx B (Nat.le_trans HB0.out (Nat.le_trans HBB.out.size hx.size)) (VAt.below (hx.mono (Nat.le_trans HB0.out HBB.out.size)) _ _ _ _ _ _ hV) (VAt.below (hx.mono (Nat.le_trans HB0.out HBB.out.size)) _ _ _ _ _ _ hV'))
      have hno:Hid (¬ VT.mk k n s l m=.mk k n s l' m'):=Hd (fun h=>by
       injection h with _ _ _ h _
       subst h
       have:=hE.out.symm.trans hE'.out
       simp only [Option.some.injEq] at this
       exact hvv this)
      clear hV hV' HA hvN hblt hblt' hvv
      go_wp2_with fail
      go_region_held3 (fun w'=>w'.cell? ⟨b,o+q*5,none⟩=some d0∧w'.cell? ⟨b,o+q*5+1,none⟩=some d1∧w'.cell? ⟨b,o+q*5+2,none⟩=some d2∧w'.cell? ⟨b,o+q*5+3,none⟩=some d3∧w'.cell? ⟨b,o+q*5+4,none⟩=some d4∧w'.cell? ⟨b',o'+q*5,none⟩=some f0∧w'.cell? ⟨b',o'+q*5+1,none⟩=some f1∧w'.cell? ⟨b',o'+q*5+2,none⟩=some f2∧w'.cell? ⟨b',o'+q*5+3,none⟩=some f3∧w'.cell? ⟨b',o'+q*5+4,none⟩=some f4∧w'.cell? ⟨w.heap.size,3,none⟩=some (.slice (some ⟨b,o,none⟩) l'.len c)∧w'.cell? ⟨w.heap.size+1,3,none⟩=some (.slice (some ⟨b',o',none⟩) l'.len c')∧KL w (.slice (some ⟨b,o,none⟩) l'.len c) (.slice A2 m.len c2') (.slice (some ⟨b',o',none⟩) l'.len c') (.slice A2' m'.len c2'') b (o+q*5) d0 d1 d2 d3 d4 b' (o'+q*5) f0 f1 f2 f3 f4 w')
       (first
        | exact KL.written (KL.next hE0 HBW.out HBW'.out (Below.drew (Below.refl _ _)))
        | exact KL.written ((KL.next hE0 HBW.out HBW'.out (Below.drew (Below.refl _ _))).next HBW.out HBW'.out (by assumption))
        | exact KL.written (KL.next hE0 HBW.out HBW'.out (by assumption))
        | exact KL.written (KL.next (by assumption) HBW.out HBW'.out (by assumption))
        | go_keep)
       ((first|(go_at_call 21;refine (C _ (by first|exact Below.drew (Below.refl _ _)|exact Below.refl _ _|assumption)).out.mono ?_;rintro e w' ⟨rfl,hb⟩)))
      all_goals
       have HKM:KL w (.slice (some ⟨b,o,none⟩) l'.len c) (.slice A2 m.len c2') (.slice (some ⟨b',o',none⟩) l'.len c') (.slice A2' m'.len c2'') b (o+q*5) d0 d1 d2 d3 d4 b' (o'+q*5) f0 f1 f2 f3 f4 w':=And.right (And.right (And.right (And.right (And.right (And.right (And.right (And.right (And.right (And.right (And.right (And.right (by assumption))))))))))))
       have HKB:=Hd HKM.2.2
       clear HKM hE0 C g0 g1 g2 g3 g4 g5 g6 g7 g8 g9 h1 h2 h3 h4
       go_wp2_with fail
       go_ret
       exact vsaid (not_if hno.out) HKB.out.below
theorem vsame_all:∀ N u,sizeV u≤N→SameC u
 | 0,u,h=>by cases u;rw [sizeV] at h;omega
 | N+1,u,h=>vsame_step N (vsame_all N) u h
theorem vsame_any (u:VT):SameC u:=vsame_all _ u (Nat.le_refl _)
def letB (c:Int):Bool:=decide ((97≤c∧c≤122)∨(65≤c∧c≤90)∨c=95)
def digB (c:Int):Bool:=decide (48≤c∧c≤57)
def halfB (c:Int):Bool:=decide (55296≤c∧c≤57343)
def pairB (a b:Int):Bool:=decide (55296≤a∧a < 56320∧56320≤b∧b≤57343)
def tailB (l:List UInt8):Bool:=l.all fun b=>letB (b.toNat:Int) || digB (b.toNat:Int)
def nameB:List UInt8→Bool
 | []=>false
 | b :: t=>letB (b.toNat:Int) && tailB t
theorem tailB_append (l m:List UInt8):tailB (l++m)=(tailB l && tailB m):=by simp [tailB]
theorem nameB_append (l m:List UInt8) (h:l ≠ []):nameB (l++m)=(nameB l && tailB m):=by
 cases l with
 | nil=>exact absurd rfl h
 | cons b t=>simp [nameB,tailB_append,Bool.and_assoc]
theorem take_snoc (s:ByteArray) (k:Nat) (h:k < s.size):s.data.toList.take (k+1)=s.data.toList.take k++[s[k]]:=by
 rw [List.take_succ_eq_append_getElem (by simpa using h)];rfl
def nameTo (s:ByteArray) (k:Nat):Prop:=k=0∨nameB (s.data.toList.take k)=true
theorem take_ne (s:ByteArray) (k:Nat) (h0:k ≠ 0) (h:k < s.size):s.data.toList.take k ≠ []:=by
 have:s.data.toList.length=s.size:=Array.length_toList
 intro e
 have:=congrArg List.length e
 simp only [List.length_take,List.length_nil] at this
 omega
theorem nameTo_letter {s:ByteArray} {k:Nat} (h:k < s.size) (ht:nameTo s k) (hl:letB (s[k].toNat:Int)=true):nameTo s (k+1):=by
 refine .inr ?_
 rw [take_snoc s k h]
 rcases ht with h0|ht
 · subst h0;simp [nameB,tailB,hl]
 · rw [nameB_append _ _ (by intro e;rw [e] at ht;cases ht),ht];simp [tailB,hl]
theorem nameTo_digit {s:ByteArray} {k:Nat} (h:k < s.size) (h0:k ≠ 0) (ht:nameTo s k) (hl:digB (s[k].toNat:Int)=true):nameTo s (k+1):=by
 refine .inr ?_
 rw [take_snoc s k h]
 rcases ht with h0'|ht
 · exact absurd h0' h0
 · rw [nameB_append _ _ (by intro e;rw [e] at ht;cases ht),ht];simp [tailB,hl]
theorem nameB_split (s:ByteArray) (k:Nat) (h:k < s.size):s.data.toList=s.data.toList.take k++s[k] :: s.data.toList.drop (k+1):=by
 have e:=(List.take_append_drop (k+1) s.data.toList).symm
 rw [take_snoc s k h,List.append_assoc] at e
 exact e
theorem name_stop0 {s:ByteArray} (h:0 < s.size) (hl:letB (s[0].toNat:Int)=false):nameB s.data.toList=false:=by
 rw [nameB_split s 0 h];simp [nameB,hl]
theorem name_stop {s:ByteArray} {k:Nat} (h:k < s.size) (h0:k ≠ 0) (hl:letB (s[k].toNat:Int)=false) (hd:digB (s[k].toNat:Int)=false):nameB s.data.toList=false:=by
 rw [nameB_split s k h,nameB_append _ _ (take_ne s k h0 h)]
 simp [tailB,hl,hd]
theorem name_done {s:ByteArray} (ht:nameTo s s.size):nameB s.data.toList = !s.toList.isEmpty:=by
 have hl:s.data.toList.length=s.size:=Array.length_toList
 have e:s.toList=s.data.toList:=Lib.toList_data s
 rw [e]
 rcases ht with h0|ht
 · have:s.data.toList=[]:=List.eq_nil_of_length_eq_zero (by omega)
   rw [this];rfl
 · rw [← hl,List.take_length] at ht
   rw [ht]
   cases h:s.data.toList with
   | nil=>rw [h] at ht;cases ht
   | cons _ _=>rfl
theorem Aside.intro {p:Prop} (h:p):Aside p:=h
theorem ret_bool {a b:Bool} (h:a=b):Ending.returned (.bool a)=.returned (.bool b):=by rw [h]
theorem ret_boolw {a b:Bool} {w:World} (h:a=true ↔ b=true):Ending.returned (.bool a)=.returned (.bool b)∧w=w:=by rw [Bool.eq_iff_iff.2 h];exact ⟨rfl,rfl⟩
theorem letter_any (c:Int) (w:World):Calls Tryz.prog 196 #[.int .u8 c] w fun e w'=>e=.returned (.bool (letB c))∧w=w':=by
 go_enter Tryz.func196,Tryz.ntmps196
 go_wp2
 all_goals go_ret
 all_goals (refine ret_boolw ?_;simp [letB];try omega)
theorem digit_any (c:Int) (w:World):Calls Tryz.prog 197 #[.int .u8 c] w fun e w'=>e=.returned (.bool (digB c))∧w=w':=by
 go_enter Tryz.func197,Tryz.ntmps197
 go_wp2
 all_goals go_ret
 all_goals (refine ret_boolw ?_;simp [digB];try omega)
theorem start_any (c:Int) (w:World):Calls Tryz.prog 154 #[.int .u8 c] w fun e w'=>e=.returned (.bool (letB c))∧w=w':=by
 go_enter Tryz.func154,Tryz.ntmps154
 go_wp2
 all_goals go_ret
 all_goals (refine ret_boolw ?_;simp [letB];try omega)
theorem rdigit_any (c:Int) (w:World):Calls Tryz.prog 155 #[.int .u8 c] w fun e w'=>e=.returned (.bool (digB c))∧w=w':=by
 go_enter Tryz.func155,Tryz.ntmps155
 go_wp2
 all_goals go_ret
 all_goals (refine ret_boolw ?_;simp [digB];try omega)
theorem half_any (c:Int) (w:World):Calls Tryz.prog 283 #[.int .i64 c] w fun e w'=>e=.returned (.bool (halfB c))∧w=w':=by
 go_enter Tryz.func283,Tryz.ntmps283
 go_wp2
 all_goals go_ret
 all_goals (refine ret_boolw ?_;simp [halfB];try omega)
theorem pair_any (a b:Int) (w:World):Calls Tryz.prog 306 #[.int .i64 a,.int .i64 b] w fun e w'=>e=.returned (.bool (pairB a b))∧w=w':=by
 go_enter Tryz.func306,Tryz.ntmps306
 go_wp2
 all_goals go_ret
 all_goals (refine ret_boolw ?_;simp [pairB];try omega)
theorem name_any (s:ByteArray) (w:World) (hs:s.size≤1100000):Calls Tryz.prog 130 #[.string s] w fun e w'=>e=.returned (.bool (nameB s.data.toList))∧w=w':=by
 go_enter Tryz.func130,Tryz.ntmps130
 go_wp2
 go_loop [6] (fun i=>∃ k:Nat,k≤s.size∧i=.int .i64 k∧nameTo s k) (fun i=>s.size - (intOf i).toNat)
 case atStart=>exact ⟨0,Nat.zero_le _,rfl,.inl rfl⟩
 case round =>
  obtain ⟨k,hk,rfl,H⟩:=hrel
  by_cases hlt:k < s.size
  · cases hl:letB (s[k].toNat:Int)
    · by_cases h0:k=0
      · have hst:=Aside.intro (name_stop0 (s:=s) (by omega) (by subst h0;exact hl))
        have e0:((k:Int) == 0)=true:=by simp [h0]
        clear h0 H
        go_wp2_with (first
          | (go_at_call 196;refine (letter_any _ _).mono ?_;rintro e w' ⟨rfl,rfl⟩)
          | (go_at_call 197;refine (digit_any _ _).mono ?_;rintro e w' ⟨rfl,rfl⟩))
        go_ret
        exact ⟨ret_bool hst.out.symm,rfl⟩
      · have e0:((k:Int) == 0)=false:=by simp [h0]
        cases hd:digB (s[k].toNat:Int)
        · have hst:=Aside.intro (name_stop (s:=s) hlt h0 hl hd)
          clear h0 H
          go_wp2_with (first
           | (go_at_call 196;refine (letter_any _ _).mono ?_;rintro e w' ⟨rfl,rfl⟩)
           | (go_at_call 197;refine (digit_any _ _).mono ?_;rintro e w' ⟨rfl,rfl⟩))
          go_ret
          exact ⟨ret_bool hst.out.symm,rfl⟩
        · have hst:=Aside.intro (nameTo_digit (s:=s) hlt h0 H hd)
          clear h0 H
          go_wp2_with (first
           | (go_at_call 196;refine (letter_any _ _).mono ?_;rintro e w' ⟨rfl,rfl⟩)
           | (go_at_call 197;refine (digit_any _ _).mono ?_;rintro e w' ⟨rfl,rfl⟩))
          go_round
          case rel=>exact ⟨k+1,by omega,by go_num,hst.out⟩
          case measure=>simp [intOf];omega
    · have hst:=Aside.intro (nameTo_letter (s:=s) hlt H hl)
      clear H
      go_wp2_with (first
        | (go_at_call 196;refine (letter_any _ _).mono ?_;rintro e w' ⟨rfl,rfl⟩)
        | (go_at_call 197;refine (digit_any _ _).mono ?_;rintro e w' ⟨rfl,rfl⟩))
      go_round
      case rel=>exact ⟨k+1,by omega,by go_num,hst.out⟩
      case measure=>simp [intOf];omega
  · obtain rfl:k=s.size:=by omega
    have hst:=Aside.intro (name_done H)
    clear H hk
    go_wp2
    go_ret
    exact ⟨ret_bool hst.out.symm,rfl⟩
open Go.Shelf Go.RowKit
def runeRen:Go.Shelf.Ren:=⟨fun|168=>140|240=>139|242=>204|276=>203|278=>251|n=>n,fun|0=>0|3=>3|4=>4|5=>5|9=>9|20=>20|21=>21|37=>100|46=>167|51=>243|70=>99|72=>102|75=>105|80=>110|164=>220|n=>n,fun|n=>n⟩
theorem runeLays:Go.Proofs.Lays.n168 Tryz.prog runeRen:={
 mixed:=by kernel_rfl
 f168:=Tryz.func140.trans (congrArg some (by kernel_rfl))
 f240:=Tryz.func139.trans (congrArg some (by kernel_rfl))
 f242:=Tryz.func204.trans (congrArg some (by kernel_rfl))
 f276:=Tryz.func203.trans (congrArg some (by kernel_rfl))
 f278:=Tryz.func251.trans (congrArg some (by kernel_rfl))
 t0:=Tryz.underlying0
 a0:=Tryz.isAgg0
 z0:=Tryz.sizeOf0
 v0:=Tryz.zeroValue0
 t3:=Tryz.underlying3
 a3:=Tryz.isAgg3
 z3:=Tryz.sizeOf3
 v3:=Tryz.zeroValue3
 t4:=Tryz.underlying4
 a4:=Tryz.isAgg4
 z4:=Tryz.sizeOf4
 v4:=Tryz.zeroValue4
 t5:=Tryz.underlying5
 a5:=Tryz.isAgg5
 z5:=Tryz.sizeOf5
 v5:=Tryz.zeroValue5
 t9:=Tryz.underlying9
 a9:=Tryz.isAgg9
 z9:=Tryz.sizeOf9
 v9:=Tryz.zeroValue9
 t20:=Tryz.underlying20
 a20:=Tryz.isAgg20
 z20:=Tryz.sizeOf20
 v20:=Tryz.zeroValue20
 t21:=Tryz.underlying21
 a21:=Tryz.isAgg21
 z21:=Tryz.sizeOf21
 v21:=Tryz.zeroValue21
 t37:=Tryz.underlying100
 a37:=Tryz.isAgg100
 z37:=Tryz.sizeOf100
 v37:=Tryz.zeroValue100
 t46:=Tryz.underlying167
 a46:=Tryz.isAgg167
 z46:=Tryz.sizeOf167
 v46:=Tryz.zeroValue167
 t51:=Tryz.underlying243
 a51:=Tryz.isAgg243
 z51:=Tryz.sizeOf243
 v51:=Tryz.zeroValue243
 t70:=Tryz.underlying99
 a70:=Tryz.isAgg99
 z70:=Tryz.sizeOf99
 v70:=Tryz.zeroValue99
 t72:=Tryz.underlying102
 a72:=Tryz.isAgg102
 z72:=Tryz.sizeOf102
 v72:=Tryz.zeroValue102
 t75:=Tryz.underlying105
 a75:=Tryz.isAgg105
 z75:=Tryz.sizeOf105
 v75:=Tryz.zeroValue105
 t164:=Tryz.underlying220
 a164:=Tryz.isAgg220
 z164:=Tryz.sizeOf220
 v164:=Tryz.zeroValue220 }
theorem runeExtra:Builder.Extra Tryz.prog runeRen:={
 sizeBuilder:=by kernel_rfl
 liesBuilder:=by kernel_rfl
 t5:=Tryz.underlying5
 a5:=Tryz.isAgg5
 z5:=Tryz.sizeOf5
 v5:=Tryz.zeroValue5
 infoByte:=by kernel_rfl
 cellsByte:=by kernel_rfl
 sizeByte:=by kernel_rfl
 neB5:=by decide }
theorem writeRune (B b:Nat) (bs:List Value) (r:Int) (hr0 : -2147483648≤r) (hr1:r≤2147483647) (w:World) (h:Lib.IsBuilderF 102 5 B b bs w) (hlen:bs.length+4≤140737488355328) (hBw:B≤w.heap.size) :
  Calls Tryz.prog 140 #[.pointer (some ⟨b,0,none⟩),.int .i32 r] w fun e w'=>e=.returned (.tuple #[.int .i64 (Lib.runeCells r).length,.nilIface])∧(Lib.BuilderAtF 102 5 B b (.pointer (some ⟨b,0,none⟩)) (bs++Lib.runeCells r) w'∧Below B w w'∧Lib.OthersKept 5 (some b) w w'):=
 Any.Builder_WriteRune_k runeLays runeExtra B b bs r hr0 hr1 w h hlen hBw
def textRen:Go.Shelf.Ren:=⟨fun|169=>62|n=>n,fun|0=>0|3=>3|9=>9|37=>100|70=>99|72=>102|127=>176|5=>5|n=>n,fun|n=>n⟩
theorem textLays:Go.Proofs.Lays.n169 Tryz.prog textRen:={
 mixed:=by kernel_rfl
 f169:=Tryz.func62.trans (congrArg some (by kernel_rfl))
 t0:=Tryz.underlying0
 a0:=Tryz.isAgg0
 z0:=Tryz.sizeOf0
 v0:=Tryz.zeroValue0
 t3:=Tryz.underlying3
 a3:=Tryz.isAgg3
 z3:=Tryz.sizeOf3
 v3:=Tryz.zeroValue3
 t9:=Tryz.underlying9
 a9:=Tryz.isAgg9
 z9:=Tryz.sizeOf9
 v9:=Tryz.zeroValue9
 t37:=Tryz.underlying100
 a37:=Tryz.isAgg100
 z37:=Tryz.sizeOf100
 v37:=Tryz.zeroValue100
 t70:=Tryz.underlying99
 a70:=Tryz.isAgg99
 z70:=Tryz.sizeOf99
 v70:=Tryz.zeroValue99
 t72:=Tryz.underlying102
 a72:=Tryz.isAgg102
 z72:=Tryz.sizeOf102
 v72:=Tryz.zeroValue102
 t127:=Tryz.underlying176
 a127:=Tryz.isAgg176
 z127:=Tryz.sizeOf176
 v127:=Tryz.zeroValue176 }
theorem textExtra:Builder.Extra Tryz.prog textRen:={
 sizeBuilder:=by kernel_rfl
 liesBuilder:=by kernel_rfl
 t5:=Tryz.underlying5
 a5:=Tryz.isAgg5
 z5:=Tryz.sizeOf5
 v5:=Tryz.zeroValue5
 infoByte:=by kernel_rfl
 cellsByte:=by kernel_rfl
 sizeByte:=by kernel_rfl
 neB5:=by decide }
theorem builderText (B b:Nat) (l:List UInt8) (w:World) (h:Lib.IsBuilderF 102 5 B b (Lib.byteCells l) w) (hBw:B≤w.heap.size) :
  Calls Tryz.prog 62 #[.pointer (some ⟨b,0,none⟩)] w fun e w'=>e=.returned (.string ⟨l.toArray⟩)∧(Lib.IsBuilderF 102 5 B b (Lib.byteCells l) w'∧Below B w w'∧Lib.OthersKept 5 (some b) w w'):=
 Any.Builder_String_any_k textLays textExtra B b l w h hBw
end Go.Proofs.YtpkmbhnikilihaaGreatDoor
