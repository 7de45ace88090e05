/- What Light says of a schema of moderate size. (gen_lightN.py wrote it.) -/
import Derived.Test.YtaekdfcpbepepaaGreatDoorQb29
set_option maxRecDepth 100000
set_option maxHeartbeats 8000000
namespace Go.Proofs.YtaekdfcpbepepaaGreatDoor
open Go.RowKit
def txtN (l:List ByteArray):Nat:=(l.map szN).sum
def parF (p:VarT):Nat:=p.name.size+1+sizeV p.v
def dirF (d:DirT):Nat:=d.1.size+1+sizeV (.mk 0 0 ⟨#[]⟩ .nil d.2)
def parN (l:List VarT):Nat:=(l.map parF).sum
def dirN (l:List DirT):Nat:=(l.map dirF).sum
def fldN (f:FieldT):Nat:=1+f.name.size+parN f.params+dirN f.dirs
def defN (d:DefnT):Nat:=1+d.name.size+txtN d.faces+txtN d.parts+parN d.params+(d.fields.map fldN).sum
def ligN (S:SchT):Nat:=(S.defs.map defN).sum
theorem sum_next {α:Type} (f:α→Nat) {l:List α} {q:Nat} {x:α} (h:l[q]? = some x):((l.take (q+1)).map f).sum=((l.take q).map f).sum+f x:=by
 rw [List.take_add_one,h,List.map_append,List.sum_append]
 simp
theorem sum_upto {α:Type} (f:α→Nat) (l:List α) (q:Nat):((l.take q).map f).sum≤(l.map f).sum:=by
 have h:(l.map f).sum=((l.take q).map f).sum+((l.drop q).map f).sum:=by rw [← List.sum_append,← List.map_append,List.take_append_drop]
 omega
theorem sum_le {α:Type} {f g:α→Nat} {l:List α} (h:∀ a,a ∈ l→f a≤g a):(l.map f).sum≤(l.map g).sum:=by
 induction l with
 | nil=>exact Nat.le_refl _
 | cons a t ih =>
   rw [List.map_cons,List.map_cons,List.sum_cons,List.sum_cons]
   have h1:=h a (List.mem_cons_self ..)
   have h2:=ih (fun b hb=>h b (List.mem_cons_of_mem _ hb))
   omega
theorem sum_part {α:Type} {f:α→Nat} {l:List α} {a:α} (h:a ∈ l):f a≤(l.map f).sum:=by
 induction l with
 | nil=>cases h
 | cons b t ih =>
   rw [List.map_cons,List.sum_cons]
   rcases List.mem_cons.1 h with rfl|h
   · omega
   · have:=ih h;omega
theorem ltextsN_any (A:Option Addr) (n c:Nat) (xs:List ByteArray) (w:World) (hn:n≤9223372036854775807) (ha:Blk.StrsAt w w.heap.size A n xs) (hz:txtN xs≤1048576) :
  Calls Tryz.prog 28 #[.slice A n c] w fun e w'=>e=.returned (.int .i64 (txtN xs:Nat))∧Below w.heap.size w w':=by
 have HA:=Hd ha
 clear ha
 go_enter Tryz.func28,Tryz.ntmps28
 go_wp2_with fail
 go_loopg [3,4] n (fun g t i wx=>∃ q:Nat,q+g=n∧i=.int .i64 q∧t=.int .i64 (((xs.take q).map szN).sum:Nat)∧Below w.heap.size w wx)
 case atStart=>exact ⟨0,by omega,rfl,rfl,Below.refl _ _⟩
 case round =>
  obtain ⟨q,hq,rfl,rfl,hb⟩:=hrel
  have HBB:=Hd hb
  clear hb
  cases gk with
  | zero =>
    obtain rfl:q=n:=by omega
    have hfin:Hid (((xs.take q).map szN).sum=txtN xs):=Hd (by rw [List.take_of_length_le (by have:=HA.out.1;omega)];rfl)
    go_wp2_with fail
    go_ret
    exact ⟨by rw [hfin.out];rfl,HBB.out⟩
  | succ g =>
    have hlt:q < n:=by omega
    have hlt':(q:Int) < (n:Int):=by omega
    obtain ⟨x,hx⟩:∃ x,xs[q]? = some x:=⟨_,List.getElem?_eq_getElem (by rw [HA.out.1];omega)⟩
    obtain ⟨b1,o1,rfl,hl1,c1⟩:=HA.out.2 q x hx
    have c1:=(HBB.out.cell (p:=⟨b1,o1+q,none⟩) hl1).trans c1
    have hnx:=Hd (sum_next szN hx)
    have hup:=Hd (sum_upto szN xs (q+1))
    have hsx:Hid (szN x=x.size+1):=Hd rfl
    clear hx
    generalize szN x=sx at hnx hsx
    obtain ⟨s0,hs0⟩:∃ n,((xs.take q).map szN).sum=n:=⟨_,rfl⟩
    rw [hs0] at hnx ⊢
    clear hs0
    obtain ⟨E1,hE1,w1⟩:∃ E:Int,E=(s0:Int)+1∧IntKind.i64.wrap ((s0:Int)+1)=E:=⟨_,rfl,by have h1:=hnx.out;have h2:=hup.out;unfold txtN at hz;simp only [IntKind.wrap_i64];omega⟩
    obtain ⟨E2,hE2,w2⟩:∃ E:Int,E=E1+(x.size:Int)∧IntKind.i64.wrap (E1+(x.size:Int))=E:=⟨_,rfl,by have h1:=hnx.out;have h2:=hup.out;have h3:=hsx.out;unfold txtN at hz;simp only [IntKind.wrap_i64];omega⟩
    have hfx:Hid (E2=((((xs.take (q+1)).map szN).sum:Nat):Int)):=Hd (by have h1:=hnx.out;have h3:=hsx.out;omega)
    clear hE1 hE2
    go_wp2_with fail
    first
     | (go_roundg g
        case measure=>omega
        case rel=>exact ⟨q+1,by omega,by go_num,(by rw [← hfx.out]),HBB.out⟩)
     | (go_quiet (fail)
        go_wp2_with fail
        go_roundg g
        case measure=>omega
        case rel=>exact ⟨q+1,by omega,by go_num,(by rw [← hfx.out]),Blk.below_draws HBB.out _⟩)
theorem sized_int {P:Program} {f:FuncId} {args:Array Value} {w:World} {n:Nat} {R:World→Prop} (hn:n≤1048576) (h:Calls P f args w fun e w'=>e=.returned (.int .i64 (W64 n))∧R w'):Calls P f args w fun e w'=>e=.returned (.int .i64 (n:Int))∧R w':=by
 rw [W64_fits hn] at h
 exact h
theorem lparamsN_any (l:List VarT) (A:Option Addr) (c:Nat) (w:World) (B:Nat) (hB:B≤w.heap.size) (hn:l.length≤9223372036854775807) (hR:RowT w (fun b=>b < B) (rowOf encVar l) A) (hz:parN l≤1048576) :
  Calls Tryz.prog 29 #[.slice A l.length c] w fun e w'=>e=.returned (.int .i64 (parN l:Nat))∧Below w.heap.size w w':=by
 have HR:=Hd hR
 have HB0:=Hd hB
 clear hR hB
 go_enter Tryz.func29,Tryz.ntmps29
 go_wp2_with fail
 go_loopg [3,4] l.length (fun g t i wx=>∃ q:Nat,q+g=l.length∧i=.int .i64 q∧t=.int .i64 (((l.take q).map parF).sum:Nat)∧Below w.heap.size w wx)
 case atStart=>exact ⟨0,by omega,rfl,rfl,Below.refl _ _⟩
 case round =>
  obtain ⟨q,hq,rfl,rfl,hb⟩:=hrel
  have HBB:=Hd hb
  clear hb
  cases gk with
  | zero =>
    obtain rfl:q=l.length:=by omega
    have hfin:Hid (((l.take l.length).map parF).sum=parN l):=Hd (by rw [List.take_length];rfl)
    go_wp2_with fail
    go_ret
    exact ⟨by rw [hfin.out];rfl,HBB.out⟩
  | succ g =>
    have hqn:q < l.length:=by omega
    have hqn':(q:Int) < (l.length:Int):=by omega
    obtain ⟨x,hx⟩:∃ x,l[q]? = some x:=⟨_,List.getElem?_eq_getElem hqn⟩
    obtain ⟨b,p,d0,d1,d2,d3,d4,rfl,hlt,hnm,hF,hV⟩:=par_at (RowT.below (HBB.out.mono HB0.out) HR.out) hx
    have hnx:=Hd (sum_next parF hx)
    have hup:=Hd (sum_upto parF l (q+1))
    have HBX:=Nat.le_trans HB0.out HBB.out.size
    have HBW:Hid (b < wr.heap.size):=Hd (Nat.lt_of_lt_of_le hlt HBX)
    have hE:K6 wr b (p+q*10) (.string x.name) d0 d1 d2 d3 d4 wr:=⟨hnm,hF,Below.refl _ _⟩
    obtain ⟨f0,f1,f2,f3,f4,f5,_⟩:=hE.written
    have hsv:sizeV x.v≤1048576:=by have h1:=hnx.out;have h2:=hup.out;unfold parN at hz;have h3:parF x=x.name.size+1+sizeV x.v:=rfl;omega
    have C:=fun (wx:World) (hx:Below wr.heap.size wr wx)=>Hd (sized_int hsv (vsize_any _ x.v (Nat.le_refl _) d0 d1 d2 d3 d4 wx B (Nat.le_trans HBX hx.size) (VAt.below (hx.mono HBX) _ _ _ _ _ _ hV)))
    clear hV hF hnm hx hlt HBX
    have hsx:Hid (parF x=x.name.size+1+sizeV x.v):=Hd rfl
    generalize parF x=sx at hnx hsx
    generalize sizeV x.v=sv at C hsx hsv
    obtain ⟨s0,hs0⟩:∃ n,((l.take q).map parF).sum=n:=⟨_,rfl⟩
    rw [hs0] at hnx ⊢
    clear hs0
    obtain ⟨E1,hE1,w1⟩:∃ E:Int,E=(s0:Int)+1∧IntKind.i64.wrap ((s0:Int)+1)=E:=⟨_,rfl,by have h1:=hnx.out;have h2:=hup.out;unfold parN at hz;simp only [IntKind.wrap_i64];omega⟩
    obtain ⟨E2,hE2,w2⟩:∃ E:Int,E=E1+(x.name.size:Int)∧IntKind.i64.wrap (E1+(x.name.size:Int))=E:=⟨_,rfl,by have h1:=hnx.out;have h2:=hup.out;have h3:=hsx.out;unfold parN at hz;simp only [IntKind.wrap_i64];omega⟩
    obtain ⟨E3,hE3,w3⟩:∃ E:Int,E=E2+(sv:Int)∧IntKind.i64.wrap (E2+(sv:Int))=E:=⟨_,rfl,by have h1:=hnx.out;have h2:=hup.out;have h3:=hsx.out;unfold parN at hz;simp only [IntKind.wrap_i64];omega⟩
    have hfx:Hid (E3=((((l.take (q+1)).map parF).sum:Nat):Int)):=Hd (by have h1:=hnx.out;have h3:=hsx.out;omega)
    clear hE1 hE2 hE3
    go_wp2_with fail
    go_region_held3 (fun w'=>w'.cell? ⟨b,p+q*10,none⟩=some (.string x.name)∧w'.cell? ⟨b,p+q*10+5,none⟩=some d0∧w'.cell? ⟨b,p+q*10+5+1,none⟩=some d1∧w'.cell? ⟨b,p+q*10+5+2,none⟩=some d2∧w'.cell? ⟨b,p+q*10+5+3,none⟩=some d3∧w'.cell? ⟨b,p+q*10+5+4,none⟩=some d4∧K6 wr b (p+q*10) (.string x.name) d0 d1 d2 d3 d4 w')
     (first
      | exact K6.written (hE.next HBW.out (Below.drew (Below.refl _ _)))
      | exact K6.written ((hE.next HBW.out (Below.drew (Below.refl _ _))).next HBW.out (by assumption))
      | exact K6.written (hE.next HBW.out (by assumption))
      | exact K6.written (K6.next (by assumption) HBW.out (by assumption))
      | go_keep)
     ((first|(go_at_call 53;refine (C _ (by first|exact Below.drew (Below.refl _ _)|exact K6.below (by assumption))).out.mono ?_;rintro e w' ⟨rfl,hb⟩)))
    all_goals
     have HK:K6 wr b (p+q*10) (.string x.name) d0 d1 d2 d3 d4 w':=And.right (And.right (And.right (And.right (And.right (And.right (by assumption))))))
     have HKB:=Hd (HBB.out.trans (HK.2.2.mono HBB.out.size))
     clear HK hE C f0 f1 f2 f3 f4 f5
     go_wp2_with fail
     go_roundg g
     case measure=>omega
     case rel=>exact ⟨q+1,by omega,by go_num,(by rw [← hfx.out]),HKB.out⟩
theorem ldirsN_any (l:List DirT) (A:Option Addr) (c:Nat) (w:World) (B:Nat) (hB:B≤w.heap.size) (hn:l.length≤9223372036854775807) (hR:RowT w (fun b=>b < B) (rowOf encD l) A) (hz:dirN l≤1048576) :
  Calls Tryz.prog 30 #[.slice A l.length c] w fun e w'=>e=.returned (.int .i64 (dirN l:Nat))∧Below w.heap.size w w':=by
 have HR:=Hd hR
 have HB0:=Hd hB
 clear hR hB
 go_enter Tryz.func30,Tryz.ntmps30
 go_wp2_with fail
 go_loopg [3,4] l.length (fun g t i wx=>∃ q:Nat,q+g=l.length∧i=.int .i64 q∧t=.int .i64 (((l.take q).map dirF).sum:Nat)∧Below w.heap.size w wx)
 case atStart=>exact ⟨0,by omega,rfl,rfl,Below.refl _ _⟩
 case round =>
  obtain ⟨q,hq,rfl,rfl,hb⟩:=hrel
  have HBB:=Hd hb
  clear hb
  cases gk with
  | zero =>
    obtain rfl:q=l.length:=by omega
    have hfin:Hid (((l.take l.length).map dirF).sum=dirN l):=Hd (by rw [List.take_length];rfl)
    go_wp2_with fail
    go_ret
    exact ⟨by rw [hfin.out];rfl,HBB.out⟩
  | succ g =>
    have hqn:q < l.length:=by omega
    have hqn':(q:Int) < (l.length:Int):=by omega
    obtain ⟨⟨nm,m⟩,hx⟩:∃ x,l[q]? = some x:=⟨_,List.getElem?_eq_getElem hqn⟩
    obtain ⟨b,p,A2,k2,rfl,hlt,hnm,hF,hml,hV⟩:=dir_at (RowT.below (HBB.out.mono HB0.out) HR.out) hx
    have hnx:=Hd (sum_next dirF hx)
    have hup:=Hd (sum_upto dirF l (q+1))
    have HBX:=Nat.le_trans HB0.out HBB.out.size
    have HBW:Hid (b < wr.heap.size):=Hd (Nat.lt_of_lt_of_le hlt HBX)
    have hE:K2 wr b (p+q*2) (.string nm) (.slice A2 m.len k2) wr:=⟨hnm,hF,Below.refl _ _⟩
    obtain ⟨f0,f1,_⟩:=hE.written
    have hsv:sizeV (.mk 0 0 ⟨#[]⟩ .nil m)≤1048576:=by have h1:=hnx.out;have h2:=hup.out;unfold dirN at hz;have h3:dirF (nm,m)=nm.size+1+sizeV (.mk 0 0 ⟨#[]⟩ .nil m):=rfl;omega
    have C:=fun (wx:World) (hx:Below wr.heap.size wr wx)=>Hd (sized_int hsv (vsize_any _ (.mk 0 0 ⟨#[]⟩ .nil m) (Nat.le_refl _) (.int .i64 0) (.int .i64 0) (.string ⟨#[]⟩) (.slice none 0 0) (.slice A2 m.len k2) wx B (Nat.le_trans HBX hx.size) (by
     unfold VAt
     exact ⟨rfl,rfl,rfl,by decide,⟨none,0,rfl,by simp [VL.len],by unfold LAt;trivial⟩,A2,k2,rfl,hml,MAt.below (hx.mono HBX) _ _ _ hV⟩)))
    clear hV hF hnm hx hlt HBX hml
    have hsx:Hid (dirF (nm,m)=nm.size+1+sizeV (.mk 0 0 ⟨#[]⟩ .nil m)):=Hd rfl
    generalize dirF (nm,m)=sx at hnx hsx
    generalize sizeV (.mk 0 0 ⟨#[]⟩ .nil m)=sv at C hsx hsv
    obtain ⟨s0,hs0⟩:∃ n,((l.take q).map dirF).sum=n:=⟨_,rfl⟩
    rw [hs0] at hnx ⊢
    clear hs0
    obtain ⟨E1,hE1,w1⟩:∃ E:Int,E=(s0:Int)+1∧IntKind.i64.wrap ((s0:Int)+1)=E:=⟨_,rfl,by have h1:=hnx.out;have h2:=hup.out;unfold dirN at hz;simp only [IntKind.wrap_i64];omega⟩
    obtain ⟨E2,hE2,w2⟩:∃ E:Int,E=E1+(nm.size:Int)∧IntKind.i64.wrap (E1+(nm.size:Int))=E:=⟨_,rfl,by have h1:=hnx.out;have h2:=hup.out;have h3:=hsx.out;unfold dirN at hz;simp only [IntKind.wrap_i64];omega⟩
    obtain ⟨E3,hE3,w3⟩:∃ E:Int,E=E2+(sv:Int)∧IntKind.i64.wrap (E2+(sv:Int))=E:=⟨_,rfl,by have h1:=hnx.out;have h2:=hup.out;have h3:=hsx.out;unfold dirN at hz;simp only [IntKind.wrap_i64];omega⟩
    have hfx:Hid (E3=((((l.take (q+1)).map dirF).sum:Nat):Int)):=Hd (by have h1:=hnx.out;have h3:=hsx.out;omega)
    clear hE1 hE2 hE3
    go_wp2_with fail
    go_region_held3 (fun w'=>w'.cell? ⟨b,p+q*2,none⟩=some (.string nm)∧w'.cell? ⟨b,p+q*2+1,none⟩=some (.slice A2 m.len k2)∧K2 wr b (p+q*2) (.string nm) (.slice A2 m.len k2) w')
     (first
      | exact K2.written (hE.next HBW.out (Below.drew (Below.refl _ _)))
      | exact K2.written ((hE.next HBW.out (Below.drew (Below.refl _ _))).next HBW.out (by assumption))
      | exact K2.written (hE.next HBW.out (by assumption))
      | exact K2.written (K2.next (by assumption) HBW.out (by assumption))
      | go_keep)
     ((first|(go_at_call 53;refine (C _ (by first|exact Below.drew (Below.refl _ _)|exact K2.below (by assumption))).out.mono ?_;rintro e w' ⟨rfl,hb⟩)))
    all_goals
     have HK:K2 wr b (p+q*2) (.string nm) (.slice A2 m.len k2) w':=And.right (And.right (by assumption))
     have HKB:=Hd (HBB.out.trans (HK.2.2.mono HBB.out.size))
     clear HK hE C f0 f1
     go_wp2_with fail
     go_roundg g
     case measure=>omega
     case rel=>exact ⟨q+1,by omega,by go_num,(by rw [← hfx.out]),HKB.out⟩
def TxtN (w:World) (B:Nat) (A:Option Addr) (n N:Nat):Prop:=n≤9223372036854775807∧∃ xs,Blk.StrsAt w B A n xs∧txtN xs=N∧N≤1048576
theorem ltN_call {wz wx:World} {B:Nat} {A:Option Addr} {n c N:Nat} (h:TxtN wz B A n N) (hB:B≤wz.heap.size) (hb:Below wz.heap.size wz wx):Calls Tryz.prog 28 #[.slice A n c] wx fun e w'=>e=.returned (.int .i64 (N:Int))∧Below wx.heap.size wx w':=by
 obtain ⟨h1,xs,h2,rfl,h4⟩:=h
 exact ltextsN_any A n c xs wx h1 ((h2.below (hb.mono hB)).more (Nat.le_trans hB hb.size)) h4
theorem lightN_any (S:SchT) (c0 c1 c2:Value) (w:World) (B:Nat) (hB:B≤w.heap.size) (hS:TS w (fun b=>b < B) (encSch S) [c0,c1,c2]) (hz:ligN S≤1048576) :
  Calls Tryz.prog 11 #[.agg #[c0,c1,c2]] w fun e w'=>e=.returned (.bool (decide (((ligN S:Nat):Int)≤4000)))∧Below w.heap.size w w':=by
 obtain ⟨A,k,e,hl,hR⟩:=sch_cells hS
 injection e with e0 e
 injection e with e1 e
 injection e with e2 e
 subst e0 e1 e2
 obtain ⟨l,el⟩:∃ l,S.defs=l:=⟨_,rfl⟩
 have HZ:Hid ((l.map defN).sum≤1048576):=Hd (by rw [← el];exact hz)
 have HQ:Hid (ligN S=(l.map defN).sum):=Hd (by rw [← el];rfl)
 generalize ligN S=LG at HQ hz ⊢
 clear hz
 have B0:=Hd (dbelow_new w (.cells #[.slice A S.defs.length k,.string S.query,.string S.mutation] 24))
 have X0:=Hd (heap_alloc_new w (.cells #[.slice A S.defs.length k,.string S.query,.string S.mutation] 24))
 rw [el] at hl hR B0 X0 ⊢
 have HB0:=Hd hB
 have HR:=Hd hR
 clear hB hS hR e el
 go_enter Tryz.func11,Tryz.ntmps11
 go_wp2_with fail
 go_loopg [3,4] l.length (fun g t i wx=>∃ q:Nat,q+g=l.length∧i=.int .i64 q∧t=.int .i64 (((l.take q).map defN).sum:Nat)∧Aside (wx.heap[w.heap.size]? = some (.cells #[.slice A l.length k,.string S.query,.string S.mutation] 24 (0,0)))∧Below w.heap.size w wx)
 case atStart=>exact ⟨0,by omega,rfl,rfl,Blk.Aside.intro X0.out,B0.out⟩
 case round =>
  obtain ⟨q,hq,rfl,rfl,HX,hb⟩:=hrel
  have HBB:=Hd hb
  obtain ⟨x0,x1,x2⟩:=three_cells HX.out
  have hltb:w.heap.size < wr.heap.size:=(Array.getElem?_eq_some_iff.1 HX.out).1
  clear hb
  cases gk with
  | zero =>
    obtain rfl:q=l.length:=by omega
    rw [List.take_length,← HQ.out]
    go_wp2_with fail
    go_ret
    exact ⟨rfl,HBB.out⟩
  | succ gg =>
    have hqn:q < l.length:=by omega
    have hqn':(q:Int) < (l.length:Int):=by omega
    obtain ⟨d,hd⟩:∃ x,l[q]? = some x:=⟨_,List.getElem?_eq_getElem hqn⟩
    obtain ⟨b,p,d0,d1,d2,d3,d4,d5,rfl,hlt,⟨g0,g1,g2,g3,g4,g5⟩,hT⟩:=defn_at (RowT.below (HBB.out.mono HB0.out) HR.out) hd
    obtain ⟨Af,kf,Ax,kx,Ap,kp,Am,km,e,_,⟨lf,hf⟩,⟨lx,hx⟩,⟨lp,hp⟩,lm,hm⟩:=defn_cells hT
    simp only [List.cons.injEq,and_true] at e
    obtain ⟨rfl,rfl,rfl,rfl,rfl,rfl⟩:=e
    have hlt':b < wr.heap.size:=Nat.lt_of_lt_of_le hlt (Nat.le_trans HB0.out HBB.out.size)
    have hBr:=Nat.le_trans HB0.out HBB.out.size
    have hnx:=Hd (sum_next defN hd)
    have hup:=Hd (sum_upto defN l (q+1))
    have hdn:Hid (defN d=1+d.name.size+txtN d.faces+txtN d.parts+parN d.params+(d.fields.map fldN).sum):=Hd rfl
    have hb5:txtN d.faces≤1048576∧txtN d.parts≤1048576∧parN d.params≤1048576∧(d.fields.map fldN).sum≤1048576:=by have h1:=hnx.out;have h2:=hup.out;have h3:=hdn.out;have h4:=HZ.out;omega
    clear hT hd hlt
    go_upto_region 6 with fail
    clear g0 g1 g2 g3 g4 g5 x0 x1 x2
    have hc:=heap_alloc_new wr (.cells #[.int .i64 d.kind,.string d.name,.slice Af d.faces.length kf,.slice Ax d.fields.length kx,.slice Ap d.parts.length kp,.slice Am d.params.length km] 37)
    have hbz:=dbelow_new wr (.cells #[.int .i64 d.kind,.string d.name,.slice Af d.faces.length kf,.slice Ax d.fields.length kx,.slice Ap d.parts.length kp,.slice Am d.params.length km] 37)
    have hgz:wr.heap.size < (wr.alloc (.cells #[.int .i64 d.kind,.string d.name,.slice Af d.faces.length kf,.slice Ax d.fields.length kx,.slice Ap d.parts.length kp,.slice Am d.params.length km] 37)).heap.size:=by simp
    generalize wr.alloc (.cells #[.int .i64 d.kind,.string d.name,.slice Af d.faces.length kf,.slice Ax d.fields.length kx,.slice Ap d.parts.length kp,.slice Am d.params.length km] 37)=wz at hc hbz hgz ⊢
    have HXZ:=Hd ((hbz.block _ hltb).trans HX.out)
    have HBZ:=Hd (HBB.out.trans (hbz.mono HBB.out.size))
    have HLZ:=Hd (Nat.lt_of_lt_of_le hltb hbz.size)
    have hBz:=Nat.le_trans hBr hbz.size
    have t1:TxtN wz B Af d.faces.length (txtN d.faces):=⟨lf,_,(str_row hf).below (hbz.mono hBr),rfl,hb5.1⟩
    have t2:TxtN wz B Ap d.parts.length (txtN d.parts):=⟨lp,_,(str_row hp).below (hbz.mono hBr),rfl,hb5.2.1⟩
    have LP:=fun (wx:World) (h:Below wz.heap.size wz wx)=>Hd (lparamsN_any d.params Am km wx B (Nat.le_trans hBz h.size) lm (RowT.below (h.mono hBz) (RowT.below (hbz.mono hBr) hm)) hb5.2.2.1)
    have HFX:=Hd (RowT.below (hbz.mono hBr) hx)
    generalize wr.heap.size=gq at hc hgz ⊢
    have HC:=Hd hc
    obtain ⟨⟨y0,y1,y2,y3,y4,y5⟩,_⟩:=six_cells hc
    have hE:QD wz gq (.string d.name) (.slice Af d.faces.length kf) (.slice Ap d.parts.length kp) (.slice Am d.params.length km) wz:=⟨y1,y2,y4,y5,Below.refl _ _⟩
    have HGZ:=Hd hgz
    have HBz:=Hd hBz
    clear hc hbz hm hf hp hx lf lp lm y0 y3 hgz hBz
    have HB5:=Hd hb5
    have HFZ:Hid (∀ x,x ∈ d.fields→fldN x≤1048576):=Hd (fun x hx=>Nat.le_trans (sum_part hx) hb5.2.2.2)
    clear hb5
    generalize txtN d.faces=tf at t1 hdn HB5
    generalize txtN d.parts=tp at t2 hdn HB5
    generalize parN d.params=pp at LP hdn HB5
    obtain ⟨s0,hs0⟩:∃ n,((l.take q).map defN).sum=n:=⟨_,rfl⟩
    rw [hs0] at hnx ⊢
    clear hs0
    have hbd:Hid (s0+(1+d.name.size+tf+tp+pp+(d.fields.map fldN).sum)≤1048576):=Hd (by have h1:=hnx.out;have h2:=hup.out;have h3:=hdn.out;have h4:=HZ.out;omega)
    obtain ⟨E1,hE1,w1⟩:∃ E:Int,E=(s0:Int)+1∧IntKind.i64.wrap ((s0:Int)+1)=E:=⟨_,rfl,by have h1:=hbd.out;simp only [IntKind.wrap_i64];omega⟩
    obtain ⟨E2,hE2,w2⟩:∃ E:Int,E=E1+(d.name.size:Int)∧IntKind.i64.wrap (E1+(d.name.size:Int))=E:=⟨_,rfl,by have h1:=hbd.out;simp only [IntKind.wrap_i64];omega⟩
    obtain ⟨E3,hE3,w3⟩:∃ E:Int,E=E2+(tf:Int)∧IntKind.i64.wrap (E2+(tf:Int))=E:=⟨_,rfl,by have h1:=hbd.out;simp only [IntKind.wrap_i64];omega⟩
    obtain ⟨E4,hE4,w4⟩:∃ E:Int,E=E3+(tp:Int)∧IntKind.i64.wrap (E3+(tp:Int))=E:=⟨_,rfl,by have h1:=hbd.out;simp only [IntKind.wrap_i64];omega⟩
    obtain ⟨E5,hE5,w5⟩:∃ E:Int,E=E4+(pp:Int)∧IntKind.i64.wrap (E4+(pp:Int))=E:=⟨_,rfl,by have h1:=hbd.out;simp only [IntKind.wrap_i64];omega⟩
    obtain ⟨s5,hs5⟩:∃ n,s0+1+d.name.size+tf+tp+pp=n:=⟨_,rfl⟩
    have hfx:Hid (E5=(s5:Int)):=Hd (by omega)
    have hs6:Hid (s5+(d.fields.map fldN).sum=((l.take (q+1)).map defN).sum):=Hd (by have h1:=hnx.out;have h3:=hdn.out;omega)
    have hs7:Hid (s5+(d.fields.map fldN).sum≤1048576):=Hd (by have h1:=hbd.out;omega)
    clear hE1 hE2 hE3 hE4 hE5 hs5
    go_region_held3 (fun w'=>w'.cell? ⟨gq,1,none⟩=some (.string d.name)∧w'.cell? ⟨gq,2,none⟩=some (.slice Af d.faces.length kf)∧w'.cell? ⟨gq,4,none⟩=some (.slice Ap d.parts.length kp)∧w'.cell? ⟨gq,5,none⟩=some (.slice Am d.params.length km)∧QD wz gq (.string d.name) (.slice Af d.faces.length kf) (.slice Ap d.parts.length kp) (.slice Am d.params.length km) w')
     (first
      | exact QD.written (hE.next HGZ.out (Below.drew (Below.refl _ _)))
      | exact QD.written ((hE.next HGZ.out (Below.drew (Below.refl _ _))).next HGZ.out (by assumption))
      | exact QD.written (hE.next HGZ.out (by assumption))
      | exact QD.written (QD.next (QD.last (by assumption)) HGZ.out (by assumption))
      | go_keep)
     ((first
      | (go_at_call 28;refine (ltN_call (by assumption) HBz.out (by first|exact Below.drew (Below.refl _ _)|exact QD.held (by assumption))).mono ?_;rintro e w' ⟨rfl,hb⟩)
      | (go_at_call 29;refine (LP _ (by first|exact Below.drew (Below.refl _ _)|exact QD.held (by assumption))).out.mono ?_;rintro e w' ⟨rfl,hb⟩)))
    all_goals
     have HK:=QD.last (by assumption)
     have HW:=Hd HK.below
     clear HK hE t1 t2 LP y1 y2 y4 y5
     have y3:=(HW.out.cell (p:=⟨gq,3,none⟩) HGZ.out).trans (six_cells HC.out).1.2.2.2.1
     go_wp2_with fail
     clear y3
     go_loopg [3,6] d.fields.length (fun g2 t i wx=>∃ j:Nat,j+g2=d.fields.length∧i=.int .i64 j∧t=.int .i64 ((s5+((d.fields.take j).map fldN).sum:Nat):Int)∧Below wz.heap.size wz wx)
     case atStart=>exact ⟨0,by omega,rfl,(by rw [hfx.out];rfl),HW.out⟩
     case round =>
      obtain ⟨j,hj,rfl,rfl,hb⟩:=hrel
      have HBC:=Hd hb
      have y3:=(hb.cell (p:=⟨gq,3,none⟩) HGZ.out).trans (six_cells HC.out).1.2.2.2.1
      clear hb
      cases gk with
      | zero =>
        obtain rfl:j=d.fields.length:=by omega
        rw [List.take_length,hs6.out]
        go_wp2_with fail
        go_roundg gg
        case measure=>omega
        case rel=>exact ⟨q+1,by omega,by go_num,rfl,Blk.Aside.intro ((HBC.out.block _ HLZ.out).trans HXZ.out),HBZ.out.trans (HBC.out.mono HBZ.out.size)⟩
      | succ g2 =>
        have hjn:j < d.fields.length:=by omega
        have hjn':(j:Int) < (d.fields.length:Int):=by omega
        obtain ⟨x,hx⟩:∃ x,d.fields[j]? = some x:=⟨_,List.getElem?_eq_getElem hjn⟩
        obtain ⟨b2,p2,e0,e1,e2,e3,e4,e5,rfl,hlt2,⟨f0,f1,f2,f3,f4,f5⟩,hT2⟩:=field_at (RowT.below (HBC.out.mono HBz.out) HFX.out) hx
        obtain ⟨Bp,cp,Bd,cd,e,_,⟨l1,h1⟩,l5,h5⟩:=fld_cells hT2
        simp only [List.cons.injEq,and_true] at e
        obtain ⟨rfl,rfl,rfl,rfl,rfl,rfl⟩:=e
        have hBk:=Nat.le_trans HBz.out HBC.out.size
        have HB2:Hid (b2 < wr.heap.size):=Hd (Nat.lt_of_lt_of_le hlt2 hBk)
        have HG2:Hid (gq < wr.heap.size):=Hd (Nat.lt_of_lt_of_le HGZ.out HBC.out.size)
        have hnf:=Hd (sum_next fldN hx)
        have huf:=Hd (sum_upto fldN d.fields (j+1))
        have hfn:Hid (fldN x=1+x.name.size+parN x.params+dirN x.dirs):=Hd rfl
        have hb2:parN x.params≤1048576∧dirN x.dirs≤1048576:=by have h1:=HFZ.out x (List.mem_of_getElem? hx);have h2:=hfn.out;omega
        have LP:=fun (wx:World) (h:Below wr.heap.size wr wx)=>Hd (lparamsN_any x.params Bp cp wx B (Nat.le_trans hBk h.size) l1 (RowT.below (h.mono hBk) h1) hb2.1)
        have LD:=fun (wx:World) (h:Below wr.heap.size wr wx)=>Hd (ldirsN_any x.dirs Bd cd wx B (Nat.le_trans hBk h.size) l5 (RowT.below (h.mono hBk) h5) hb2.2)
        have hE:QE wr gq (.slice (some ⟨b2,p2,none⟩) d.fields.length kx) b2 (p2+j*6) (.string x.name) (.slice Bp x.params.length cp) (.slice Bd x.dirs.length cd) wr:=⟨y3,f0,f1,f5,Below.refl _ _⟩
        clear hT2 h1 h5 l1 l5 f2 f3 f4 hx hlt2 hb2
        generalize parN x.params=xp at LP hfn
        generalize dirN x.dirs=xd at LD hfn
        obtain ⟨u0,hu0⟩:∃ n,s5+((d.fields.take j).map fldN).sum=n:=⟨_,rfl⟩
        rw [hu0]
        have hud:Hid (u0+(1+x.name.size+xp+xd)≤1048576):=Hd (by have h1:=hnf.out;have h2:=huf.out;have h3:=hfn.out;have h4:=hs7.out;omega)
        obtain ⟨F1,hF1,w6⟩:∃ E:Int,E=(u0:Int)+1∧IntKind.i64.wrap ((u0:Int)+1)=E:=⟨_,rfl,by have h1:=hud.out;simp only [IntKind.wrap_i64];omega⟩
        obtain ⟨F2,hF2,w7⟩:∃ E:Int,E=F1+(x.name.size:Int)∧IntKind.i64.wrap (F1+(x.name.size:Int))=E:=⟨_,rfl,by have h1:=hud.out;simp only [IntKind.wrap_i64];omega⟩
        obtain ⟨F3,hF3,w8⟩:∃ E:Int,E=F2+(xp:Int)∧IntKind.i64.wrap (F2+(xp:Int))=E:=⟨_,rfl,by have h1:=hud.out;simp only [IntKind.wrap_i64];omega⟩
        obtain ⟨F4,hF4,w9⟩:∃ E:Int,E=F3+(xd:Int)∧IntKind.i64.wrap (F3+(xd:Int))=E:=⟨_,rfl,by have h1:=hud.out;simp only [IntKind.wrap_i64];omega⟩
        have hfy:Hid (F4=((s5+((d.fields.take (j+1)).map fldN).sum:Nat):Int)):=Hd (by have h1:=hnf.out;have h3:=hfn.out;omega)
        clear hF1 hF2 hF3 hF4 hu0
        go_wp2_with fail
        go_region_held3 (fun w'=>w'.cell? ⟨gq,3,none⟩=some (.slice (some ⟨b2,p2,none⟩) d.fields.length kx)∧w'.cell? ⟨b2,p2+j*6,none⟩=some (.string x.name)∧w'.cell? ⟨b2,p2+j*6+1,none⟩=some (.slice Bp x.params.length cp)∧w'.cell? ⟨b2,p2+j*6+5,none⟩=some (.slice Bd x.dirs.length cd)∧QE wr gq (.slice (some ⟨b2,p2,none⟩) d.fields.length kx) b2 (p2+j*6) (.string x.name) (.slice Bp x.params.length cp) (.slice Bd x.dirs.length cd) w')
         (first
          | exact QE.written (hE.next HG2.out HB2.out (Below.drew (Below.refl _ _)))
          | exact QE.written ((hE.next HG2.out HB2.out (Below.drew (Below.refl _ _))).next HG2.out HB2.out (by assumption))
          | exact QE.written (hE.next HG2.out HB2.out (by assumption))
          | exact QE.written (QE.next (QE.last (by assumption)) HG2.out HB2.out (by assumption))
          | go_keep)
         ((first
          | (go_at_call 30;refine (LD _ (by first|exact Below.drew (Below.refl _ _)|exact QE.held (by assumption))).out.mono ?_;rintro e w' ⟨rfl,hb⟩)
          | (go_at_call 29;refine (LP _ (by first|exact Below.drew (Below.refl _ _)|exact QE.held (by assumption))).out.mono ?_;rintro e w' ⟨rfl,hb⟩)))
        all_goals
         have HK:=QE.last (by assumption)
         have HW:=Hd (HBC.out.trans (HK.below.mono HBC.out.size))
         clear HK hE LP LD y3 f0 f1 f5
         go_wp2_with fail
         go_roundg g2
         case measure=>omega
         case rel=>exact ⟨j+1,by omega,by go_num,(by rw [← hfy.out]),HW.out⟩
theorem lig_size (S:SchT):ligN S≤szS S:=by
 have hp:∀ l:List VarT,parN l≤(l.map szP).sum:=fun l=>sum_le (fun p _=>by unfold parF szP;omega)
 have hd:∀ l:List DirT,dirN l≤(l.map szDr).sum:=fun l=>sum_le (fun p _=>by
  unfold dirF szDr
  rw [sizeV,sizeL]
  have:(⟨#[]⟩:ByteArray).size=0:=rfl
  omega)
 have hf:∀ f:FieldT,fldN f≤szF f:=fun f=>by
  have h1:=hp f.params
  have h2:=hd f.dirs
  unfold fldN szF
  omega
 refine sum_le (fun d _=>?_)
 have h1:=hp d.params
 have h2:(d.fields.map fldN).sum≤(d.fields.map szF).sum:=sum_le (fun f _=>hf f)
 unfold defN szD txtN
 omega
structure BindT where
 how:Int
 table:ByteArray
 col:ByteArray
 arg:ByteArray
 cmd:ByteArray
def bindV (b:BindT):Value:=.agg #[.int .i64 b.how,.string b.table,.string b.col,.string b.arg,.string b.cmd]
def noneB:BindT:=⟨0,⟨#[]⟩,⟨#[]⟩,⟨#[]⟩,⟨#[]⟩⟩
def hitB (nm o:ByteArray) (a:ByteArray × VT):Bool:=(a.1.toList == nm.toList) && ((o.toList == []) && ((a.2.kd == 4) && !(a.2.ss.toList == [])))
def setT:List ByteArray→List ByteArray→ByteArray × VT→Option (List ByteArray)
 | nm :: ns,o :: os,a=>if hitB nm o a=true then some (a.2.ss :: os) else (setT ns os a).map (o :: ·)
 | _,_,_=>none
def textsF (ns:List ByteArray):List (ByteArray × VT)→List ByteArray→List ByteArray × Bool
 | [],out=>(out,!hasN out ⟨#[]⟩)
 | a :: t,out=>match setT ns out a with
   | none=>(out,false)
   | some o=>textsF ns t o
def textsL (ns:List ByteArray) (xs:List (ByteArray × VT)):List ByteArray × Bool:=textsF ns xs (List.replicate ns.length ⟨#[]⟩)
def NoHit (ns out:List ByteArray) (a:ByteArray × VT) (k:Nat):Prop:=∀ j nm o,j < k→ns[j]? = some nm→out[j]? = some o→hitB nm o a=false
theorem set_hit {a:ByteArray × VT} : ∀ {ns out:List ByteArray} {k:Nat} {nm o:ByteArray},NoHit ns out a k→ns[k]? = some nm→out[k]? = some o→hitB nm o a=true→setT ns out a=some (out.set k a.2.ss)
 | nm :: ns,x :: os,0,_,_,_,h1,h2,h=>by
   simp only [List.getElem?_cons_zero,Option.some.injEq] at h1 h2
   subst h1 h2
   rw [setT,if_pos h]
   rfl
 | nm :: ns,x :: os,k+1,_,_,hn,h1,h2,h=>by
   have h0:=hn 0 nm x (by omega) rfl rfl
   rw [setT,if_neg (by rw [h0];decide),set_hit (k:=k) (fun j m o hj e1 e2=>hn (j+1) m o (by omega) e1 e2) h1 h2 h]
   rfl
 | [],_,_,_,_,_,h1,_,_=>by simp at h1
 | _ :: _,[],_,_,_,_,_,h2,_=>by simp at h2
theorem set_no {a:ByteArray × VT} : ∀ {ns out:List ByteArray},NoHit ns out a ns.length→setT ns out a=none
 | nm :: ns,x :: os,hn=>by
   have h0:=hn 0 nm x (by simp) rfl rfl
   rw [setT,if_neg (by rw [h0];decide),set_no (fun j m o hj e1 e2=>hn (j+1) m o (by simp;omega) e1 e2)]
   rfl
 | [],_,_=>by rw [setT];simp
 | _ :: _,[],_=>by rw [setT];simp
theorem hit_next {ns out:List ByteArray} {a:ByteArray × VT} {k:Nat} {nm o:ByteArray} (hn:NoHit ns out a k) (h1:ns[k]? = some nm) (h2:out[k]? = some o) (h:hitB nm o a=false):NoHit ns out a (k+1):=fun j m x hj e1 e2=>by
 rcases Nat.lt_or_ge j k with hl|hg
 · exact hn j m x hl e1 e2
 · obtain rfl:j=k:=by omega
   rw [h1] at e1
   rw [h2] at e2
   cases e1
   cases e2
   exact h
theorem set_len {a:ByteArray × VT} : ∀ {ns out o:List ByteArray},setT ns out a=some o→o.length=out.length
 | nm :: ns,x :: os,o,h=>by
   rw [setT] at h
   split at h
   · injection h with h
     subst h
     rfl
   · cases e:setT ns os a with
     | none=>rw [e] at h;cases h
     | some r =>
       rw [e] at h
       injection h with h
       subst h
       have:=set_len e
       simp [this]
 | [],_,_,h=>by simp [setT] at h
 | _ :: _,[],_,h=>by simp [setT] at h
theorem texts_len (ns:List ByteArray):∀ (xs:List (ByteArray × VT)) (out:List ByteArray),(textsF ns xs out).1.length=out.length
 | [],_=>rfl
 | a :: t,out=>by
   rw [textsF]
   cases e:setT ns out a with
   | none=>rfl
   | some o=>exact (texts_len ns t o).trans (set_len e)
theorem textsL_len (ns:List ByteArray) (xs:List (ByteArray × VT)):(textsL ns xs).1.length=ns.length:=(texts_len ns xs _).trans (List.length_replicate ..)
theorem texts_full (ns:List ByteArray):∀ (xs:List (ByteArray × VT)) (out:List ByteArray),(textsF ns xs out).2=true→∀ s,s ∈ (textsF ns xs out).1→¬ s.toList=[]
 | [],out,h,s,hs=>fun e=>by
   have h:(!hasN out ⟨#[]⟩)=true:=h
   have hs:s ∈ out:=hs
   have e2:s=⟨#[]⟩:=by
     rw [Lib.toList_data] at e
     exact ByteArray.ext (Array.ext' e)
   subst e2
   rw [hasN_iff.2 hs] at h
   cases h
 | a :: t,out,h,s,hs=>by
   rw [textsF] at h hs
   cases e:setT ns out a with
   | none=>rw [e] at h;cases h
   | some o =>
     rw [e] at h hs
     exact texts_full ns t o h s hs
def nthB (l:List ByteArray) (k:Nat):ByteArray:=l.getD k ⟨#[]⟩
def nmName:ByteArray:=⟨#[110,97,109,101]⟩
def nmTable:ByteArray:=⟨#[116,97,98,108,101]⟩
def nmCol:ByteArray:=⟨#[99,111,108]⟩
def nmArg:ByteArray:=⟨#[97,114,103]⟩
def nmCmd:ByteArray:=⟨#[99,109,100]⟩
def cmdB (x:ByteArray):Bool:=hasN [⟨#[112,117,116]⟩,⟨#[99,117,116]⟩,⟨#[98,117,114,110]⟩] x
def commandT (xs:List (ByteArray × VT)):BindT × Bool:=
 if (textsL [nmCmd,nmTable,nmCol] xs).2=true then (⟨3,nthB (textsL [nmCmd,nmTable,nmCol] xs).1 1,nthB (textsL [nmCmd,nmTable,nmCol] xs).1 2,⟨#[]⟩,nthB (textsL [nmCmd,nmTable,nmCol] xs).1 0⟩,(nthB (textsL [nmCmd,nmTable,nmCol] xs).1 0).toList == [97,100,100])
 else (⟨3,nthB (textsL [nmCmd,nmTable] xs).1 1,⟨#[]⟩,⟨#[]⟩,nthB (textsL [nmCmd,nmTable] xs).1 0⟩,(textsL [nmCmd,nmTable] xs).2 && cmdB (nthB (textsL [nmCmd,nmTable] xs).1 0))
def toldT (d:DirT):BindT × Bool:=
 if (d.1.toList == [99,111,108])=true then (⟨0,⟨#[]⟩,nthB (textsL [nmName] d.2.list).1 0,⟨#[]⟩,⟨#[]⟩⟩,(textsL [nmName] d.2.list).2) else
 if (d.1.toList == [108,105,110,107])=true then (⟨1,nthB (textsL [nmTable,nmCol] d.2.list).1 0,nthB (textsL [nmTable,nmCol] d.2.list).1 1,⟨#[]⟩,⟨#[]⟩⟩,(textsL [nmTable,nmCol] d.2.list).2) else
 if (d.1.toList == [103,101,116])=true then (⟨2,nthB (textsL [nmTable,nmArg] d.2.list).1 0,⟨#[]⟩,nthB (textsL [nmTable,nmArg] d.2.list).1 1,⟨#[]⟩⟩,(textsL [nmTable,nmArg] d.2.list).2) else
 if (d.1.toList == [100,111])=true then commandT d.2.list else (noneB,false)
def sourceT (ds:List DirT) (nm:ByteArray):BindT × Bool:=match ds with
 | []=>(⟨0,⟨#[]⟩,nm,⟨#[]⟩,⟨#[]⟩⟩,true)
 | [d]=>toldT d
 | _=>(noneB,false)
def changesB (S:SchT) (typ:ByteArray):Bool:=!(S.mutation.toList == []) && (typ.toList == S.mutation.toList)
def ofRowsB (S:SchT) (n:ByteArray):Bool:=compD S.defs n && ((S.mutation.toList == []) || !hasN (possL S n) S.mutation)
def keysP (tl:Int) (n:ByteArray):List VarT→Bool
 | []=>false
 | p :: t=>if (p.name.toList == n.toList)=true then (((p.tn.toList == [73,68]) || (p.tn.toList == [83,116,114,105,110,103])) && (p.tl == tl)) else keysP tl n t
def fitsT (S:SchT) (f:FieldT) (b:BindT):Bool:=
 if (b.how == 0)=true then leafD S.defs f.tn else
 if (b.how == 1)=true then ofRowsB S f.tn else
 if (b.how == 2)=true then ofRowsB S f.tn && keysP f.tl b.arg f.params else
 (f.tl == 0) && (leafD S.defs f.tn || ofRowsB S f.tn)
def tnB:List UInt8:=[95,95,116,121,112,101,110,97,109,101]
def ofOkB (S:SchT) (typ:ByteArray) (f:FieldT):Bool:=(sourceT f.dirs f.name).2 && (!(f.name.toList == tnB) && (fitsT S f (sourceT f.dirs f.name).1 && (((sourceT f.dirs f.name).1.how == 3) == changesB S typ)))
def ofT (S:SchT) (typ:ByteArray) (f:FieldT):BindT × Bool:=if ofOkB S typ f=true then ((sourceT f.dirs f.name).1,true) else (noneB,false)
def OutAt (g:Nat) (out:List ByteArray) (w:World):Prop:=w.heap[g]? = some (.cells (out.map Value.string).toArray 9 (0,0))
theorem OutAt.next {g:Nat} {out:List ByteArray} {w w':World} (h:OutAt g out w) (hb:Below w.heap.size w w'):OutAt g out w':=(hb.block _ (Array.getElem?_eq_some_iff.1 h).1).trans h
theorem OutAt.cell {g:Nat} {out:List ByteArray} {w:World} {k:Nat} {o:ByteArray} (h:OutAt g out w) (hk:out[k]? = some o):w.cell? ⟨g,k,none⟩=some (.string o):=by
 unfold OutAt at h
 simp [World.cell?,h,hk]
theorem OutAt.row {g:Nat} {out:List ByteArray} {w:World} (h:OutAt g out w) {B:Nat} (hg:g < B):Blk.StrsAt w B (some ⟨g,0,none⟩) out.length out:=
 ⟨rfl,fun j x hx=>⟨g,0,rfl,hg,by rw [Nat.zero_add];exact h.cell hx⟩⟩
theorem OutAt.set {g:Nat} {out:List ByteArray} {w:World} (h:OutAt g out w) (k:Nat) (v:ByteArray):OutAt g (out.set k v) (w.setCell ⟨g,k,none⟩ (.string v)):=by
 unfold OutAt at h ⊢
 simp [World.setCell,Array.getElem?_modify,h]
def TextsO (x:List ByteArray × Bool) (w:World) (e:Ending) (w':World):Prop:=∃ g,e=.returned (.tuple #[.slice (some ⟨g,0,none⟩) x.1.length x.1.length,.bool x.2])∧w.heap.size≤g∧OutAt g x.1 w'∧Below w.heap.size w w'
theorem str_cell {w:World} {P:Nat→Prop} {l:List ByteArray} {A:Option Addr} {q:Nat} {x:ByteArray} (h:RowT w P (rowOf encStr l) A) (hx:l[q]? = some x):∃ b o,A=some ⟨b,o,none⟩∧P b∧w.cell? ⟨b,o+q,none⟩=some (.string x)∧x.size≤9223372036854775807:=by
 obtain ⟨b,o,cs,e,hb,hc,h1⟩:=rowOf_at 1 (fun _=>rfl) h hx
 obtain ⟨rfl,hz⟩:=str_one h1
 have:=hc 0 _ rfl
 rw [Nat.mul_one,Nat.add_zero] at this
 exact ⟨b,o,e,hb,this,hz⟩
theorem made_one (x:Value) (n:Nat):(madeCells #[x] n).toList=List.replicate n x:=by
 unfold madeCells
 refine List.ext_getElem (by simp) fun i h1 h2=>?_
 simp [Nat.mod_one]
theorem out_made {base n:Nat} {w:World} {g:Nat} (h:w.ownsRow base 9 1 (.slice (some ⟨g,0,none⟩) n n) n (madeCells #[.string ⟨#[]⟩] (n*1)).toList):OutAt g (List.replicate n ⟨#[]⟩) w:=by
 rcases h.2 with ⟨e,_⟩|⟨g',cap,cur,e,_,hg,_,_,hs,ht⟩
 · cases e
 · injection e with e1 _ e3
   injection e1 with e1
   injection e1 with e1 _ _
   subst e1 e3
   rw [made_one,Nat.mul_one] at ht
   rw [Nat.mul_one] at hs
   have hc:cur=((List.replicate n (⟨#[]⟩:ByteArray)).map Value.string).toArray:=by
    rw [List.take_of_length_le (by simp [hs])] at ht
    rw [List.map_replicate,← ht]
   unfold OutAt
   rw [hg,hc]
theorem texts_any (ms:List (ByteArray × VT)) (ns:List ByteArray) (A:Option Addr) (c:Nat) (An:Option Addr) (cn:Nat) (w:World) (hl:ms.length≤9223372036854775807) (hn:ns.length≤1000) (hM:RowT w (fun b=>b < w.heap.size) (rowOf encPr ms) A) (hN:RowT w (fun b=>b < w.heap.size) (rowOf encStr ns) An) :
  Calls Tryz.prog 144 #[.slice A ms.length c,.slice An ns.length cn] w (TextsO (textsL ns ms) w):=by
 have HM:=Hd (fun (wx:World) (h:Below w.heap.size w wx)=>RowT.below h hM)
 have HN:=Hd (fun (wx:World) (h:Below w.heap.size w wx)=>RowT.below h hN)
 clear hM hN
 go_enter Tryz.func144,Tryz.ntmps144
 go_wp2_with fail
 go_step3
 obtain ⟨i0,hi,hz0,hz1,hz2⟩:=info_parts1 info_txt
 go_wp2_with (at_make;refine wpList_make_full _ rfl _ _ 32 rfl w.heap.size 9 i0 (.string ⟨#[]⟩) 1 Tryz.underlying32 hi hz0 hz1 .i64 .i64 _ _ ns.length rfl rfl rfl rfl (by rw [hz2];omega) (by unfold maxLen;omega) (Nat.le_refl _) ?_;intro w2 hown hgr;have HO2:=Hd (out_made hown);have HB2:=Hd (below_grown (B:=w.heap.size) (Below.refl _ _) hgr (Nat.le_refl _) (fun b hb=>by cases hb));clear hown hgr)
 go_step3
 go_wp2_with fail
 generalize hg:w.heap.size=gb at HO2 ⊢
 have HGB:=Hd (Nat.le_of_eq hg)
 have HGL:=Hd (Array.getElem?_eq_some_iff.1 HO2.out).1
 clear hg
 have HS0:Hid (textsF ns (ms.drop 0) (List.replicate ns.length ⟨#[]⟩)=textsL ns ms):=Hd rfl
 go_loopg [16] ms.length (fun g i wx=>∃ (q:Nat) (out:List ByteArray),q+g=ms.length∧i=.int .i64 q∧Aside (textsF ns (ms.drop q) out=textsL ns ms∧out.length=ns.length∧OutAt gb out wx∧Below w.heap.size w wx))
 case atStart=>exact ⟨0,_,by omega,rfl,Blk.Aside.intro ⟨HS0.out,List.length_replicate ..,HO2.out,HB2.out⟩⟩
 case round =>
  obtain ⟨q,out,hq,rfl,HX⟩:=hrel
  have HE:=Hd HX.out.1
  have HL:=Hd HX.out.2.1
  have HO:=Hd HX.out.2.2.1
  have BX:=Hd HX.out.2.2.2
  clear HX HS0 HO2 HB2
  cases gk with
  | zero =>
    obtain rfl:q=ms.length:=by omega
    have HE2:Hid (textsL ns ms=(out,!hasN out ⟨#[]⟩)):=Hd (by rw [← HE.out,List.drop_length];rfl)
    have hol:=HL.out
    have CS:=Hd (contains_s (some ⟨gb,0,none⟩) out.length out.length out ⟨#[]⟩ wr (by omega) (HO.out.row (Array.getElem?_eq_some_iff.1 HO.out).1))
    rw [hol] at CS
    go_wp2_with fail
    refine CS.out.mono ?_
    rintro e w4 ⟨rfl,hb⟩
    have HO4:=Hd (HO.out.next hb)
    have B4:=Hd (BX.out.trans (hb.mono BX.out.size))
    clear hb
    go_wp2_with fail
    rw [Exit.noGoto_ret]
    go_ret2
    exact ⟨gb,by rw [HE2.out,hol];rfl,HGB.out,by rw [HE2.out];exact HO4.out,B4.out⟩
  | succ g =>
    have hqn:q < ms.length:=by omega
    have hqn':(q:Int) < (ms.length:Int):=by omega
    obtain ⟨a,ha⟩:∃ x,ms[q]? = some x:=⟨_,List.getElem?_eq_getElem hqn⟩
    obtain ⟨b,o,cs,rfl,hb,hc,hT⟩:=rowOf_at 6 pr_len (HM.out _ BX.out) ha
    obtain ⟨A3,k3,A4,k4,rfl,_⟩:=pr_cells hT
    have g0:wr.cell? ⟨b,o+q*6,none⟩=some (.string a.1):=hc 0 _ rfl
    have g1:=hc 1 _ rfl
    have g2:=hc 2 _ rfl
    have g3:=hc 3 _ rfl
    have g4:=hc 4 _ rfl
    have g5:=hc 5 _ rfl
    have HD:Hid (ms.drop q=a :: ms.drop (q+1)):=Hd (by rw [List.drop_eq_getElem_cons hqn];rw [List.getElem?_eq_getElem hqn] at ha;injection ha with ha;rw [ha])
    clear ha hb hc hT
    go_upto_region 5 with fail
    clear g0 g1 g2 g3 g4 g5
    have bn:=dbelow_new wr (.cells #[.string a.1,.int .i64 a.2.kd,.int .i64 a.2.nn,.string a.2.ss,.slice A3 a.2.ls.len k3,.slice A4 a.2.ms.len k4] 97)
    have B2:=Hd (BX.out.trans (bn.mono BX.out.size))
    have O2:=Hd (HO.out.next bn)
    have Y2:=Hd (heap_alloc_new wr (.cells #[.string a.1,.int .i64 a.2.kd,.int .i64 a.2.nn,.string a.2.ss,.slice A3 a.2.ls.len k3,.slice A4 a.2.ms.len k4] 97))
    have HGM:=Hd (Nat.lt_of_lt_of_le (Array.getElem?_eq_some_iff.1 HO.out).1 (Nat.le_refl wr.heap.size))
    generalize wr.alloc (.cells #[.string a.1,.int .i64 a.2.kd,.int .i64 a.2.nn,.string a.2.ss,.slice A3 a.2.ls.len k3,.slice A4 a.2.ms.len k4] 97)=w2 at B2 Y2 O2 ⊢
    generalize wr.heap.size=gm at Y2 HGM ⊢
    clear bn
    go_wp2_with fail
    go_loopg [22] ns.length (fun g2 kk wx=>∃ j:Nat,j+g2=ns.length∧kk=.int .i64 j∧Aside (NoHit ns out a j∧wx=w2))
    case atStart=>exact ⟨0,by omega,rfl,Blk.Aside.intro ⟨fun j nm o hj=>by omega,rfl⟩⟩
    case round =>
     obtain ⟨j,hj,rfl,HX⟩:=hrel
     have HNH:=Hd HX.out.1
     obtain rfl:=HX.out.2
     clear HX
     obtain ⟨⟨g0,g1,g2,g3,g4,g5⟩,_⟩:=six_cells Y2.out
     cases gk with
     | zero =>
       obtain rfl:j=ns.length:=by omega
       have HE3:Hid (textsL ns ms=(out,false)):=Hd (by rw [← HE.out,HD.out,textsF,set_no HNH.out])
       have hol:=HL.out
       go_wp2_with fail
       rw [Exit.noGoto_ret]
       go_ret2
       exact ⟨gb,by rw [HE3.out,hol];rfl,HGB.out,by rw [HE3.out];exact O2.out,B2.out⟩
     | succ g2 =>
       have hjn:j < ns.length:=by omega
       have hjn':(j:Int) < (ns.length:Int):=by omega
       have hol:=HL.out
       obtain ⟨nm,hnm⟩:∃ x,ns[j]? = some x:=⟨_,List.getElem?_eq_getElem hjn⟩
       obtain ⟨o1,ho1⟩:∃ x,out[j]? = some x:=⟨_,List.getElem?_eq_getElem (by omega)⟩
       obtain ⟨bn,on,rfl,_,y0,_⟩:=str_cell (HN.out _ B2.out) hnm
       have y1:=O2.out.cell ho1
       have HH:=Hd (fun h=>set_hit HNH.out hnm ho1 h)
       have HNO:=Hd (fun h=>hit_next HNH.out hnm ho1 h)
       have HB:Hid (hitB nm o1 a=((a.1.toList == nm.toList) && ((o1.toList == []) && ((a.2.kd == 4) && !(a.2.ss.toList == []))))):=Hd rfl
       clear hnm ho1
       cases e1:(a.1.toList == nm.toList) with
       | false =>
         rw [e1] at HB
         have HNX:=Hd (HNO.out (by rw [HB.out];rfl))
         go_wp2_with fail
         go_roundg g2
         case measure=>omega
         case rel=>exact ⟨j+1,by omega,by go_num,Blk.Aside.intro ⟨HNX.out,rfl⟩⟩
       | true =>
         cases e2:(o1.toList == []) with
         | false =>
           rw [e1,e2] at HB
           have HNX:=Hd (HNO.out (by rw [HB.out];rfl))
           go_wp2_with fail
           go_roundg g2
           case measure=>omega
           case rel=>exact ⟨j+1,by omega,by go_num,Blk.Aside.intro ⟨HNX.out,rfl⟩⟩
         | true =>
           cases e3:(a.2.kd == 4) with
           | false =>
             rw [e1,e2,e3] at HB
             have HNX:=Hd (HNO.out (by rw [HB.out];rfl))
             go_wp2_with fail
             go_roundg g2
             case measure=>omega
             case rel=>exact ⟨j+1,by omega,by go_num,Blk.Aside.intro ⟨HNX.out,rfl⟩⟩
           | true =>
             cases e4:(a.2.ss.toList == []) with
             | true =>
               rw [e1,e2,e3,e4] at HB
               have HNX:=Hd (HNO.out (by rw [HB.out];rfl))
               go_wp2_with fail
               go_roundg g2
               case measure=>omega
               case rel=>exact ⟨j+1,by omega,by go_num,Blk.Aside.intro ⟨HNX.out,rfl⟩⟩
             | false =>
               rw [e1,e2,e3,e4] at HB
               have HST:=Hd (HH.out (by rw [HB.out];rfl))
               have f1:wr.frozen? ⟨gb,j,none⟩=false:=cells_frozen O2.out j
               go_wp2_with fail
               go_roundg g
               case measure=>omega
               case rel=>exact ⟨q+1,out.set j a.2.ss,by omega,by go_num,Blk.Aside.intro ⟨by rw [← HE.out,HD.out,textsF,HST.out],by rw [List.length_set];exact hol,O2.out.set j a.2.ss,B2.out.setCell HGB.out _⟩⟩
end Go.Proofs.YtaekdfcpbepepaaGreatDoor
