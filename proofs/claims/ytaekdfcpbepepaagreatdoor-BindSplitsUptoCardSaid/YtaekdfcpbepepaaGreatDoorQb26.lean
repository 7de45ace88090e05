/- sdl's some, rightDef. (gen_right3.py wrote it.) -/
import Derived.Test.YtaekdfcpbepepaaGreatDoorQb25
import Derived.Maps.OwnSet
set_option maxRecDepth 100000
set_option maxHeartbeats 16000000
namespace Go.Proofs.YtaekdfcpbepepaaGreatDoor
open Go.RowKit
def someB {α:Type} (l:List α) (p:α→Bool):Bool:=decide (0 < l.length) && l.all p
def nmB (s:ByteArray):Bool:=nameB s.data.toList
def enumV (s:ByteArray):VT:=.mk 5 0 s .nil .nil
def enB (s:ByteArray):Bool:=fitV goodB (enumV s)
def noB {α:Type} (l:List α):Bool:=(l.length:Int) == 0
noncomputable def defB (d:DefnT):Bool:=nmB d.name &&
 (if ((d.kind == 1) || (d.kind == 2))=true then d.faces.all nmB && (someB d.fields fldB && (noB d.parts && noB d.params)) else
  if (d.kind == 3)=true then someB d.parts nmB && (noB d.faces && (noB d.fields && noB d.params)) else
  if (d.kind == 4)=true then someB d.parts enB && (noB d.faces && (noB d.fields && noB d.params)) else
  if (d.kind == 5)=true then someB d.params prmB && (noB d.faces && (noB d.fields && noB d.parts)) else false)
theorem enum_right (s:ByteArray) (w:World) (hs:s.size≤1000000) (hw:Laid5 w):Calls Tryz.prog 173 #[.string s] w fun e w'=>e=.returned (.bool (enB s))∧Below w.heap.size w w':=by
 have hz:sizeV (enumV s)≤1100000:=by
  unfold enumV
  rw [sizeV,sizeL,sizeM]
  omega
 have GV:=Hd (vgood_any (enumV s) hz _ _ _ _ _ w w.heap.size (Nat.le_refl _) (ts_vat (leaf_tsS 5 0 s (by omega))) hw)
 have HE:Hid (enB s=fitV goodB (enumV s)):=Hd rfl
 clear hw hz
 generalize fitV goodB (enumV s)=b at GV HE
 go_enter Tryz.func173,Tryz.ntmps173
 go_wp2_with fail
 refine GV.out.mono ?_
 rintro e w2 ⟨rfl,hb⟩
 have HB:=Hd hb
 clear hb
 go_wp2_with fail
 go_ret
 exact ⟨by rw [HE.out];rfl,HB.out⟩
theorem someFld_any (fn:Nat) (l:List FieldT) (A:Option Addr) (c:Nat) (p:FieldT→Bool) (w:World) (hl:l.length≤9223372036854775807) (hA:∀ wx,Below w.heap.size w wx→Calls Tryz.prog 192 #[.slice A l.length c,.func (.func fn) #[] #[]] wx fun e w'=>e=.returned (.bool (l.all p))∧Below wx.heap.size wx w') :
   Calls Tryz.prog 170 #[.slice A l.length c,.func (.func fn) #[] #[]] w fun e w'=>e=.returned (.bool (someB l p))∧Below w.heap.size w w':=by
 have HA:=Hd (hA _ (Below.refl _ _))
 clear hA
 by_cases h0:l.length=0
 · have e1:decide ((0:Int) < (l.length:Int))=false:=decide_eq_false (by omega)
   have hl0:(l.length:Int)=0:=by omega
   have HS:Hid (someB l p=false):=Hd (by unfold someB;rw [decide_eq_false (by omega)];rfl)
   rw [h0]
   go_enter Tryz.func170,Tryz.ntmps170
   go_wp2_with fail
   go_ret
   exact ⟨by rw [HS.out];rfl,Below.refl _ _⟩
 · have e1:decide ((0:Int) < (l.length:Int))=true:=decide_eq_true (by omega)
   have hl0:(0:Int) < (l.length:Int):=by omega
   have hl1:0 < l.length:=by omega
   have HS:Hid (someB l p=l.all p):=Hd (by unfold someB;rw [decide_eq_true hl1];rfl)
   go_enter Tryz.func170,Tryz.ntmps170
   go_wp2_with fail
   refine HA.out.mono ?_
   rintro e w2 ⟨rfl,hb⟩
   have HB:=Hd hb
   clear hb
   go_wp2_with fail
   go_ret
   exact ⟨by rw [HS.out];rfl,HB.out⟩
theorem someStr_any (fn:Nat) (l:List ByteArray) (A:Option Addr) (c:Nat) (p:ByteArray→Bool) (w:World) (hl:l.length≤9223372036854775807) (hA:∀ wx,Below w.heap.size w wx→Calls Tryz.prog 169 #[.slice A l.length c,.func (.func fn) #[] #[]] wx fun e w'=>e=.returned (.bool (l.all p))∧Below wx.heap.size wx w') :
   Calls Tryz.prog 172 #[.slice A l.length c,.func (.func fn) #[] #[]] w fun e w'=>e=.returned (.bool (someB l p))∧Below w.heap.size w w':=by
 have HA:=Hd (hA _ (Below.refl _ _))
 clear hA
 by_cases h0:l.length=0
 · have e1:decide ((0:Int) < (l.length:Int))=false:=decide_eq_false (by omega)
   have hl0:(l.length:Int)=0:=by omega
   have HS:Hid (someB l p=false):=Hd (by unfold someB;rw [decide_eq_false (by omega)];rfl)
   rw [h0]
   go_enter Tryz.func172,Tryz.ntmps172
   go_wp2_with fail
   go_ret
   exact ⟨by rw [HS.out];rfl,Below.refl _ _⟩
 · have e1:decide ((0:Int) < (l.length:Int))=true:=decide_eq_true (by omega)
   have hl0:(0:Int) < (l.length:Int):=by omega
   have hl1:0 < l.length:=by omega
   have HS:Hid (someB l p=l.all p):=Hd (by unfold someB;rw [decide_eq_true hl1];rfl)
   go_enter Tryz.func172,Tryz.ntmps172
   go_wp2_with fail
   refine HA.out.mono ?_
   rintro e w2 ⟨rfl,hb⟩
   have HB:=Hd hb
   clear hb
   go_wp2_with fail
   go_ret
   exact ⟨by rw [HS.out];rfl,HB.out⟩
theorem somePar_any (fn:Nat) (l:List VarT) (A:Option Addr) (c:Nat) (p:VarT→Bool) (w:World) (hl:l.length≤9223372036854775807) (hA:∀ wx,Below w.heap.size w wx→Calls Tryz.prog 193 #[.slice A l.length c,.func (.func fn) #[] #[]] wx fun e w'=>e=.returned (.bool (l.all p))∧Below wx.heap.size wx w') :
   Calls Tryz.prog 174 #[.slice A l.length c,.func (.func fn) #[] #[]] w fun e w'=>e=.returned (.bool (someB l p))∧Below w.heap.size w w':=by
 have HA:=Hd (hA _ (Below.refl _ _))
 clear hA
 by_cases h0:l.length=0
 · have e1:decide ((0:Int) < (l.length:Int))=false:=decide_eq_false (by omega)
   have hl0:(l.length:Int)=0:=by omega
   have HS:Hid (someB l p=false):=Hd (by unfold someB;rw [decide_eq_false (by omega)];rfl)
   rw [h0]
   go_enter Tryz.func174,Tryz.ntmps174
   go_wp2_with fail
   go_ret
   exact ⟨by rw [HS.out];rfl,Below.refl _ _⟩
 · have e1:decide ((0:Int) < (l.length:Int))=true:=decide_eq_true (by omega)
   have hl0:(0:Int) < (l.length:Int):=by omega
   have hl1:0 < l.length:=by omega
   have HS:Hid (someB l p=l.all p):=Hd (by unfold someB;rw [decide_eq_true hl1];rfl)
   go_enter Tryz.func174,Tryz.ntmps174
   go_wp2_with fail
   refine HA.out.mono ?_
   rintro e w2 ⟨rfl,hb⟩
   have HB:=Hd hb
   clear hb
   go_wp2_with fail
   go_ret
   exact ⟨by rw [HS.out];rfl,HB.out⟩
theorem defB_12 {d:DefnT} (h:d.kind=1∨d.kind=2):defB d=(nmB d.name && (d.faces.all nmB && (someB d.fields fldB && (noB d.parts && (noB d.params))))):=by
 unfold defB
 rcases h with h|h<;>rw [h]<;>rfl
theorem defB_3 {d:DefnT} (h:d.kind=3):defB d=(nmB d.name && (someB d.parts nmB && (noB d.faces && (noB d.fields && (noB d.params))))):=by
 unfold defB
 rw [h];rfl
theorem defB_4 {d:DefnT} (h:d.kind=4):defB d=(nmB d.name && (someB d.parts enB && (noB d.faces && (noB d.fields && (noB d.params))))):=by
 unfold defB
 rw [h];rfl
theorem defB_5 {d:DefnT} (h:d.kind=5):defB d=(nmB d.name && (someB d.params prmB && (noB d.faces && (noB d.fields && (noB d.parts))))):=by
 unfold defB
 rw [h];rfl
theorem defB_no {d:DefnT} (h1:(d.kind == 1)=false) (h2:(d.kind == 2)=false) (h3:(d.kind == 3)=false) (h4:(d.kind == 4)=false) (h5:(d.kind == 5)=false):defB d=false:=by
 unfold defB
 rw [h1,h2,h3,h4,h5]
 simp
theorem defB_nm {d:DefnT} (h:nmB d.name=false):defB d=false:=by
 unfold defB
 rw [h]
 rfl
theorem def_right (d:DefnT) (hz:ModD d) (hpz:∀ s,s ∈ d.parts→s.size≤1000000) (cs:List Value) (w:World) (B:Nat) (hB:B≤w.heap.size) (hT:TS w (fun b=>b < B) (encDefn d) cs) (hw:Laid5 w) :
   Calls Tryz.prog 149 #[.agg cs.toArray] w fun e w'=>e=.returned (.bool (defB d))∧Below w.heap.size w w':=by
 obtain ⟨Af,kf,Ax,kx,Ap,kp,Am,km,rfl,hn,⟨hfl,hf⟩,⟨hxl,hx⟩,⟨hpl,hp⟩,⟨hml,hm⟩⟩:=defn_cells hT
 have NA:=Hd (fun (wx:World) (_:Below w.heap.size w wx)=>name_low d.name wx hn)
 have EN:=Go.Proofs.enters_of Tryz.func17 (by kernel_rfl) rfl
 have AF:=Hd (fun (wx:World) (h:Below w.heap.size w wx)=>allStr_any 17 d.faces Af kf nmB wx B (Nat.le_trans hB h.size) hfl (RowT.below (h.mono hB) hf) EN (fun y _ hy W _=>name_low y W hy))
 have SP:=Hd (fun (wx:World) (h:Below w.heap.size w wx)=>someStr_any 17 d.parts Ap kp nmB wx hpl (fun wy hb=>allStr_any 17 d.parts Ap kp nmB wy B (Nat.le_trans (Nat.le_trans hB h.size) hb.size) hpl (RowT.below ((h.trans (hb.mono h.size)).mono hB) hp) EN (fun y _ hy W _=>name_low y W hy)))
 have SE:=Hd (fun (wx:World) (h:Below w.heap.size w wx)=>someStr_any 173 d.parts Ap kp enB wx hpl (fun wy hb=>allStr_any 173 d.parts Ap kp enB wy B (Nat.le_trans (Nat.le_trans hB h.size) hb.size) hpl (RowT.below ((h.trans (hb.mono h.size)).mono hB) hp) (Go.Proofs.enters_of Tryz.func173 (by kernel_rfl) rfl) (fun y hy _ W hw2=>enum_right y W (hpz y hy) (((hw.below h).below hb).below hw2))))
 have SF:=Hd (fun (wx:World) (h:Below w.heap.size w wx)=>someFld_any 171 d.fields Ax kx fldB wx hxl (fun wy hb=>allFld_any 171 d.fields Ax kx fldB wy B (Nat.le_trans (Nat.le_trans hB h.size) hb.size) hxl (RowT.below ((h.trans (hb.mono h.size)).mono hB) hx) (Go.Proofs.enters_of Tryz.func171 (by kernel_rfl) rfl) (fun y hy cs W hw2 hT'=>field_right y (hz.2 y hy) cs W B (Nat.le_trans (Nat.le_trans (Nat.le_trans hB h.size) hb.size) hw2.size) hT' (((hw.below h).below hb).below hw2))))
 have SM:=Hd (fun (wx:World) (h:Below w.heap.size w wx)=>somePar_any 175 d.params Am km prmB wx hml (fun wy hb=>allPar_any 175 d.params Am km prmB wy B (Nat.le_trans (Nat.le_trans hB h.size) hb.size) hml (RowT.below ((h.trans (hb.mono h.size)).mono hB) hm) (Go.Proofs.enters_of Tryz.func175 (by kernel_rfl) rfl) (fun y hy cs W hw2 hT'=>param_right y (hz.1 y hy) cs W B (Nat.le_trans (Nat.le_trans (Nat.le_trans hB h.size) hb.size) hw2.size) hT' (((hw.below h).below hb).below hw2))))
 have B1:=Hd (dbelow_new w (.cells #[.int .i64 d.kind,.string d.name,.slice Af d.faces.length kf,.slice Ax d.fields.length kx,.slice Ap d.parts.length kp,.slice Am d.params.length km] 37))
 have Y1:=Hd (heap_alloc_new w (.cells #[.int .i64 d.kind,.string d.name,.slice Af d.faces.length kf,.slice Ax d.fields.length kx,.slice Ap d.parts.length kp,.slice Am d.params.length km] 37))
 clear hB hT hw hz hpz hf hx hp hm EN
 go_enter Tryz.func149,Tryz.ntmps149
 go_upto_region 1 with fail
 generalize w.alloc (.cells #[.int .i64 d.kind,.string d.name,.slice Af d.faces.length kf,.slice Ax d.fields.length kx,.slice Ap d.parts.length kp,.slice Am d.params.length km] 37)=w1 at B1 Y1 ⊢
 obtain ⟨⟨y0,y1,y2,y3,y4,y5⟩,_⟩:=six_cells Y1.out
 obtain ⟨nb,hnm⟩:∃ b,nmB d.name=b:=⟨_,rfl⟩
 have hnm':nameB d.name.data.toList=nb:=hnm
 rw [hnm'] at NA
 go_wp2_with fail
 refine (NA.out _ B1.out).mono ?_
 rintro e w2 ⟨rfl,hb⟩
 have B2:=Hd (B1.out.trans (hb.mono B1.out.size))
 have Y2:=Hd ((hb.block _ (Array.getElem?_eq_some_iff.1 Y1.out).1).trans Y1.out)
 clear hb y0 y1 y2 y3 y4 y5 Y1
 obtain ⟨⟨y0,y1,y2,y3,y4,y5⟩,_⟩:=six_cells Y2.out
 cases nb with
 | false =>
   have HK:=Hd (defB_nm hnm)
   go_wp2_with fail
   go_ret
   exact ⟨by rw [HK.out];rfl,B2.out⟩
 | true =>
 cases e1:(d.kind == 1) with
 | true =>
   have HK:=Hd (defB_12 (Or.inl (eq_of_beq e1)))
   rw [hnm] at HK
   obtain ⟨q2,hq2⟩:∃ b,d.faces.all nmB=b:=⟨_,rfl⟩
   rw [hq2] at AF HK
   clear hq2
   go_wp2_with fail
   refine (AF.out _ B2.out).mono ?_
   rintro e w3 ⟨rfl,hb⟩
   have B3:=Hd (B2.out.trans (hb.mono B2.out.size))
   have Y3:=Hd ((hb.block _ (Array.getElem?_eq_some_iff.1 Y2.out).1).trans Y2.out)
   clear hb y0 y1 y2 y3 y4 y5 Y2
   obtain ⟨⟨y0,y1,y2,y3,y4,y5⟩,_⟩:=six_cells Y3.out
   cases q2 with
   | false =>
     go_wp2_with fail
     go_ret
     exact ⟨by rw [HK.out];rfl,B3.out⟩
   | true =>
     obtain ⟨q3,hq3⟩:∃ b,someB d.fields fldB=b:=⟨_,rfl⟩
     rw [hq3] at SF HK
     clear hq3
     go_wp2_with fail
     refine (SF.out _ B3.out).mono ?_
     rintro e w4 ⟨rfl,hb⟩
     have B4:=Hd (B3.out.trans (hb.mono B3.out.size))
     have Y4:=Hd ((hb.block _ (Array.getElem?_eq_some_iff.1 Y3.out).1).trans Y3.out)
     clear hb y0 y1 y2 y3 y4 y5 Y3
     obtain ⟨⟨y0,y1,y2,y3,y4,y5⟩,_⟩:=six_cells Y4.out
     cases q3 with
     | false =>
       go_wp2_with fail
       go_ret
       exact ⟨by rw [HK.out];rfl,B4.out⟩
     | true =>
       cases hl2:((d.parts.length:Int) == 0) with
       | false =>
         have HK:Hid (_=_):=Hd (HK.out.trans (by rw [show noB d.parts=false from hl2]))
         go_wp2_with fail
         go_ret
         exact ⟨by rw [HK.out];rfl,B4.out⟩
       | true =>
         have HK:Hid (_=_):=Hd (HK.out.trans (by rw [show noB d.parts=true from hl2]))
         go_wp2_with fail
         go_ret
         exact ⟨by rw [HK.out];rfl,B4.out⟩
 | false =>
 cases e2:(d.kind == 2) with
 | true =>
   have HK:=Hd (defB_12 (Or.inr (eq_of_beq e2)))
   rw [hnm] at HK
   obtain ⟨q2,hq2⟩:∃ b,d.faces.all nmB=b:=⟨_,rfl⟩
   rw [hq2] at AF HK
   clear hq2
   go_wp2_with fail
   refine (AF.out _ B2.out).mono ?_
   rintro e w3 ⟨rfl,hb⟩
   have B3:=Hd (B2.out.trans (hb.mono B2.out.size))
   have Y3:=Hd ((hb.block _ (Array.getElem?_eq_some_iff.1 Y2.out).1).trans Y2.out)
   clear hb y0 y1 y2 y3 y4 y5 Y2
   obtain ⟨⟨y0,y1,y2,y3,y4,y5⟩,_⟩:=six_cells Y3.out
   cases q2 with
   | false =>
     go_wp2_with fail
     go_ret
     exact ⟨by rw [HK.out];rfl,B3.out⟩
   | true =>
     obtain ⟨q3,hq3⟩:∃ b,someB d.fields fldB=b:=⟨_,rfl⟩
     rw [hq3] at SF HK
     clear hq3
     go_wp2_with fail
     refine (SF.out _ B3.out).mono ?_
     rintro e w4 ⟨rfl,hb⟩
     have B4:=Hd (B3.out.trans (hb.mono B3.out.size))
     have Y4:=Hd ((hb.block _ (Array.getElem?_eq_some_iff.1 Y3.out).1).trans Y3.out)
     clear hb y0 y1 y2 y3 y4 y5 Y3
     obtain ⟨⟨y0,y1,y2,y3,y4,y5⟩,_⟩:=six_cells Y4.out
     cases q3 with
     | false =>
       go_wp2_with fail
       go_ret
       exact ⟨by rw [HK.out];rfl,B4.out⟩
     | true =>
       cases hl2:((d.parts.length:Int) == 0) with
       | false =>
         have HK:Hid (_=_):=Hd (HK.out.trans (by rw [show noB d.parts=false from hl2]))
         go_wp2_with fail
         go_ret
         exact ⟨by rw [HK.out];rfl,B4.out⟩
       | true =>
         have HK:Hid (_=_):=Hd (HK.out.trans (by rw [show noB d.parts=true from hl2]))
         go_wp2_with fail
         go_ret
         exact ⟨by rw [HK.out];rfl,B4.out⟩
 | false =>
 cases e3:(d.kind == 3) with
 | true =>
   have HK:=Hd (defB_3 (eq_of_beq e3))
   rw [hnm] at HK
   obtain ⟨q2,hq2⟩:∃ b,someB d.parts nmB=b:=⟨_,rfl⟩
   rw [hq2] at SP HK
   clear hq2
   go_wp2_with fail
   refine (SP.out _ B2.out).mono ?_
   rintro e w3 ⟨rfl,hb⟩
   have B3:=Hd (B2.out.trans (hb.mono B2.out.size))
   have Y3:=Hd ((hb.block _ (Array.getElem?_eq_some_iff.1 Y2.out).1).trans Y2.out)
   clear hb y0 y1 y2 y3 y4 y5 Y2
   obtain ⟨⟨y0,y1,y2,y3,y4,y5⟩,_⟩:=six_cells Y3.out
   cases q2 with
   | false =>
     go_wp2_with fail
     go_ret
     exact ⟨by rw [HK.out];rfl,B3.out⟩
   | true =>
     cases hl3:((d.faces.length:Int) == 0) with
     | false =>
       have HK:Hid (_=_):=Hd (HK.out.trans (by rw [show noB d.faces=false from hl3]))
       go_wp2_with fail
       go_ret
       exact ⟨by rw [HK.out];rfl,B3.out⟩
     | true =>
       have HK:Hid (_=_):=Hd (HK.out.trans (by rw [show noB d.faces=true from hl3]))
       cases hl2:((d.fields.length:Int) == 0) with
       | false =>
         have HK:Hid (_=_):=Hd (HK.out.trans (by rw [show noB d.fields=false from hl2]))
         go_wp2_with fail
         go_ret
         exact ⟨by rw [HK.out];rfl,B3.out⟩
       | true =>
         have HK:Hid (_=_):=Hd (HK.out.trans (by rw [show noB d.fields=true from hl2]))
         go_wp2_with fail
         go_ret
         exact ⟨by rw [HK.out];rfl,B3.out⟩
 | false =>
 cases e4:(d.kind == 4) with
 | true =>
   have HK:=Hd (defB_4 (eq_of_beq e4))
   rw [hnm] at HK
   obtain ⟨q2,hq2⟩:∃ b,someB d.parts enB=b:=⟨_,rfl⟩
   rw [hq2] at SE HK
   clear hq2
   go_wp2_with fail
   refine (SE.out _ B2.out).mono ?_
   rintro e w3 ⟨rfl,hb⟩
   have B3:=Hd (B2.out.trans (hb.mono B2.out.size))
   have Y3:=Hd ((hb.block _ (Array.getElem?_eq_some_iff.1 Y2.out).1).trans Y2.out)
   clear hb y0 y1 y2 y3 y4 y5 Y2
   obtain ⟨⟨y0,y1,y2,y3,y4,y5⟩,_⟩:=six_cells Y3.out
   cases q2 with
   | false =>
     go_wp2_with fail
     go_ret
     exact ⟨by rw [HK.out];rfl,B3.out⟩
   | true =>
     cases hl3:((d.faces.length:Int) == 0) with
     | false =>
       have HK:Hid (_=_):=Hd (HK.out.trans (by rw [show noB d.faces=false from hl3]))
       go_wp2_with fail
       go_ret
       exact ⟨by rw [HK.out];rfl,B3.out⟩
     | true =>
       have HK:Hid (_=_):=Hd (HK.out.trans (by rw [show noB d.faces=true from hl3]))
       cases hl2:((d.fields.length:Int) == 0) with
       | false =>
         have HK:Hid (_=_):=Hd (HK.out.trans (by rw [show noB d.fields=false from hl2]))
         go_wp2_with fail
         go_ret
         exact ⟨by rw [HK.out];rfl,B3.out⟩
       | true =>
         have HK:Hid (_=_):=Hd (HK.out.trans (by rw [show noB d.fields=true from hl2]))
         go_wp2_with fail
         go_ret
         exact ⟨by rw [HK.out];rfl,B3.out⟩
 | false =>
 cases e5:(d.kind == 5) with
 | true =>
   have HK:=Hd (defB_5 (eq_of_beq e5))
   rw [hnm] at HK
   obtain ⟨q2,hq2⟩:∃ b,someB d.params prmB=b:=⟨_,rfl⟩
   rw [hq2] at SM HK
   clear hq2
   go_wp2_with fail
   refine (SM.out _ B2.out).mono ?_
   rintro e w3 ⟨rfl,hb⟩
   have B3:=Hd (B2.out.trans (hb.mono B2.out.size))
   have Y3:=Hd ((hb.block _ (Array.getElem?_eq_some_iff.1 Y2.out).1).trans Y2.out)
   clear hb y0 y1 y2 y3 y4 y5 Y2
   obtain ⟨⟨y0,y1,y2,y3,y4,y5⟩,_⟩:=six_cells Y3.out
   cases q2 with
   | false =>
     go_wp2_with fail
     go_ret
     exact ⟨by rw [HK.out];rfl,B3.out⟩
   | true =>
     cases hl3:((d.faces.length:Int) == 0) with
     | false =>
       have HK:Hid (_=_):=Hd (HK.out.trans (by rw [show noB d.faces=false from hl3]))
       go_wp2_with fail
       go_ret
       exact ⟨by rw [HK.out];rfl,B3.out⟩
     | true =>
       have HK:Hid (_=_):=Hd (HK.out.trans (by rw [show noB d.faces=true from hl3]))
       cases hl2:((d.fields.length:Int) == 0) with
       | false =>
         have HK:Hid (_=_):=Hd (HK.out.trans (by rw [show noB d.fields=false from hl2]))
         go_wp2_with fail
         go_ret
         exact ⟨by rw [HK.out];rfl,B3.out⟩
       | true =>
         have HK:Hid (_=_):=Hd (HK.out.trans (by rw [show noB d.fields=true from hl2]))
         go_wp2_with fail
         go_ret
         exact ⟨by rw [HK.out];rfl,B3.out⟩
 | false =>
   have HK:=Hd (defB_no e1 e2 e3 e4 e5)
   go_wp2_with fail
   go_ret
   exact ⟨by rw [HK.out];rfl,B2.out⟩
def nonB (s:ByteArray):Bool:=(s.toList == []) || nmB s
theorem none_right (s:ByteArray) (w:World) (hs:s.size≤9223372036854775807):Calls Tryz.prog 147 #[.string s] w fun e w'=>e=.returned (.bool (nonB s))∧Below w.heap.size w w':=by
 have NA:=Hd (name_low s w hs)
 have HE:Hid (nonB s=((s.toList == []) || nameB s.data.toList)):=Hd rfl
 obtain ⟨b0,hb0⟩:∃ b,(s.toList == [])=b:=⟨_,rfl⟩
 have hem:s.toList.isEmpty=b0:=by rw [← hb0];cases s.toList<;>rfl
 rw [hb0] at HE
 generalize nameB s.data.toList=nb at NA HE
 cases b0 with
 | true =>
   go_enter Tryz.func147,Tryz.ntmps147
   go_wp2_with fail
   go_ret
   exact ⟨by rw [HE.out];rfl,Below.refl _ _⟩
 | false =>
   go_enter Tryz.func147,Tryz.ntmps147
   go_wp2_with fail
   refine NA.out.mono ?_
   rintro e w2 ⟨rfl,hb⟩
   have HB:=Hd hb
   clear hb
   go_wp2_with fail
   go_ret
   exact ⟨by rw [HE.out];rfl,HB.out⟩
theorem sch_sizes {w:World} {P:Nat→Prop} {S:SchT} {cs:List Value} (h:TS w P (encSch S) cs):S.query.size≤9223372036854775807∧S.mutation.size≤9223372036854775807:=by
 simp only [encSch,TS,TP] at h
 obtain ⟨_,_,rfl,_,_,_,rfl,⟨rfl,hq⟩,_,_,rfl,⟨rfl,hm⟩,_⟩:=h
 exact ⟨hq,hm⟩
noncomputable def schB (S:SchT):Bool:=nmB S.query && (nonB S.mutation && S.defs.all defB)
def PartS (S:SchT):Prop:=∀ d,d ∈ S.defs→∀ s,s ∈ d.parts→s.size≤1000000
theorem sdl_right (S:SchT) (hz:ModS S) (hpz:PartS S) (c0 c1 c2:Value) (w:World) (B:Nat) (hB:B≤w.heap.size) (hS:TS w (fun b=>b < B) (encSch S) [c0,c1,c2]) (hw:Laid5 w) :
   Calls Tryz.prog 96 #[.agg #[c0,c1,c2]] w fun e w'=>e=.returned (.bool (schB S))∧Below w.heap.size w w':=by
 obtain ⟨hq,hm⟩:=sch_sizes hS
 obtain ⟨A,k,e,hl,hR⟩:=sch_cells hS
 injection e with e0 e
 injection e with e1 e
 injection e with e2 e
 subst e0 e1 e2
 have NA:=Hd (fun (wx:World)=>name_low S.query wx hq)
 have NN:=Hd (fun (wx:World)=>none_right S.mutation wx hm)
 have AD:=Hd (fun (wx:World) (h:Below w.heap.size w wx)=>allDef_any 149 S.defs A k defB wx B (Nat.le_trans hB h.size) hl (RowT.below (h.mono hB) hR) (Go.Proofs.enters_of Tryz.func149 (by kernel_rfl) rfl) (fun y hy cs W hb hT'=>def_right y (hz y hy) (hpz y hy) cs W B (Nat.le_trans (Nat.le_trans hB h.size) hb.size) hT' ((hw.below h).below hb)))
 have HE:Hid (schB S=(nmB S.query && (nonB S.mutation && S.defs.all defB))):=Hd rfl
 have B1:=Hd (dbelow_new w (.cells #[.slice A S.defs.length k,.string S.query,.string S.mutation] 24))
 have Y1:=Hd (heap_alloc_new w (.cells #[.slice A S.defs.length k,.string S.query,.string S.mutation] 24))
 clear hB hS hw hz hpz hR
 obtain ⟨nb,hnb⟩:∃ b,nmB S.query=b:=⟨_,rfl⟩
 have hnb':nameB S.query.data.toList=nb:=hnb
 rw [hnb'] at NA
 rw [hnb] at HE
 generalize nonB S.mutation=mb at NN HE
 generalize S.defs.all defB=db at AD HE
 clear hnb hnb'
 go_enter Tryz.func96,Tryz.ntmps96
 go_upto_region 1 with fail
 generalize w.alloc (.cells #[.slice A S.defs.length k,.string S.query,.string S.mutation] 24)=w1 at B1 Y1 ⊢
 obtain ⟨y0,y1,y2⟩:=three_cells Y1.out
 go_wp2_with fail
 refine (NA.out _).mono ?_
 rintro e w2 ⟨rfl,hb⟩
 have B2:=Hd (B1.out.trans (hb.mono B1.out.size))
 have Y2:=Hd ((hb.block _ (Array.getElem?_eq_some_iff.1 Y1.out).1).trans Y1.out)
 clear hb y0 y1 y2 Y1
 cases nb with
 | false =>
   go_wp2_with fail
   go_ret
   exact ⟨by rw [HE.out];rfl,B2.out⟩
 | true =>
   obtain ⟨y0,y1,y2⟩:=three_cells Y2.out
   go_wp2_with fail
   refine (NN.out _).mono ?_
   rintro e w3 ⟨rfl,hb⟩
   have B3:=Hd (B2.out.trans (hb.mono B2.out.size))
   have Y3:=Hd ((hb.block _ (Array.getElem?_eq_some_iff.1 Y2.out).1).trans Y2.out)
   clear hb y0 y1 y2 Y2
   cases mb with
   | false =>
     go_wp2_with fail
     go_ret
     exact ⟨by rw [HE.out];rfl,B3.out⟩
   | true =>
     obtain ⟨y0,y1,y2⟩:=three_cells Y3.out
     go_wp2_with fail
     refine (AD.out _ B3.out).mono ?_
     rintro e w4 ⟨rfl,hb⟩
     have B4:=Hd (B3.out.trans (hb.mono B3.out.size))
     clear hb y0 y1 y2 Y3
     go_wp2_with fail
     go_ret
     exact ⟨by rw [HE.out];rfl,B4.out⟩
def isaB (D:List DefnT) (n:ByteArray) (kd:Int):Bool:=(findD D n).2 && ((findD D n).1.kind == kd)
theorem isa_any (S:SchT) (n:ByteArray) (kd:Int) (c0 c1 c2:Value) (w:World) (B:Nat) (hB:B≤w.heap.size) (hn:n.size≤9223372036854775807) (hz:SlimS S) (hS:TS w (fun b=>b < B) (encSch S) [c0,c1,c2]) :
   Calls Tryz.prog 99 #[.agg #[c0,c1,c2],.string n,.int .i64 kd] w fun e w'=>e=.returned (.bool (isaB S.defs n kd))∧Below w.heap.size w w':=by
 have FI:=Hd (fun (wx:World) (hb:Below w.heap.size w wx)=>Find_any S n c0 c1 c2 wx B (Nat.le_trans hB hb.size) hn hz (TS.low (hb.mono hB) hS))
 obtain ⟨A,k,e,hl,hR⟩:=sch_cells hS
 injection e with e0 e
 injection e with e1 e
 injection e with e2 e
 subst e0 e1 e2
 have HE:Hid (isaB S.defs n kd=((findD S.defs n).2 && ((findD S.defs n).1.kind == kd))):=Hd rfl
 generalize isaB S.defs n kd=r at HE ⊢
 generalize findD S.defs n=fd at FI HE
 have B1:=Hd (dbelow_new w (.cells #[.slice A S.defs.length k,.string S.query,.string S.mutation] 24))
 have Y1:=Hd (heap_alloc_new w (.cells #[.slice A S.defs.length k,.string S.query,.string S.mutation] 24))
 clear hB hS hR hz e
 obtain ⟨d,ok⟩:=fd
 dsimp only at HE
 go_enter Tryz.func99,Tryz.ntmps99
 go_upto_region 1 with fail
 generalize w.alloc (.cells #[.slice A S.defs.length k,.string S.query,.string S.mutation] 24)=w1 at B1 Y1 ⊢
 obtain ⟨y0,y1,y2⟩:=three_cells Y1.out
 go_wp2_with fail
 refine (FI.out _ B1.out).mono ?_
 rintro e w2 ⟨d0,d1,d2,d3,d4,d5,rfl,hT,hb⟩
 have B2:=Hd (B1.out.trans (hb.mono B1.out.size))
 obtain ⟨Af,kf,Ax,kx,Ap,kp,Am,km,e,_⟩:=defn_cells hT
 simp only [List.cons.injEq,and_true] at e
 obtain ⟨rfl,rfl,rfl,rfl,rfl,rfl⟩:=e
 clear hb hT FI y0 y1 y2 Y1
 go_upto_region 2 with fail
 have B3:=Hd (B2.out.trans ((dbelow_new w2 (.cells #[.int .i64 d.kind,.string d.name,.slice Af d.faces.length kf,.slice Ax d.fields.length kx,.slice Ap d.parts.length kp,.slice Am d.params.length km] 37)).mono B2.out.size))
 have Y3:=Hd (heap_alloc_new w2 (.cells #[.int .i64 d.kind,.string d.name,.slice Af d.faces.length kf,.slice Ax d.fields.length kx,.slice Ap d.parts.length kp,.slice Am d.params.length km] 37))
 generalize w2.alloc (.cells #[.int .i64 d.kind,.string d.name,.slice Af d.faces.length kf,.slice Ax d.fields.length kx,.slice Ap d.parts.length kp,.slice Am d.params.length km] 37)=w3 at B3 Y3 ⊢
 generalize w2.heap.size=g7 at Y3 ⊢
 obtain ⟨⟨y0,y1,y2,y3,y4,y5⟩,_⟩:=six_cells Y3.out
 cases ok with
 | false =>
   go_wp2_with fail
   go_ret
   exact ⟨by rw [HE.out];rfl,B3.out⟩
 | true =>
   go_wp2_with fail
   go_ret
   exact ⟨by rw [HE.out];rfl,B3.out⟩
theorem scalar_any (n:ByteArray) (w:World) (hn:n.size≤9223372036854775807):Calls Tryz.prog 95 #[.string n] w fun e w'=>e=.returned (.bool (leafD [] n))∧Below w.heap.size w w':=by
 have LF:=Hd (leaf_any ⟨[],⟨#[]⟩,⟨#[]⟩⟩ n (.slice none 0 0) (.string ⟨#[]⟩) (.string ⟨#[]⟩) w w.heap.size (Nat.le_refl _) hn (by
  unfold encSch
  simp only [TS,TP]
  exact ⟨_,_,rfl,⟨none,0,rfl,by simp [rowOf,TrL.len],by simp [rowOf,RowT]⟩,_,_,rfl,⟨rfl,Nat.zero_le _⟩,_,_,rfl,⟨rfl,Nat.zero_le _⟩,rfl⟩))
 go_enter Tryz.func95,Tryz.ntmps95
 go_wp2_with fail
 refine LF.out.mono ?_
 rintro e w2 ⟨rfl,hb⟩
 have HB:=Hd hb
 clear hb
 go_wp2_with fail
 go_ret
 exact ⟨rfl,HB.out⟩
open Go.Shelf Go.RowKit
def hpxRen:Go.Shelf.Ren:=⟨fun|99=>146|206=>168|n=>n,fun|3=>3|4=>4|5=>5|9=>9|n=>n,fun  | n=>n⟩
theorem hpxLays:Go.Proofs.Lays.n99 Tryz.prog hpxRen:={
 mixed:=by kernel_rfl
 f99:=Tryz.func146.trans (congrArg some (by kernel_rfl))
 f206:=Tryz.func168.trans (congrArg some (by kernel_rfl))
 t3:=Tryz.underlying3
 a3:=Tryz.isAgg3
 z3:=Tryz.sizeOf3
 v3:=Tryz.zeroValue3
 t4:=Tryz.underlying4
 a4:=Tryz.isAgg4
 z4:=Tryz.sizeOf4
 v4:=Tryz.zeroValue4
 t9:=Tryz.underlying9
 a9:=Tryz.isAgg9
 z9:=Tryz.sizeOf9
 v9:=Tryz.zeroValue9 }
theorem hasprefix_any (s p:ByteArray) (w:World):Calls Tryz.prog 146 #[.string s,.string p] w fun e w'=>e=.returned (.bool (Lib.hasPrefix s.data.toList p.data.toList))∧w'=w:=Any.strings_HasPrefix hpxLays s p w
def resB (s:ByteArray):Bool:=Lib.hasPrefix s.data.toList [95,95]
theorem reserved_any (n:ByteArray) (w:World):Calls Tryz.prog 94 #[.string n] w fun e w'=>e=.returned (.bool (resB n))∧Below w.heap.size w w':=by
 have HP:=Hd (hasprefix_any n ⟨#[95,95]⟩ w)
 have HE:Hid (resB n=Lib.hasPrefix n.data.toList [95,95]):=Hd rfl
 generalize resB n=r at HE ⊢
 go_enter Tryz.func94,Tryz.ntmps94
 go_wp2_with fail
 refine HP.out.mono ?_
 rintro e w2 ⟨rfl,rfl⟩
 go_wp2_with fail
 go_ret
 exact ⟨by rw [HE.out];rfl,Below.refl _ _⟩
def KeysD (D:DataW Unit) (out:List ByteArray):Prop:=Maps.Tidy D∧(∀ s:ByteArray,Maps.has D (.string s.data.toList)=hasN out s)∧Maps.size D=out.length
def R0 (_:Value):Option (DataW Unit × List MemPlace):=some (.lit (.bool true),[])
theorem KeysD.nil:KeysD (.map []) []:=⟨⟨[],rfl,List.Pairwise.nil⟩,fun _=>rfl,rfl⟩
theorem hasN_snoc (out:List ByteArray) (s t:ByteArray):hasN (out++[s]) t=(hasN out t || (s.data.toList == t.data.toList)):=by
 unfold hasN
 rw [List.any_append]
 simp
theorem KeysD.put {D:DataW Unit} {out:List ByteArray} (h:KeysD D out) (s:ByteArray):KeysD (D.put (.string s.data.toList) (.lit (.bool true))) (addN out s):=by
 obtain ⟨h1,h2,h3⟩:=h
 refine ⟨h1.put (by trivial) _,fun t=>?_,?_⟩
 · by_cases e:t.data.toList=s.data.toList
   · rw [e,Maps.has_put_same h1.isMap (by trivial)]
     have:t=s:=ByteArray.ext (Array.toList_inj.1 e)
     subst this
     unfold addN
     split
     · next hh=>exact hh.symm
     · rw [hasN_snoc];simp
   · rw [Maps.has_put_other (fun e'=>e (by injection e')),h2 t]
     unfold addN
     split
     · rfl
     · rw [hasN_snoc]
       have:(s.data.toList == t.data.toList)=false:=beq_eq_false_iff_ne.2 (fun e'=>e e'.symm)
       rw [this,Bool.or_false]
 · rw [Maps.size_put h1,h2 s,h3]
   unfold addN
   cases hasN out s<;>simp
theorem run_makeMapN {P:Program} {t k e:TypeId} (ht:P.underlying t=some (.map k e)) (n:Int) (w:World):(Instr.makeMap t (some (.int .i64 n))).run P w=.ok (.map (some w.heap.size)) (w.alloc (.map #[] 0)):=by
 unfold Instr.makeMap
 simp [run_underlying ht,asInt]
 rfl
theorem step_mapput {P:Program} {ops:Array Oper} {o:Oper} {w:World} {a:Act} {K:Act→World→Prop} {Q:Exit→Act→World→Prop} {E:Prop} (hgd:o.guard=none) (m x v:Operand) (t:TypeId) (hop:o.op=Op.mapUpdate t m x v)
  (k e:TypeId) (KD:Maps.Keyed P k) (ht:P.underlying t=some (.map k e)) (b n:Nat) (D:DataW Unit) (hm:a.eval m=.map (some b)) (hown:w.ownsMap P k R0 b n D) (hn:n < maxLen) (key val:Value) (kl:Lit) (hx:a.eval x=key) (hv:a.eval v=val) (hkey:keyOf P k key=some kl)
  (hK:∀ w',w'.ownsMap P k R0 b (n+1) (D.put kl (.lit (.bool true)))→w.grownBy w' (some b)→K (a.put o.dst undef) w'):if Region.wanted o (yielded ops a.tmps)=true then Oper.wp P o a w K Q else E:=by
 have hw:Region.wanted o (yielded ops a.tmps)=true:=by simp [Region.wanted,hgd]
 rw [if_pos hw]
 obtain ⟨w',hrun,r1,r2⟩:=hown.update KD ht hn (key:=key) (val:=val) hkey (d:=.lit (.bool true)) (ps:=[]) rfl
 unfold Oper.wp
 simp [execOp,hop,hm,hx,hv,hrun,Result.andThen]
 exact hK w' r1 r2
def QL (lo:Nat) (wz:World) (cs:List (Nat × Nat × Value)) (W:World):Prop:=(∀ p,p ∈ cs→W.cell? ⟨p.1,p.2.1,none⟩=some p.2.2)∧Below lo wz W
theorem qmdef_written {lo:Nat} {wz W:World} {a1 b1 a2 b2 a3 b3 a4 b4 a5 b5 a6 b6:Nat} {v1 v2 v3 v4 v5 v6:Value} (h:QL lo wz [(a1,b1,v1),(a2,b2,v2),(a3,b3,v3),(a4,b4,v4),(a5,b5,v5),(a6,b6,v6)] W) :
  W.cell? ⟨a1,b1,none⟩=some v1∧W.cell? ⟨a2,b2,none⟩=some v2∧W.cell? ⟨a3,b3,none⟩=some v3∧W.cell? ⟨a4,b4,none⟩=some v4∧W.cell? ⟨a5,b5,none⟩=some v5∧W.cell? ⟨a6,b6,none⟩=some v6∧QL lo wz [(a1,b1,v1),(a2,b2,v2),(a3,b3,v3),(a4,b4,v4),(a5,b5,v5),(a6,b6,v6)] W:=
 ⟨h.1 (a1,b1,v1) (by simp),h.1 (a2,b2,v2) (by simp),h.1 (a3,b3,v3) (by simp),h.1 (a4,b4,v4) (by simp),h.1 (a5,b5,v5) (by simp),h.1 (a6,b6,v6) (by simp),h⟩
theorem qmdef_last {lo:Nat} {wz W:World} {cs:List (Nat × Nat × Value)} {p1 p2 p3 p4 p5 p6:Prop} (h:p1∧p2∧p3∧p4∧p5∧p6∧QL lo wz cs W):QL lo wz cs W:=h.2.2.2.2.2.2
theorem QL.full {lo:Nat} {wz W W':World} {cs:List (Nat × Nat × Value)} (h:QL lo wz cs W) (hl:∀ p,p ∈ cs→p.1 < wz.heap.size) (hlo:lo≤wz.heap.size) (hb:Below W.heap.size W W'):QL lo wz cs W':=
 ⟨fun p hp=>(hb.cell (p:=⟨p.1,p.2.1,none⟩) (Nat.lt_of_lt_of_le (hl p hp) h.2.size)).trans (h.1 p hp),h.2.trans (hb.mono (Nat.le_trans hlo h.2.size))⟩
theorem QL.grown {lo:Nat} {wz W W':World} {cs:List (Nat × Nat × Value)} {k:Option Nat} (h:QL lo wz cs W) (hl:∀ p,p ∈ cs→p.1 < wz.heap.size) (hne:∀ g,k=some g→lo≤g∧∀ p,p ∈ cs→p.1 ≠ g) (hlo:lo≤wz.heap.size) (hg:W.grownBy W' k):QL lo wz cs W':=by
 refine ⟨fun p hp=>?_,h.2.trans (below_grown (B:=lo) (Below.refl lo _) hg (Nat.le_trans hlo h.2.size) (fun b hb=>(hne b hb).1))⟩
 refine (World.cell?_of_block (a:=⟨p.1,p.2.1,none⟩) (hg.block p.1 (Nat.lt_of_lt_of_le (hl p hp) h.2.size) (fun e=>?_))).trans (h.1 p hp)
 exact (hne p.1 e.symm).2 p hp rfl
theorem map_on {w w':World} {b n:Nat} {D:DataW Unit} (h:w.ownsMap Tryz.prog 9 R0 b n D) (hb:Below w.heap.size w w'):w'.ownsMap Tryz.prog 9 R0 b n D:=h.kept (row:=none) ⟨hb.os,hb.tape,hb.output,hb.size,fun k hk _=>hb.block k hk⟩ (by simp)
theorem qmfld_written {lo:Nat} {wz W:World} {a1 b1 a2 b2 a3 b3 a4 b4 a5 b5 a6 b6:Nat} {v1 v2 v3 v4 v5 v6:Value} (h:QL lo wz [(a1,b1,v1),(a2,b2,v2),(a3,b3,v3),(a4,b4,v4),(a5,b5,v5),(a6,b6,v6)] W) :
  W.cell? ⟨a1,b1,none⟩=some v1∧W.cell? ⟨a2,b2,none⟩=some v2∧W.cell? ⟨a3,b3,none⟩=some v3∧W.cell? ⟨a4,b4,none⟩=some v4∧W.cell? ⟨a5,b5,none⟩=some v5∧W.cell? ⟨a6,b6,none⟩=some v6∧QL lo wz [(a1,b1,v1),(a2,b2,v2),(a3,b3,v3),(a4,b4,v4),(a5,b5,v5),(a6,b6,v6)] W:=
 ⟨h.1 (a1,b1,v1) (by simp),h.1 (a2,b2,v2) (by simp),h.1 (a3,b3,v3) (by simp),h.1 (a4,b4,v4) (by simp),h.1 (a5,b5,v5) (by simp),h.1 (a6,b6,v6) (by simp),h⟩
theorem qmfld_last {lo:Nat} {wz W:World} {cs:List (Nat × Nat × Value)} {p1 p2 p3 p4 p5 p6:Prop} (h:p1∧p2∧p3∧p4∧p5∧p6∧QL lo wz cs W):QL lo wz cs W:=h.2.2.2.2.2.2
theorem qmpar_written {lo:Nat} {wz W:World} {a1 b1 a2 b2 a3 b3 a4 b4 a5 b5 a6 b6 a7 b7 a8 b8 a9 b9 a10 b10:Nat} {v1 v2 v3 v4 v5 v6 v7 v8 v9 v10:Value} (h:QL lo wz [(a1,b1,v1),(a2,b2,v2),(a3,b3,v3),(a4,b4,v4),(a5,b5,v5),(a6,b6,v6),(a7,b7,v7),(a8,b8,v8),(a9,b9,v9),(a10,b10,v10)] W) :
  W.cell? ⟨a1,b1,none⟩=some v1∧W.cell? ⟨a2,b2,none⟩=some v2∧W.cell? ⟨a3,b3,none⟩=some v3∧W.cell? ⟨a4,b4,none⟩=some v4∧W.cell? ⟨a5,b5,none⟩=some v5∧W.cell? ⟨a6,b6,none⟩=some v6∧W.cell? ⟨a7,b7,none⟩=some v7∧W.cell? ⟨a8,b8,none⟩=some v8∧W.cell? ⟨a9,b9,none⟩=some v9∧W.cell? ⟨a10,b10,none⟩=some v10∧QL lo wz [(a1,b1,v1),(a2,b2,v2),(a3,b3,v3),(a4,b4,v4),(a5,b5,v5),(a6,b6,v6),(a7,b7,v7),(a8,b8,v8),(a9,b9,v9),(a10,b10,v10)] W:=
 ⟨h.1 (a1,b1,v1) (by simp),h.1 (a2,b2,v2) (by simp),h.1 (a3,b3,v3) (by simp),h.1 (a4,b4,v4) (by simp),h.1 (a5,b5,v5) (by simp),h.1 (a6,b6,v6) (by simp),h.1 (a7,b7,v7) (by simp),h.1 (a8,b8,v8) (by simp),h.1 (a9,b9,v9) (by simp),h.1 (a10,b10,v10) (by simp),h⟩
theorem qmpar_last {lo:Nat} {wz W:World} {cs:List (Nat × Nat × Value)} {p1 p2 p3 p4 p5 p6 p7 p8 p9 p10:Prop} (h:p1∧p2∧p3∧p4∧p5∧p6∧p7∧p8∧p9∧p10∧QL lo wz cs W):QL lo wz cs W:=h.2.2.2.2.2.2.2.2.2.2
theorem bynameStr_any (fn:Nat) (nmf:ByteArray→ByteArray) (l:List ByteArray) (A:Option Addr) (c:Nat) (w:World) (B:Nat) (hB:B≤w.heap.size) (hl:l.length < maxLen) (hR:RowT w (fun b=>b < B) (rowOf encStr l) A)
  (he:∀ (args:Array Value) (w:World),(callFunc fn args).run Tryz.prog w=.ok (.enter fn args) w) (hf:∀ x,x ∈ l→∀ W:World,Below w.heap.size w W→Calls Tryz.prog fn #[.string x] W fun e W'=>e=.returned (.string (nmf x))∧Below W.heap.size W W') (hs:∀ x,x ∈ l→(nmf x).size≤maxLen) :
  Calls Tryz.prog 109 #[.slice A l.length c,.func (.func fn) #[] #[]] w fun e w'=>e=.returned (.map (some w.heap.size))∧(∃ D,w'.ownsMap Tryz.prog 9 R0 w.heap.size l.length D∧KeysD D (onceL (l.map nmf)))∧Below w.heap.size w w':=by
 have hmm:=fun (n:Int) (w:World)=>run_makeMapN (P:=Tryz.prog) Tryz.underlying117 n w
 have HR:=Hd hR
 have HF:=Hd hf
 have HB:=Hd hB
 have HS:=Hd hs
 have HZ:=Hd hl
 have hl':l.length≤9223372036854775807:=by unfold maxLen at hl;omega
 have B0:=Hd (dbelow_new w (.map #[] 0))
 have M0:=Hd (World.ownsMap_made w Tryz.prog 9 R0)
 clear hR hf hB hs hl
 go_enter Tryz.func109,Tryz.ntmps109
 go_wp2_with fail
 clear hmm
 go_loopg [13] l.length (fun g i wx=>∃ q:Nat,q+g=l.length∧i=.int .i64 q∧Aside ((∃ D:DataW Unit,wx.ownsMap Tryz.prog 9 R0 w.heap.size q D∧KeysD D (onceL ((l.map nmf).take q)))∧Below w.heap.size w wx))
 case atStart=>exact ⟨0,by omega,rfl,Blk.Aside.intro ⟨⟨_,M0.out,KeysD.nil⟩,B0.out⟩⟩
 case round =>
  obtain ⟨q,hq,rfl,HX⟩:=hrel
  obtain ⟨⟨D,hm,hD⟩,hb⟩:=HX.out
  have HM:=Hd hm
  have HD:=Hd hD
  have BX:=Hd hb
  clear HX hb hm hD
  cases gk with
  | zero =>
    obtain rfl:q=l.length:=by omega
    have HD':=HD.out
    rw [List.take_of_length_le (by simp)] at HD'
    have HD2:=Hd HD'
    clear HD' HD
    go_wp2_with fail
    go_ret
    exact ⟨rfl,⟨D,HM.out,HD2.out⟩,BX.out⟩
  | succ g =>
    have hqn:q < l.length:=by omega
    have hqn':(q:Int) < (l.length:Int):=by omega
    obtain ⟨x,hx⟩:∃ x,l[q]? = some x:=⟨_,List.getElem?_eq_getElem hqn⟩
    have hxn:(l.map nmf)[q]? = some (nmf x):=by rw [List.getElem?_map,hx];rfl
    have hkey:=WideMaps.keyOf_string_mk (P:=Tryz.prog) Tryz.underlying9 (s:=nmf x) (HS.out x (List.mem_of_getElem? hx))
    have HK:=Hd (once_take hxn)
    have HMAX:q < maxLen:=by have:=HZ.out;omega
    obtain ⟨b,o,cs,rfl,hb,hc,hT⟩:=rowOf_at 1 len_str HR.out hx
    have HBL:=Hd (Nat.lt_of_lt_of_le hb HB.out)
    have hT':=TS.low (BX.out.mono HB.out) hT
    obtain ⟨rfl,_⟩:=str_one hT
    have h0:w.cell? ⟨b,o+q,none⟩=some (.string x):=by have h:=hc 0 _ rfl;rw [Nat.mul_one] at h;exact h
    have g0:=(BX.out.cell (p:=⟨b,o+q,none⟩) HBL.out).trans h0
    clear h0
    have CF:=Hd (HF.out x (List.mem_of_getElem? hx) _ BX.out)
    generalize nmf x=nx at CF HK hkey
    clear hx hxn hb hT hT' hc
    go_wp2_with fail
    refine CF.out.mono ?_
    rintro e w3 ⟨rfl,hb3⟩
    have B3:=Hd (BX.out.trans (hb3.mono BX.out.size))
    have M3:=Hd (map_on HM.out hb3)
    clear hb3 g0 HM BX
    go_wp2_with (at_mapUpdate;refine wpList_mapUpdate_own _ rfl _ _ _ 117 rfl 9 _ (Maps.string_keyed Tryz.underlying9) Tryz.underlying117 R0 w.heap.size q D rfl M3.out HMAX _ _ _ rfl rfl hkey (.lit (.bool true)) [] rfl ?_;intro w1 hm1 hg1;have HM1:=Hd hm1;have HG1:=Hd hg1;clear hm1 hg1)
    have B1:=Hd (below_grown (B:=w.heap.size) B3.out HG1.out B3.out.size (fun b hb=>by injection hb with hb;omega))
    go_roundg g
    case measure=>omega
    case rel=>exact ⟨q+1,by omega,by go_num,Blk.Aside.intro ⟨⟨_,HM1.out,by rw [HK.out];exact HD.out.put nx⟩,B1.out⟩⟩
end Go.Proofs.YtaekdfcpbepepaaGreatDoor
