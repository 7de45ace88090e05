/- sdl's some, rightDef. (gen_right3.py wrote it.) -/
import Derived.Test.YtaekdfcpbepepaaGreatDoorQt26
set_option maxRecDepth 100000
set_option maxHeartbeats 16000000
namespace Go.Proofs.YtaekdfcpbepepaaGreatDoor
open Go.RowKit
def someB {α:Type} (l:List α) (p:α→Bool):Bool:=decide (0 < l.length) && l.all p
def nmB (s:ByteArray):Bool:=nameB s.data.toList
def enumV (s:ByteArray):VT:=.mk 5 0 s .nil .nil
def enB (s:ByteArray):Bool:=fitV goodB (enumV s)
def noB {α:Type} (l:List α):Bool:=(l.length:Int) == 0
noncomputable def defB (d:DefnT):Bool:=nmB d.name &&
 (if ((d.kind == 1) || (d.kind == 2))=true then d.faces.all nmB && (someB d.fields fldB && (noB d.parts && noB d.params)) else
  if (d.kind == 3)=true then someB d.parts nmB && (noB d.faces && (noB d.fields && noB d.params)) else
  if (d.kind == 4)=true then someB d.parts enB && (noB d.faces && (noB d.fields && noB d.params)) else
  if (d.kind == 5)=true then someB d.params prmB && (noB d.faces && (noB d.fields && noB d.parts)) else false)
theorem enum_right (s:ByteArray) (w:World) (hs:s.size≤1000000) (hw:Laid5 w):Calls Tryz.prog 173 #[.string s] w fun e w'=>e=.returned (.bool (enB s))∧Below w.heap.size w w':=by
 have hz:sizeV (enumV s)≤1100000:=by
  unfold enumV
  rw [sizeV,sizeL,sizeM]
  omega
 have GV:=Hd (vgood_any (enumV s) hz _ _ _ _ _ w w.heap.size (Nat.le_refl _) (ts_vat (leaf_tsS 5 0 s (by omega))) hw)
 have HE:Hid (enB s=fitV goodB (enumV s)):=Hd rfl
 clear hw hz
 generalize fitV goodB (enumV s)=b at GV HE
 go_enter Tryz.func173,Tryz.ntmps173
 go_wp2_with fail
 refine GV.out.mono ?_
 rintro e w2 ⟨rfl,hb⟩
 have HB:=Hd hb
 clear hb
 go_wp2_with fail
 go_ret
 exact ⟨by rw [HE.out];rfl,HB.out⟩
theorem someFld_any (fn:Nat) (l:List FieldT) (A:Option Addr) (c:Nat) (p:FieldT→Bool) (w:World) (hl:l.length≤9223372036854775807) (hA:∀ wx,Below w.heap.size w wx→Calls Tryz.prog 192 #[.slice A l.length c,.func (.func fn) #[] #[]] wx fun e w'=>e=.returned (.bool (l.all p))∧Below wx.heap.size wx w') :
   Calls Tryz.prog 170 #[.slice A l.length c,.func (.func fn) #[] #[]] w fun e w'=>e=.returned (.bool (someB l p))∧Below w.heap.size w w':=by
 have HA:=Hd (hA _ (Below.refl _ _))
 clear hA
 by_cases h0:l.length=0
 · have e1:decide ((0:Int) < (l.length:Int))=false:=decide_eq_false (by omega)
   have hl0:(l.length:Int)=0:=by omega
   have HS:Hid (someB l p=false):=Hd (by unfold someB;rw [decide_eq_false (by omega)];rfl)
   rw [h0]
   go_enter Tryz.func170,Tryz.ntmps170
   go_wp2_with fail
   go_ret
   exact ⟨by rw [HS.out];rfl,Below.refl _ _⟩
 · have e1:decide ((0:Int) < (l.length:Int))=true:=decide_eq_true (by omega)
   have hl0:(0:Int) < (l.length:Int):=by omega
   have hl1:0 < l.length:=by omega
   have HS:Hid (someB l p=l.all p):=Hd (by unfold someB;rw [decide_eq_true hl1];rfl)
   go_enter Tryz.func170,Tryz.ntmps170
   go_wp2_with fail
   refine HA.out.mono ?_
   rintro e w2 ⟨rfl,hb⟩
   have HB:=Hd hb
   clear hb
   go_wp2_with fail
   go_ret
   exact ⟨by rw [HS.out];rfl,HB.out⟩
theorem someStr_any (fn:Nat) (l:List ByteArray) (A:Option Addr) (c:Nat) (p:ByteArray→Bool) (w:World) (hl:l.length≤9223372036854775807) (hA:∀ wx,Below w.heap.size w wx→Calls Tryz.prog 169 #[.slice A l.length c,.func (.func fn) #[] #[]] wx fun e w'=>e=.returned (.bool (l.all p))∧Below wx.heap.size wx w') :
   Calls Tryz.prog 172 #[.slice A l.length c,.func (.func fn) #[] #[]] w fun e w'=>e=.returned (.bool (someB l p))∧Below w.heap.size w w':=by
 have HA:=Hd (hA _ (Below.refl _ _))
 clear hA
 by_cases h0:l.length=0
 · have e1:decide ((0:Int) < (l.length:Int))=false:=decide_eq_false (by omega)
   have hl0:(l.length:Int)=0:=by omega
   have HS:Hid (someB l p=false):=Hd (by unfold someB;rw [decide_eq_false (by omega)];rfl)
   rw [h0]
   go_enter Tryz.func172,Tryz.ntmps172
   go_wp2_with fail
   go_ret
   exact ⟨by rw [HS.out];rfl,Below.refl _ _⟩
 · have e1:decide ((0:Int) < (l.length:Int))=true:=decide_eq_true (by omega)
   have hl0:(0:Int) < (l.length:Int):=by omega
   have hl1:0 < l.length:=by omega
   have HS:Hid (someB l p=l.all p):=Hd (by unfold someB;rw [decide_eq_true hl1];rfl)
   go_enter Tryz.func172,Tryz.ntmps172
   go_wp2_with fail
   refine HA.out.mono ?_
   rintro e w2 ⟨rfl,hb⟩
   have HB:=Hd hb
   clear hb
   go_wp2_with fail
   go_ret
   exact ⟨by rw [HS.out];rfl,HB.out⟩
theorem somePar_any (fn:Nat) (l:List VarT) (A:Option Addr) (c:Nat) (p:VarT→Bool) (w:World) (hl:l.length≤9223372036854775807) (hA:∀ wx,Below w.heap.size w wx→Calls Tryz.prog 193 #[.slice A l.length c,.func (.func fn) #[] #[]] wx fun e w'=>e=.returned (.bool (l.all p))∧Below wx.heap.size wx w') :
   Calls Tryz.prog 174 #[.slice A l.length c,.func (.func fn) #[] #[]] w fun e w'=>e=.returned (.bool (someB l p))∧Below w.heap.size w w':=by
 have HA:=Hd (hA _ (Below.refl _ _))
 clear hA
 by_cases h0:l.length=0
 · have e1:decide ((0:Int) < (l.length:Int))=false:=decide_eq_false (by omega)
   have hl0:(l.length:Int)=0:=by omega
   have HS:Hid (someB l p=false):=Hd (by unfold someB;rw [decide_eq_false (by omega)];rfl)
   rw [h0]
   go_enter Tryz.func174,Tryz.ntmps174
   go_wp2_with fail
   go_ret
   exact ⟨by rw [HS.out];rfl,Below.refl _ _⟩
 · have e1:decide ((0:Int) < (l.length:Int))=true:=decide_eq_true (by omega)
   have hl0:(0:Int) < (l.length:Int):=by omega
   have hl1:0 < l.length:=by omega
   have HS:Hid (someB l p=l.all p):=Hd (by unfold someB;rw [decide_eq_true hl1];rfl)
   go_enter Tryz.func174,Tryz.ntmps174
   go_wp2_with fail
   refine HA.out.mono ?_
   rintro e w2 ⟨rfl,hb⟩
   have HB:=Hd hb
   clear hb
   go_wp2_with fail
   go_ret
   exact ⟨by rw [HS.out];rfl,HB.out⟩
theorem defB_12 {d:DefnT} (h:d.kind=1∨d.kind=2):defB d=(nmB d.name && (d.faces.all nmB && (someB d.fields fldB && (noB d.parts && (noB d.params))))):=by
 unfold defB
 rcases h with h|h<;>rw [h]<;>rfl
theorem defB_3 {d:DefnT} (h:d.kind=3):defB d=(nmB d.name && (someB d.parts nmB && (noB d.faces && (noB d.fields && (noB d.params))))):=by
 unfold defB
 rw [h];rfl
theorem defB_4 {d:DefnT} (h:d.kind=4):defB d=(nmB d.name && (someB d.parts enB && (noB d.faces && (noB d.fields && (noB d.params))))):=by
 unfold defB
 rw [h];rfl
theorem defB_5 {d:DefnT} (h:d.kind=5):defB d=(nmB d.name && (someB d.params prmB && (noB d.faces && (noB d.fields && (noB d.parts))))):=by
 unfold defB
 rw [h];rfl
theorem defB_no {d:DefnT} (h1:(d.kind == 1)=false) (h2:(d.kind == 2)=false) (h3:(d.kind == 3)=false) (h4:(d.kind == 4)=false) (h5:(d.kind == 5)=false):defB d=false:=by
 unfold defB
 rw [h1,h2,h3,h4,h5]
 simp
theorem defB_nm {d:DefnT} (h:nmB d.name=false):defB d=false:=by
 unfold defB
 rw [h]
 rfl
theorem def_right (d:DefnT) (hz:ModD d) (hpz:∀ s,s ∈ d.parts→s.size≤1000000) (cs:List Value) (w:World) (B:Nat) (hB:B≤w.heap.size) (hT:TS w (fun b=>b < B) (encDefn d) cs) (hw:Laid5 w) :
   Calls Tryz.prog 149 #[.agg cs.toArray] w fun e w'=>e=.returned (.bool (defB d))∧Below w.heap.size w w':=by
 obtain ⟨Af,kf,Ax,kx,Ap,kp,Am,km,rfl,hn,⟨hfl,hf⟩,⟨hxl,hx⟩,⟨hpl,hp⟩,⟨hml,hm⟩⟩:=defn_cells hT
 have NA:=Hd (fun (wx:World) (_:Below w.heap.size w wx)=>name_low d.name wx hn)
 have EN:=Go.Proofs.enters_of Tryz.func17 (by kernel_rfl) rfl
 have AF:=Hd (fun (wx:World) (h:Below w.heap.size w wx)=>allStr_any 17 d.faces Af kf nmB wx B (Nat.le_trans hB h.size) hfl (RowT.below (h.mono hB) hf) EN (fun y _ hy W _=>name_low y W hy))
 have SP:=Hd (fun (wx:World) (h:Below w.heap.size w wx)=>someStr_any 17 d.parts Ap kp nmB wx hpl (fun wy hb=>allStr_any 17 d.parts Ap kp nmB wy B (Nat.le_trans (Nat.le_trans hB h.size) hb.size) hpl (RowT.below ((h.trans (hb.mono h.size)).mono hB) hp) EN (fun y _ hy W _=>name_low y W hy)))
 have SE:=Hd (fun (wx:World) (h:Below w.heap.size w wx)=>someStr_any 173 d.parts Ap kp enB wx hpl (fun wy hb=>allStr_any 173 d.parts Ap kp enB wy B (Nat.le_trans (Nat.le_trans hB h.size) hb.size) hpl (RowT.below ((h.trans (hb.mono h.size)).mono hB) hp) (Go.Proofs.enters_of Tryz.func173 (by kernel_rfl) rfl) (fun y hy _ W hw2=>enum_right y W (hpz y hy) (((hw.below h).below hb).below hw2))))
 have SF:=Hd (fun (wx:World) (h:Below w.heap.size w wx)=>someFld_any 171 d.fields Ax kx fldB wx hxl (fun wy hb=>allFld_any 171 d.fields Ax kx fldB wy B (Nat.le_trans (Nat.le_trans hB h.size) hb.size) hxl (RowT.below ((h.trans (hb.mono h.size)).mono hB) hx) (Go.Proofs.enters_of Tryz.func171 (by kernel_rfl) rfl) (fun y hy cs W hw2 hT'=>field_right y (hz.2 y hy) cs W B (Nat.le_trans (Nat.le_trans (Nat.le_trans hB h.size) hb.size) hw2.size) hT' (((hw.below h).below hb).below hw2))))
 have SM:=Hd (fun (wx:World) (h:Below w.heap.size w wx)=>somePar_any 175 d.params Am km prmB wx hml (fun wy hb=>allPar_any 175 d.params Am km prmB wy B (Nat.le_trans (Nat.le_trans hB h.size) hb.size) hml (RowT.below ((h.trans (hb.mono h.size)).mono hB) hm) (Go.Proofs.enters_of Tryz.func175 (by kernel_rfl) rfl) (fun y hy cs W hw2 hT'=>param_right y (hz.1 y hy) cs W B (Nat.le_trans (Nat.le_trans (Nat.le_trans hB h.size) hb.size) hw2.size) hT' (((hw.below h).below hb).below hw2))))
 have B1:=Hd (dbelow_new w (.cells #[.int .i64 d.kind,.string d.name,.slice Af d.faces.length kf,.slice Ax d.fields.length kx,.slice Ap d.parts.length kp,.slice Am d.params.length km] 37))
 have Y1:=Hd (heap_alloc_new w (.cells #[.int .i64 d.kind,.string d.name,.slice Af d.faces.length kf,.slice Ax d.fields.length kx,.slice Ap d.parts.length kp,.slice Am d.params.length km] 37))
 clear hB hT hw hz hpz hf hx hp hm EN
 go_enter Tryz.func149,Tryz.ntmps149
 go_upto_region 1 with fail
 generalize w.alloc (.cells #[.int .i64 d.kind,.string d.name,.slice Af d.faces.length kf,.slice Ax d.fields.length kx,.slice Ap d.parts.length kp,.slice Am d.params.length km] 37)=w1 at B1 Y1 ⊢
 obtain ⟨⟨y0,y1,y2,y3,y4,y5⟩,_⟩:=six_cells Y1.out
 obtain ⟨nb,hnm⟩:∃ b,nmB d.name=b:=⟨_,rfl⟩
 have hnm':nameB d.name.data.toList=nb:=hnm
 rw [hnm'] at NA
 go_wp2_with fail
 refine (NA.out _ B1.out).mono ?_
 rintro e w2 ⟨rfl,hb⟩
 have B2:=Hd (B1.out.trans (hb.mono B1.out.size))
 have Y2:=Hd ((hb.block _ (Array.getElem?_eq_some_iff.1 Y1.out).1).trans Y1.out)
 clear hb y0 y1 y2 y3 y4 y5 Y1
 obtain ⟨⟨y0,y1,y2,y3,y4,y5⟩,_⟩:=six_cells Y2.out
 cases nb with
 | false =>
   have HK:=Hd (defB_nm hnm)
   go_wp2_with fail
   go_ret
   exact ⟨by rw [HK.out];rfl,B2.out⟩
 | true =>
 cases e1:(d.kind == 1) with
 | true =>
   have HK:=Hd (defB_12 (Or.inl (eq_of_beq e1)))
   rw [hnm] at HK
   obtain ⟨q2,hq2⟩:∃ b,d.faces.all nmB=b:=⟨_,rfl⟩
   rw [hq2] at AF HK
   clear hq2
   go_wp2_with fail
   refine (AF.out _ B2.out).mono ?_
   rintro e w3 ⟨rfl,hb⟩
   have B3:=Hd (B2.out.trans (hb.mono B2.out.size))
   have Y3:=Hd ((hb.block _ (Array.getElem?_eq_some_iff.1 Y2.out).1).trans Y2.out)
   clear hb y0 y1 y2 y3 y4 y5 Y2
   obtain ⟨⟨y0,y1,y2,y3,y4,y5⟩,_⟩:=six_cells Y3.out
   cases q2 with
   | false =>
     go_wp2_with fail
     go_ret
     exact ⟨by rw [HK.out];rfl,B3.out⟩
   | true =>
     obtain ⟨q3,hq3⟩:∃ b,someB d.fields fldB=b:=⟨_,rfl⟩
     rw [hq3] at SF HK
     clear hq3
     go_wp2_with fail
     refine (SF.out _ B3.out).mono ?_
     rintro e w4 ⟨rfl,hb⟩
     have B4:=Hd (B3.out.trans (hb.mono B3.out.size))
     have Y4:=Hd ((hb.block _ (Array.getElem?_eq_some_iff.1 Y3.out).1).trans Y3.out)
     clear hb y0 y1 y2 y3 y4 y5 Y3
     obtain ⟨⟨y0,y1,y2,y3,y4,y5⟩,_⟩:=six_cells Y4.out
     cases q3 with
     | false =>
       go_wp2_with fail
       go_ret
       exact ⟨by rw [HK.out];rfl,B4.out⟩
     | true =>
       cases hl2:((d.parts.length:Int) == 0) with
       | false =>
         have HK:Hid (_=_):=Hd (HK.out.trans (by rw [show noB d.parts=false from hl2]))
         go_wp2_with fail
         go_ret
         exact ⟨by rw [HK.out];rfl,B4.out⟩
       | true =>
         have HK:Hid (_=_):=Hd (HK.out.trans (by rw [show noB d.parts=true from hl2]))
         go_wp2_with fail
         go_ret
         exact ⟨by rw [HK.out];rfl,B4.out⟩
 | false =>
 cases e2:(d.kind == 2) with
 | true =>
   have HK:=Hd (defB_12 (Or.inr (eq_of_beq e2)))
   rw [hnm] at HK
   obtain ⟨q2,hq2⟩:∃ b,d.faces.all nmB=b:=⟨_,rfl⟩
   rw [hq2] at AF HK
   clear hq2
   go_wp2_with fail
   refine (AF.out _ B2.out).mono ?_
   rintro e w3 ⟨rfl,hb⟩
   have B3:=Hd (B2.out.trans (hb.mono B2.out.size))
   have Y3:=Hd ((hb.block _ (Array.getElem?_eq_some_iff.1 Y2.out).1).trans Y2.out)
   clear hb y0 y1 y2 y3 y4 y5 Y2
   obtain ⟨⟨y0,y1,y2,y3,y4,y5⟩,_⟩:=six_cells Y3.out
   cases q2 with
   | false =>
     go_wp2_with fail
     go_ret
     exact ⟨by rw [HK.out];rfl,B3.out⟩
   | true =>
     obtain ⟨q3,hq3⟩:∃ b,someB d.fields fldB=b:=⟨_,rfl⟩
     rw [hq3] at SF HK
     clear hq3
     go_wp2_with fail
     refine (SF.out _ B3.out).mono ?_
     rintro e w4 ⟨rfl,hb⟩
     have B4:=Hd (B3.out.trans (hb.mono B3.out.size))
     have Y4:=Hd ((hb.block _ (Array.getElem?_eq_some_iff.1 Y3.out).1).trans Y3.out)
     clear hb y0 y1 y2 y3 y4 y5 Y3
     obtain ⟨⟨y0,y1,y2,y3,y4,y5⟩,_⟩:=six_cells Y4.out
     cases q3 with
     | false =>
       go_wp2_with fail
       go_ret
       exact ⟨by rw [HK.out];rfl,B4.out⟩
     | true =>
       cases hl2:((d.parts.length:Int) == 0) with
       | false =>
         have HK:Hid (_=_):=Hd (HK.out.trans (by rw [show noB d.parts=false from hl2]))
         go_wp2_with fail
         go_ret
         exact ⟨by rw [HK.out];rfl,B4.out⟩
       | true =>
         have HK:Hid (_=_):=Hd (HK.out.trans (by rw [show noB d.parts=true from hl2]))
         go_wp2_with fail
         go_ret
         exact ⟨by rw [HK.out];rfl,B4.out⟩
 | false =>
 cases e3:(d.kind == 3) with
 | true =>
   have HK:=Hd (defB_3 (eq_of_beq e3))
   rw [hnm] at HK
   obtain ⟨q2,hq2⟩:∃ b,someB d.parts nmB=b:=⟨_,rfl⟩
   rw [hq2] at SP HK
   clear hq2
   go_wp2_with fail
   refine (SP.out _ B2.out).mono ?_
   rintro e w3 ⟨rfl,hb⟩
   have B3:=Hd (B2.out.trans (hb.mono B2.out.size))
   have Y3:=Hd ((hb.block _ (Array.getElem?_eq_some_iff.1 Y2.out).1).trans Y2.out)
   clear hb y0 y1 y2 y3 y4 y5 Y2
   obtain ⟨⟨y0,y1,y2,y3,y4,y5⟩,_⟩:=six_cells Y3.out
   cases q2 with
   | false =>
     go_wp2_with fail
     go_ret
     exact ⟨by rw [HK.out];rfl,B3.out⟩
   | true =>
     cases hl3:((d.faces.length:Int) == 0) with
     | false =>
       have HK:Hid (_=_):=Hd (HK.out.trans (by rw [show noB d.faces=false from hl3]))
       go_wp2_with fail
       go_ret
       exact ⟨by rw [HK.out];rfl,B3.out⟩
     | true =>
       have HK:Hid (_=_):=Hd (HK.out.trans (by rw [show noB d.faces=true from hl3]))
       cases hl2:((d.fields.length:Int) == 0) with
       | false =>
         have HK:Hid (_=_):=Hd (HK.out.trans (by rw [show noB d.fields=false from hl2]))
         go_wp2_with fail
         go_ret
         exact ⟨by rw [HK.out];rfl,B3.out⟩
       | true =>
         have HK:Hid (_=_):=Hd (HK.out.trans (by rw [show noB d.fields=true from hl2]))
         go_wp2_with fail
         go_ret
         exact ⟨by rw [HK.out];rfl,B3.out⟩
 | false =>
 cases e4:(d.kind == 4) with
 | true =>
   have HK:=Hd (defB_4 (eq_of_beq e4))
   rw [hnm] at HK
   obtain ⟨q2,hq2⟩:∃ b,someB d.parts enB=b:=⟨_,rfl⟩
   rw [hq2] at SE HK
   clear hq2
   go_wp2_with fail
   refine (SE.out _ B2.out).mono ?_
   rintro e w3 ⟨rfl,hb⟩
   have B3:=Hd (B2.out.trans (hb.mono B2.out.size))
   have Y3:=Hd ((hb.block _ (Array.getElem?_eq_some_iff.1 Y2.out).1).trans Y2.out)
   clear hb y0 y1 y2 y3 y4 y5 Y2
   obtain ⟨⟨y0,y1,y2,y3,y4,y5⟩,_⟩:=six_cells Y3.out
   cases q2 with
   | false =>
     go_wp2_with fail
     go_ret
     exact ⟨by rw [HK.out];rfl,B3.out⟩
   | true =>
     cases hl3:((d.faces.length:Int) == 0) with
     | false =>
       have HK:Hid (_=_):=Hd (HK.out.trans (by rw [show noB d.faces=false from hl3]))
       go_wp2_with fail
       go_ret
       exact ⟨by rw [HK.out];rfl,B3.out⟩
     | true =>
       have HK:Hid (_=_):=Hd (HK.out.trans (by rw [show noB d.faces=true from hl3]))
       cases hl2:((d.fields.length:Int) == 0) with
       | false =>
         have HK:Hid (_=_):=Hd (HK.out.trans (by rw [show noB d.fields=false from hl2]))
         go_wp2_with fail
         go_ret
         exact ⟨by rw [HK.out];rfl,B3.out⟩
       | true =>
         have HK:Hid (_=_):=Hd (HK.out.trans (by rw [show noB d.fields=true from hl2]))
         go_wp2_with fail
         go_ret
         exact ⟨by rw [HK.out];rfl,B3.out⟩
 | false =>
 cases e5:(d.kind == 5) with
 | true =>
   have HK:=Hd (defB_5 (eq_of_beq e5))
   rw [hnm] at HK
   obtain ⟨q2,hq2⟩:∃ b,someB d.params prmB=b:=⟨_,rfl⟩
   rw [hq2] at SM HK
   clear hq2
   go_wp2_with fail
   refine (SM.out _ B2.out).mono ?_
   rintro e w3 ⟨rfl,hb⟩
   have B3:=Hd (B2.out.trans (hb.mono B2.out.size))
   have Y3:=Hd ((hb.block _ (Array.getElem?_eq_some_iff.1 Y2.out).1).trans Y2.out)
   clear hb y0 y1 y2 y3 y4 y5 Y2
   obtain ⟨⟨y0,y1,y2,y3,y4,y5⟩,_⟩:=six_cells Y3.out
   cases q2 with
   | false =>
     go_wp2_with fail
     go_ret
     exact ⟨by rw [HK.out];rfl,B3.out⟩
   | true =>
     cases hl3:((d.faces.length:Int) == 0) with
     | false =>
       have HK:Hid (_=_):=Hd (HK.out.trans (by rw [show noB d.faces=false from hl3]))
       go_wp2_with fail
       go_ret
       exact ⟨by rw [HK.out];rfl,B3.out⟩
     | true =>
       have HK:Hid (_=_):=Hd (HK.out.trans (by rw [show noB d.faces=true from hl3]))
       cases hl2:((d.fields.length:Int) == 0) with
       | false =>
         have HK:Hid (_=_):=Hd (HK.out.trans (by rw [show noB d.fields=false from hl2]))
         go_wp2_with fail
         go_ret
         exact ⟨by rw [HK.out];rfl,B3.out⟩
       | true =>
         have HK:Hid (_=_):=Hd (HK.out.trans (by rw [show noB d.fields=true from hl2]))
         go_wp2_with fail
         go_ret
         exact ⟨by rw [HK.out];rfl,B3.out⟩
 | false =>
   have HK:=Hd (defB_no e1 e2 e3 e4 e5)
   go_wp2_with fail
   go_ret
   exact ⟨by rw [HK.out];rfl,B2.out⟩
end Go.Proofs.YtaekdfcpbepepaaGreatDoor
