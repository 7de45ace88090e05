/- schema.Check and Rule at a schema that Light lets by. -/
import Derived.Test.YtbgenomboagmaaaGreatDoorQs39
import Derived.Test.YtbgenomboagmaaaGreatDoorQs42
import Derived.Test.YtbgenomboagmaaaGreatDoorQs43
import Derived.Test.YtbgenomboagmaaaGreatDoorQs46
set_option maxRecDepth 100000
set_option maxHeartbeats 8000000
namespace Go.Proofs.YtbgenomboagmaaaGreatDoor
open Go.RowKit
structure OkS (S:SchT):Prop where
 mod:ModS S
 part:PartS S
 slim:SlimS S
 len:S.defs.length < maxLen
 names:∀ d,d ∈ S.defs→d.name.size≤maxLen
 faces:∀ d,d ∈ S.defs→d.faces.length < maxLen
 keys:2*S.defs.length+2*(allDP S.defs).length≤1099511627776
theorem mems_size:∀ (m:VM) (y:ByteArray × VT),y ∈ m.list→sizeV y.2≤sizeM m
 | .nil,y,h=>by simp [VM.list] at h
 | .cons n v t,y,h=>by
   rw [VM.list] at h
   rw [sizeM]
   rcases List.mem_cons.1 h with rfl|h
   · show sizeV v≤_
     omega
   · have:=mems_size t y h
     omega
theorem par_size {l:List VarT} {p:VarT} (h:p ∈ l):sizeV p.v+1≤parN l:=by
 have h1:parF p≤parN l:=sum_part h
 unfold parF at h1
 omega
theorem par_len (l:List VarT):l.length≤parN l:=by
 induction l with
 | nil=>exact Nat.zero_le _
 | cons p t ih =>
   have:parN (p :: t)=parF p+parN t:=by unfold parN;rw [List.map_cons,List.sum_cons]
   rw [this,List.length_cons]
   unfold parF
   omega
theorem txt_size {l:List ByteArray} {s:ByteArray} (h:s ∈ l):s.size+1≤txtN l:=by
 have h1:szN s≤txtN l:=sum_part h
 unfold szN at h1
 exact h1
theorem defs_len (D:List DefnT):D.length≤(D.map defN).sum∧(allDP D).length≤(D.map defN).sum:=by
 induction D with
 | nil=>exact ⟨Nat.zero_le _,Nat.zero_le _⟩
 | cons d t ih =>
   have h1:=par_len d.params
   have h2:(allDP (d :: t)).length=d.params.length+(allDP t).length:=by unfold allDP;rw [List.flatMap_cons,List.length_append]
   rw [List.map_cons,List.sum_cons,List.length_cons,h2]
   have h3:1+parN d.params≤defN d:=by unfold defN;omega
   omega
theorem okS_of {S:SchT} (hz:ligN S≤4000) (hs:SlimS S):OkS S:=by
 have hd:∀ d,d ∈ S.defs→defN d≤4000:=fun d hd=>Nat.le_trans (sum_part (f:=defN) hd) hz
 have hl:=defs_len S.defs
 have hz':(S.defs.map defN).sum≤4000:=hz
 refine ⟨fun d h=>⟨fun y hy=>?_,fun f hf=>⟨fun y hy=>?_,fun e he y hy=>?_⟩⟩,fun d h s hs=>?_,hs,by unfold maxLen;omega,fun d h=>?_,fun d h=>?_,by omega⟩
 · have h1:=hd d h
   have h2:=par_size hy
   unfold defN at h1
   omega
 · have h1:=hd d h
   have h2:=par_size hy
   have h3:fldN f≤(d.fields.map fldN).sum:=sum_part hf
   have h6:parN f.params+dirN f.dirs≤fldN f:=by unfold fldN;omega
   unfold defN at h1
   omega
 · have h1:=hd d h
   have h2:=mems_size e.2 y hy
   have h3:fldN f≤(d.fields.map fldN).sum:=sum_part hf
   have h4:dirF e≤dirN f.dirs:=sum_part he
   unfold dirF at h4
   rw [sizeV,sizeL] at h4
   have h5:(⟨#[]⟩:ByteArray).size=0:=rfl
   have h6:parN f.params+dirN f.dirs≤fldN f:=by unfold fldN;omega
   unfold defN at h1
   omega
 · have h1:=hd d h
   have h2:=txt_size hs
   unfold defN at h1
   omega
 · have h1:=hd d h
   unfold defN at h1
   unfold maxLen
   omega
 · have h1:=(hs.2 d h).1
   unfold maxLen
   omega
noncomputable def bS (S:SchT) (n:Nat):Bool:=
 if n=1 then rule1B S else if n=2 then rule2B S else if n=3 then rule3B S else if n=4 then rule4B S else if n=5 then rule5B S else if n=6 then rule6B S else if n=7 then rule7B S else if n=8 then rule8B S else rule9B S
noncomputable def checkS (S:SchT):Int:=checkN (bS S)
theorem rules_all (S:SchT) (ok:OkS S) (A:Option Addr) (k:Nat) (w:World) (B:Nat) (hB:B≤w.heap.size) (hS:TS w (fun b=>b < B) (encSch S) [.slice A S.defs.length k,.string S.query,.string S.mutation]) (hw:Laid5 w) :
   RulesC A S.defs.length k S.query S.mutation (bS S) w:=
 have up:∀ wx,Below w.heap.size w wx→B≤wx.heap.size:=fun _ hb=>Nat.le_trans hB hb.size
 have ts:∀ wx,Below w.heap.size w wx→TS wx (fun b=>b < B) (encSch S) [.slice A S.defs.length k,.string S.query,.string S.mutation]:=fun _ hb=>TS.low (hb.mono hB) hS
 ⟨fun wx hb=>rule1_any S ok.mod ok.part ok.len ok.names _ _ _ wx B (up wx hb) (ts wx hb) (hw.below hb),
  fun wx hb=>rule2_any S _ _ _ wx B (up wx hb) ok.slim (ts wx hb),
  fun wx hb=>rule3_any S ok.slim _ _ _ wx B (up wx hb) (ts wx hb),
  fun wx hb=>rule4_any S _ _ _ wx B (up wx hb) (ts wx hb),
  fun wx hb=>rule5_any S ok.faces _ _ _ wx B (up wx hb) ok.slim (ts wx hb),
  fun wx hb=>rule6_any S ok.slim _ _ _ wx B (up wx hb) (ts wx hb),
  fun wx hb=>rule7_any S _ _ _ wx B (up wx hb) ok.slim (ts wx hb),
  fun wx hb=>rule8_any S ok.slim ok.keys _ _ _ wx B (up wx hb) (ts wx hb),
  fun wx hb=>rule9_any S ok.mod ok.slim _ _ _ wx B (up wx hb) (ts wx hb) (hw.below hb)⟩
theorem check_all (S:SchT) (ok:OkS S) (c0 c1 c2:Value) (w:World) (B:Nat) (hB:B≤w.heap.size) (hS:TS w (fun b=>b < B) (encSch S) [c0,c1,c2]) (hw:Laid5 w) :
  Calls Tryz.prog 15 #[.agg #[c0,c1,c2]] w fun e w'=>e=.returned (.int .i64 (checkS S))∧Below w.heap.size w w':=by
 obtain ⟨A,k,e,hl,hR⟩:=sch_cells hS
 injection e with e0 e
 injection e with e1 e
 injection e with e2 e
 subst e0 e1 e2
 exact check_any A _ k _ _ (bS S) w (rules_all S ok A k w B hB hS hw)
theorem rule_all (S:SchT) (ok:OkS S) (n:Int) (c0 c1 c2:Value) (w:World) (B:Nat) (hB:B≤w.heap.size) (hS:TS w (fun b=>b < B) (encSch S) [c0,c1,c2]) (hw:Laid5 w) :
  Calls Tryz.prog 34 #[.agg #[c0,c1,c2],.int .i64 n] w fun e w'=>e=.returned (.bool (ruleN (bS S) n))∧Below w.heap.size w w':=by
 obtain ⟨A,k,e,hl,hR⟩:=sch_cells hS
 injection e with e0 e
 injection e with e1 e
 injection e with e2 e
 subst e0 e1 e2
 exact rule_any A _ k _ _ (bS S) n w w (rules_all S ok A k w B hB hS hw) (Below.refl _ _)
theorem firstN_zero (b:Nat→Bool) (_hb:checkN b=0):∀ f n,1≤n→f+n=10→firstN b f n=0→∀ k,n≤k→k < 10→b k=true:=by
 intro f
 induction f with
 | zero=>intro n _ h1 _ k hk hk2;omega
 | succ f ih =>
   intro n hn h1 h2 k hk hk2
   unfold firstN at h2
   split at h2
   · rename_i hbn
     by_cases e:k=n
     · rw [e];exact hbn
     · exact ih (n+1) (by omega) (by omega) h2 k (by omega) hk2
   · omega
theorem check_zero {S:SchT} (h:checkS S=0):rule1B S=true∧rule2B S=true∧rule3B S=true∧rule4B S=true∧rule5B S=true∧rule6B S=true∧rule7B S=true∧rule8B S=true∧rule9B S=true:=by
 have H:∀ k,1≤k→k < 10→bS S k=true:=firstN_zero (bS S) h 9 1 (by omega) (by omega) h
 exact ⟨H 1 (by omega) (by omega),H 2 (by omega) (by omega),H 3 (by omega) (by omega),H 4 (by omega) (by omega),H 5 (by omega) (by omega),H 6 (by omega) (by omega),H 7 (by omega) (by omega),H 8 (by omega) (by omega),H 9 (by omega) (by omega)⟩
theorem check_full {S:SchT} (h:∀ k,1≤k→k < 10→bS S k=true):checkS S=0:=by
 unfold checkS checkN
 simp only [firstN,h 1 (by omega) (by omega),h 2 (by omega) (by omega),h 3 (by omega) (by omega),h 4 (by omega) (by omega),h 5 (by omega) (by omega),h 6 (by omega) (by omega),h 7 (by omega) (by omega),h 8 (by omega) (by omega),h 9 (by omega) (by omega),if_true]
def exQ:ByteArray:=⟨#[81,117,101,114,121]⟩
def exA:ByteArray:=⟨#[97]⟩
def exI:ByteArray:=⟨#[73,110,116]⟩
def exS:SchT:=⟨[⟨1,exQ,[],[⟨exA,[],exI,0,0,[]⟩],[],[]⟩],exQ,⟨#[]⟩⟩
def exE:SchT:=⟨[],exQ,⟨#[]⟩⟩
theorem ex_slim:SlimS exS:=by
 refine ⟨by decide,fun d hd=>?_⟩
 simp only [exS,List.mem_cons,List.not_mem_nil,or_false] at hd
 subst hd
 refine ⟨by decide,by decide,by decide,by decide,fun f hf=>?_⟩
 simp only [List.mem_cons,List.not_mem_nil,or_false] at hf
 subst hf
 exact ⟨by decide,by decide,fun x hx=>by simp at hx⟩
theorem exE_slim:SlimS exE:=⟨by decide,fun d hd=>by simp [exE] at hd⟩
theorem ex_ok:OkS exS:=okS_of (by decide +kernel) ex_slim
theorem exE_ok:OkS exE:=okS_of (by decide +kernel) exE_slim
theorem ex_r1:rule1B exS=true:=by decide +kernel
theorem ex_r2:rule2B exS=true:=by decide +kernel
theorem ex_r3:rule3B exS=true:=by decide +kernel
theorem ex_r4:rule4B exS=true:=by decide +kernel
theorem ex_r5:rule5B exS=true:=by decide +kernel
theorem ex_r6:rule6B exS=true:=by decide +kernel
theorem ex_r7:rule7B exS=true:=by decide +kernel
theorem ex_r9:rule9B exS=true:=by decide +kernel
theorem ex_r8:rule8B exS=true:=rule8_yes (fun d hd=>by
 simp only [exS,List.mem_cons,List.not_mem_nil,or_false] at hd
 subst hd
 refine Acc.intro _ fun y hy=>?_
 have h:needL exS.defs exQ=[]:=by decide +kernel
 rw [h] at hy
 cases hy)
theorem ex_check:checkS exS=0:=check_full (fun k h1 h2=>by
 have h:k=1∨k=2∨k=3∨k=4∨k=5∨k=6∨k=7∨k=8∨k=9:=by omega
 rcases h with rfl|rfl|rfl|rfl|rfl|rfl|rfl|rfl|rfl
 · exact ex_r1
 · exact ex_r2
 · exact ex_r3
 · exact ex_r4
 · exact ex_r5
 · exact ex_r6
 · exact ex_r7
 · exact ex_r8
 · exact ex_r9)
theorem exE_check:checkS exE=2:=by
 have h1:bS exE 1=true:=by show rule1B exE=true;decide +kernel
 have h2:bS exE 2=false:=by show rule2B exE=false;decide +kernel
 unfold checkS checkN
 simp only [firstN,h1,h2,if_true]
 rfl
theorem ex_nine:ruleN (bS exS) 9=true:=ex_r9
theorem ex_ten:ruleN (bS exS) 10=false:=rfl
theorem ex_fields {W:World} {g B:Nat} (hB:g < B) (h0:W.heap[g]? = some (.cells #[.string exA,.slice none 0 0,.string exI,.int .i64 0,.int .i64 0,.slice none 0 0] 46 (0,0))) :
   RowT W (fun b=>b < B) (rowOf encField [⟨exA,[],exI,0,0,[]⟩]) (some ⟨g,0,none⟩):=by
 refine row_build (k:=6) (P:=fun b=>b < B) hB len_fld fun q x hx=>?_
 match q,hx with
 | 0,hx =>
   cases hx
   refine ⟨_,fld_none exA exI 0 (by decide) (by decide),fun j u hu=>?_⟩
   match j,hu with
   | 0,hu|1,hu|2,hu|3,hu|4,hu|5,hu=>cases hu;exact (cells_get h0 _).trans rfl
   | n+6,hu=>simp at hu
 | n+1,hx=>simp at hx
theorem ex_defs {W:World} {g B:Nat} (hB:g+2≤B) (h0:W.heap[g]? = some (.cells #[.string exA,.slice none 0 0,.string exI,.int .i64 0,.int .i64 0,.slice none 0 0] 46 (0,0)))
   (h1:W.heap[g+1]? = some (.cells #[.int .i64 1,.string exQ,.slice none 0 0,.slice (some ⟨g,0,none⟩) 1 1,.slice none 0 0,.slice none 0 0] 37 (0,0))) :
   RowT W (fun b=>b < B) (rowOf encDefn exS.defs) (some ⟨g+1,0,none⟩):=by
 refine row_build (k:=6) (P:=fun b=>b < B) (show g+1 < B by omega) (fun _=>rfl) fun q x hx=>?_
 match q,hx with
 | 0,hx =>
   cases hx
   refine ⟨_,defn_ts (x:=⟨1,exQ,[],[⟨exA,[],exI,0,0,[]⟩],[],[]⟩) (kf:=0) (kx:=1) (kp:=0) (km:=0) (by decide) (by decide) (by decide) (by decide) (by decide) (nil_row (A:=none)) (ex_fields (g:=g) (by omega) h0) (nil_row (A:=none)) (nil_row (A:=none)),fun j u hu=>?_⟩
   match j,hu with
   | 0,hu|1,hu|2,hu|3,hu|4,hu|5,hu=>cases hu;exact (cells_get h1 _).trans rfl
   | n+6,hu=>simp at hu
 | n+1,hx=>simp [exS] at hx
theorem ex_ts {W:World} {g B:Nat} (hB:g+2≤B) (h0:W.heap[g]? = some (.cells #[.string exA,.slice none 0 0,.string exI,.int .i64 0,.int .i64 0,.slice none 0 0] 46 (0,0)))
  (h1:W.heap[g+1]? = some (.cells #[.int .i64 1,.string exQ,.slice none 0 0,.slice (some ⟨g,0,none⟩) 1 1,.slice none 0 0,.slice none 0 0] 37 (0,0))) :
  TS W (fun b=>b < B) (encSch exS) [.slice (some ⟨g+1,0,none⟩) 1 1,.string exQ,.string ⟨#[]⟩]:=by
 simp only [encSch,TS,TP]
 exact ⟨_,_,rfl,⟨_,1,by rw [rowOf_len];rfl,by rw [rowOf_len];decide,ex_defs hB h0 h1⟩,_,_,rfl,⟨rfl,ok_sz (by decide)⟩,_,_,rfl,⟨rfl,ok_sz (by decide)⟩,rfl⟩
theorem exE_ts {W:World} {P:Nat→Prop} : TS W P (encSch exE) [.slice none 0 0,.string exQ,.string ⟨#[]⟩]:=by
 simp only [encSch,TS,TP]
 exact ⟨_,_,rfl,⟨none,0,rfl,by simp [exE,rowOf,TrL.len],nil_row⟩,_,_,rfl,⟨rfl,ok_sz (by decide)⟩,_,_,rfl,⟨rfl,ok_sz (by decide)⟩,rfl⟩
theorem three_new (w:World) (o1 o2 o3:Obj):(((w.alloc o1).alloc o2).alloc o3).heap[w.heap.size]? = some o1∧(((w.alloc o1).alloc o2).alloc o3).heap[w.heap.size+1]? = some o2∧(((w.alloc o1).alloc o2).alloc o3).heap[w.heap.size+1+1]? = some o3:=by
 have e1:(w.alloc o1).heap.size=w.heap.size+1:=by simp
 have e2:((w.alloc o1).alloc o2).heap.size=w.heap.size+1+1:=by simp
 have n1:=heap_alloc_new w o1
 have n2:=heap_alloc_new (w.alloc o1) o2
 have n3:=heap_alloc_new ((w.alloc o1).alloc o2) o3
 rw [e1] at n2
 rw [e2] at n3
 refine ⟨?_,?_,n3⟩
 · exact (Below.heap_alloc _ _ _ (by omega)).trans ((Below.heap_alloc _ _ _ (by omega)).trans n1)
 · exact (Below.heap_alloc _ _ _ (by omega)).trans n2
theorem three_below (w:World) (o1 o2 o3:Obj):Below w.heap.size w (((w.alloc o1).alloc o2).alloc o3):=by
 have h1:=(Below.refl w.heap.size w).alloc (Nat.le_refl _) o1
 have h2:=h1.alloc h1.size o2
 exact h2.alloc h2.size o3
structure ExK (w:World) (W:World):Prop where
 low:Below w.heap.size w W
 size:w.heap.size+3≤W.heap.size
 box:W.heap[w.heap.size+1+1]? = some (.cells #[.slice (some ⟨w.heap.size+1,0,none⟩) 1 1,.string exQ,.string ⟨#[]⟩] 24 (0,0))
 sch:TS W (fun b=>b < w.heap.size+2) (encSch exS) [.slice (some ⟨w.heap.size+1,0,none⟩) 1 1,.string exQ,.string ⟨#[]⟩]
theorem ExK.next {w W W':World} (h:ExK w W) (hb:Below W.heap.size W W'):ExK w W':=by
 have hs:=h.size
 exact ⟨h.low.trans (hb.mono h.low.size),Nat.le_trans h.size hb.size,(hb.block _ (by omega)).trans h.box,TS.low (hb.mono (by omega)) h.sch⟩
theorem exwake_any (w:World) (hw:Laid5 w):Calls Tryz.prog 13 #[] w fun e w'=>e=.returned (.bool true)∧Below w.heap.size w w':=by
 have X0:=Hd (fun (o1 o2 o3:Obj)=>three_new w o1 o2 o3)
 have B0:=Hd (fun (o1 o2 o3:Obj)=>three_below w o1 o2 o3)
 have HW:=Hd (fun (wx:World) (h:ExK w wx)=>hw.below h.low)
 clear hw
 go_enter Tryz.func13,Tryz.ntmps13
 go_wp2_with fail
 have hK:ExK w _:=⟨B0.out _ _ _,by simp,(X0.out _ _ _).2.2,ex_ts (g:=w.heap.size) (B:=w.heap.size+2) (Nat.le_refl _) (X0.out _ _ _).1 (X0.out _ _ _).2.1⟩
 refine (check_all exS ex_ok (.slice (some ⟨w.heap.size+1,0,none⟩) 1 1) (.string exQ) (.string ⟨#[]⟩) _ (w.heap.size+2) (Nat.le_trans (Nat.le_succ _) hK.size) hK.sch (HW.out _ hK)).mono ?_
 rw [ex_check]
 rintro e w1 ⟨rfl,hb1⟩
 have K1:=Hd (hK.next hb1)
 clear hK hb1 X0 B0
 obtain ⟨z0,z1,z2⟩:=three_cells K1.out.box
 go_wp2_with fail
 refine (check_all exE exE_ok (.slice none 0 0) (.string exQ) (.string ⟨#[]⟩) w1 w1.heap.size (Nat.le_refl _) exE_ts (HW.out _ K1.out)).mono ?_
 rw [exE_check]
 rintro e w2 ⟨rfl,hb2⟩
 have K2:=Hd (K1.out.next hb2)
 clear z0 z1 z2 hb2 K1
 obtain ⟨z0,z1,z2⟩:=three_cells K2.out.box
 go_wp2_with fail
 refine (rule_all exS ex_ok 9 (.slice (some ⟨w.heap.size+1,0,none⟩) 1 1) (.string exQ) (.string ⟨#[]⟩) _ (w.heap.size+2) (Nat.le_trans (Nat.le_succ _) K2.out.size) K2.out.sch (HW.out _ K2.out)).mono ?_
 rw [ex_nine]
 rintro e w3 ⟨rfl,hb3⟩
 have K3:=Hd (K2.out.next hb3)
 clear z0 z1 z2 hb3 K2
 obtain ⟨z0,z1,z2⟩:=three_cells K3.out.box
 go_wp2_with fail
 refine (rule_all exS ex_ok 10 (.slice (some ⟨w.heap.size+1,0,none⟩) 1 1) (.string exQ) (.string ⟨#[]⟩) _ (w.heap.size+2) (Nat.le_trans (Nat.le_succ _) K3.out.size) K3.out.sch (HW.out _ K3.out)).mono ?_
 rw [ex_ten]
 rintro e w4 ⟨rfl,hb4⟩
 have K4:=Hd (K3.out.next hb4)
 clear z0 z1 z2 hb4 K3
 go_wp2_with fail
 go_ret
 exact ⟨rfl,K4.out.low⟩
theorem row_cellsA {α:Type} {f:α→TrS} {w:World} {P:Nat→Prop} {l:List α} {A:Option Addr} (h:RowT w P (rowOf f l) A) :
   ∃ xs,TLV w P (rowOf f l) xs∧∀ (j:Nat) u,xs[j]? = some u→∃ b o,A=some ⟨b,o,none⟩∧w.cell? ⟨b,o+j,none⟩=some u:=by
 cases l with
 | nil=>exact ⟨[],rfl,fun j u hj=>by simp at hj⟩
 | cons a t =>
   obtain ⟨b,o,rfl⟩:=row_some h
   obtain ⟨xs,h1,h2⟩:=row_news h
   exact ⟨xs,h1,fun j u hj=>⟨b,o,rfl,h2 j u hj⟩⟩
theorem tlv_app {α:Type} {f:α→TrS} {w:World} {P:Nat→Prop} {m:List α} {ys:List Value} (hm:TLV w P (rowOf f m) ys):∀ {l:List α} {xs:List Value},TLV w P (rowOf f l) xs→TLV w P (rowOf f (l++m)) (xs++ys)
 | [],xs,h=>by
   have:xs=[]:=h
   subst this
   exact hm
 | a :: t,xs,h=>by
   obtain ⟨cs,zs,rfl,h1,h2⟩:=h
   exact ⟨cs,zs++ys,by simp,h1,tlv_app hm h2⟩
theorem wpList_app_row {P:Program} {w:World} {ops:Array Oper} {rest:List Oper} {o:Oper} {a:Act} {Q:Exit→Act→World→Prop} (hgd:o.guard=none) (s x:Operand) (t:TypeId)
   (ho:o.op=.call { callee:=.builtin .append,args:=#[s,x],argTypes:=#[t,t] })
   (base:Nat) (e:TypeId) (i:TypeInfo) (z:Value) (size bytes:Nat) (ht:P.underlying t=some (.slice e)) (hi:P.info? e=some i) (hz:i.zero=some z)
   (hsize:i.size=size) (hby:i.bytes=bytes) (hzs:z.cells.size=size) (hsz:0 < size)
   (v:Value) (n:Nat) (xs:List Value) (hs:a.eval s=v) (hown:w.ownsRow base e size v n xs)
   (A:Option Addr) (m c:Nat) (news:List Value) (hx:a.eval x=.slice A m c) (hl:news.length=m*size) (hnews:∀ (j:Nat) u,news[j]? = some u→∃ b o,A=some ⟨b,o,none⟩∧w.cell? ⟨b,o+j,none⟩=some u) (h1:∀ u ∈ news,u.oneCell'=true)
   (h63:n+m≤maxLen) (hbytes:(n+m)*bytes≤140737488355328) (hbase:base≤w.heap.size)
   (h:∀ v' w',w'.ownsRow base e size v' (n+m) (xs++news)→w.grownBy w' v.ownBlock→wpList P ops Q rest (a.put o.dst v') w'):wpList P ops Q (o :: rest) a w:=by
 cases A with
 | some ad =>
   refine wpList_append_own w hgd s x t ho base e i z size bytes ht hi hz hsize hby hzs hsz v n xs hs hown ad m c news hx hl (fun j u hj=>?_) h1 h63 hbytes hbase (fun v' w' h2 h3 _=>h v' w' h2 h3)
   obtain ⟨b,o,e,hc⟩:=hnews j u hj
   rw [Option.some.inj e,add_at]
   exact hc
 | none =>
   have hn:news=[]:=by
    cases news with
    | nil=>rfl
    | cons u us =>
      obtain ⟨_,_,e,_⟩:=hnews 0 u rfl
      cases e
   subst hn
   have hm:m=0:=by
    have:m*size=0:=by simpa using hl.symm
    rcases Nat.mul_eq_zero.1 this with h|h
    · exact h
    · omega
   subst hm
   refine wpList_append_nil hgd s x t ho base e i size ht hi v n c xs hs hown hx (h v w ?_ ⟨rfl,rfl,rfl,Nat.le_refl _,fun _ _ _=>rfl⟩)
   rw [List.append_nil,Nat.add_zero]
   exact hown
def ParsO (B base:Nat) (w:World) (V:Value) (ps:List VarT):Prop:=∃ xs,w.ownsRow base 56 10 V ps.length xs∧TLV w (fun b=>b < B) (rowOf encVar ps) xs
theorem ParsO.row {B base:Nat} {w:World} {V:Value} {ps:List VarT} (h:ParsO B base w V ps) (hB:B≤w.heap.size):∃ A c,V=.slice A ps.length c∧RowT w (fun b=>b < w.heap.size) (rowOf encVar ps) A:=by
 obtain ⟨xs,h1,h2⟩:=h
 obtain ⟨A,c,rfl⟩:=shape_own h1
 refine ⟨A,c,rfl,?_⟩
 cases ps with
 | nil=>exact nil_row
 | cons p t =>
   obtain ⟨g,c',e⟩:=ownsRow_succ (k:=t.length) h1
   injection e with e1 e2 e3
   subst e1
   have hc:=h1.cells (g:=g) rfl
   have hg:g < w.heap.size:=(h1.lt g rfl).2
   refine row_build (k:=10) (P:=fun b=>b < w.heap.size) hg len_par fun q x hx=>?_
   obtain ⟨cs,t1,t2⟩:=tlv_at len_par h2 hx
   refine ⟨cs,TS.keep (fun b hb=>⟨Nat.lt_of_lt_of_le hb hB,rfl⟩) _ _ t1,fun j u hj=>?_⟩
   have:=hc _ u (t2 j u hj)
   rwa [add_at] at this
end Go.Proofs.YtbgenomboagmaaaGreatDoor
