/- The document's reader: a definition of any kind. (gen_prsch.py wrote it.) -/
import Derived.Test.YtkmloefbkgcbkaaGreatDoorSr42
import Derived.Test.YtkmloefbkgcbkaaGreatDoorSr43
import Derived.Test.YtkmloefbkgcbkaaGreatDoorSr44
set_option maxRecDepth 100000
set_option maxHeartbeats 2000000
namespace Go.Proofs.YtkmloefbkgcbkaaGreatDoor
open Go.RowKit
variable {nT:Nat}
theorem Yio (wd:ByteArray) (hwd:Yo wd ≠ 0) (d r:Nat) (S:StP) (w:World) (hG:∀ ts,S=.ok ts→Yn ts) (hL:∀ ts,S=.ok ts→ts.length≤200000) (hd:d≤16) (h:RP nT w r d S):Calls Tryz.prog 14 #[.pointer (some ⟨r,0,none⟩),.string wd] w (Yns nT (Yo wd) d r S w):=by
 rcases Zx2 wd with e|e|e|e|e|e
 · exact absurd e hwd
 · rw [e];exact Yf3 wd e d r S w hG hL hd h
 · rw [e];exact Yf7 wd e d r S w hG hL hd h
 · rw [e];exact Zvw wd e d r S w (fun us e=>(hG us e).1) hL hd h
 · rw [e];exact Ybb wd e d r S w hG hL hd h
 · rw [e];exact Zyt wd e d r S w (fun us e=>(hG us e).1) hL hd h
theorem Ymg (s t:ByteArray) (i:Nat) (h:i+t.size≤s.size):((s.extract i (i+t.size)).toList == t.toList)=pre t.data.toList (s.data.toList.drop i):=by
 have h1:=Lib.hasPrefix_of_take (s.data.toList.drop i) t.data.toList
 have e:(s.extract i (i+t.size)).toList=(s.data.toList.drop i).take t.data.toList.length:=by
  rw [Lib.toList_data,Z7];simp [ByteArray.data_extract,Array.toList_extract,List.extract]
 have hl:t.data.toList.length≤(s.data.toList.drop i).length:=by
  rw [List.length_drop,Z7,Z7];omega
 rw [e,Lib.toList_data];simp only [hl,decide_true,Bool.true_and] at h1;rw [h1]
 rfl
theorem Yed {t l:List UInt8} (h:l.length < t.length):pre t l=false:=by
 cases hp:pre t l with
 | false=>rfl
 | true=>have:=V9 hp;omega
theorem I8 (s t:ByteArray) (i:Nat) (w:World) (hs:s.size≤9000) (ht:t.size≤9000) (hi:i≤s.size):Calls Tryz.prog 60 #[.string s,.int .i64 i,.string t] w fun e w'=>e=.returned (.bool (pre t.data.toList (s.data.toList.drop i)))∧w=w':=by
 have hi0:(0:Int)≤(i:Int):=by omega
 by_cases h:i+t.size≤s.size
 · have hp:=Ymg s t i h
   obtain ⟨E,hE⟩:∃ E,i+t.size=E:=⟨_,rfl⟩;rw [hE] at hp;have g1:(i:Int)+(t.size:Int)=(E:Int):=by omega
   have g2:(i:Int)≤(E:Int):=by omega
   have g3:(E:Int)≤(s.size:Int):=by omega
   have g4:decide ((i:Int)≤(s.size:Int) - (t.size:Int))=true:=by simp;omega
   obtain ⟨p,hpp⟩:∃ p,pre t.data.toList (s.data.toList.drop i)=p:=⟨_,rfl⟩;rw [hpp] at hp ⊢;clear hpp hE
   go_enter Tryz.func60,Tryz.ntmps60
   go_wp2
   go_ret
   exact ⟨rfl,rfl⟩
 · have hp:pre t.data.toList (s.data.toList.drop i)=false:=Yed (by rw [List.length_drop,Z7,Z7];omega)
   rw [hp];have g4:decide ((i:Int)≤(s.size:Int) - (t.size:Int))=false:=by simp;omega
   clear hp
   go_enter Tryz.func60,Tryz.ntmps60
   go_wp2
   go_ret
   exact ⟨rfl,rfl⟩
def Wo:Nat→Int→List UInt8→Int
 | 0,v,_=>v
 | _+1,_,[]=>-1
 | n+1,v,b :: t=>if Gv b then Wo n (v*16+Ss b) t else -1
theorem Yjf:∀ b:UInt8,(97≤(b.toNat:Int)∧(b.toNat:Int)≤102)→Gv b=true∧Ss b=(b.toNat:Int) - 87:=Y8 (by decide +kernel)
theorem Ym6:∀ b:UInt8,(65≤(b.toNat:Int)∧(b.toNat:Int)≤70)→Gv b=true∧Ss b=(b.toNat:Int) - 55:=Y8 (by decide +kernel)
theorem Ymp:∀ b:UInt8,¬ (48≤(b.toNat:Int)∧(b.toNat:Int)≤57)→¬ (97≤(b.toNat:Int)∧(b.toNat:Int)≤102)→¬ (65≤(b.toNat:Int)∧(b.toNat:Int)≤70)→Gv b=false:=Y8 (by decide +kernel)
theorem Zkb {c d:Int} (h0:0≤c) (h1:c < 134217728) (h2:0≤d) (h3:d < 16):bits .or .i64 (c*16) d=c*16+d:=by
 obtain ⟨a,rfl⟩:=Int.eq_ofNat_of_zero_le h0;obtain ⟨b,rfl⟩:=Int.eq_ofNat_of_zero_le h2;have e:((a:Int)*16)=((a*16:Nat):Int):=by omega
 rw [e]
 show IntKind.i64.wrap ((BitVec.ofInt 64 ((a*16:Nat):Int) ||| BitVec.ofInt 64 (b:Int)).toNat:Int)=_;have h:=Nat.shiftLeft_add_eq_or_of_lt (b:=b) (i:=4) (by omega) a;rw [BitVec.toNat_or,Fc _ (by omega),Fc b (by omega),show a*16=a <<< 4 from by rw [Nat.shiftLeft_eq],← h,IntKind.wrap_i64,Nat.shiftLeft_eq];omega
theorem Ya5 (s:ByteArray) (i:Nat) (w:World) (hs:s.size≤9000) (hi:i≤s.size):Calls Tryz.prog 93 #[.string s,.int .i64 i] w fun e w'=>e=.returned (.int .i64 (Wo 4 0 (s.data.toList.drop i)))∧w=w':=by
 have hi0:(0:Int)≤(i:Int):=by omega
 by_cases h4:i+4≤s.size
 · have g4 : ¬ (s.size:Int) - (i:Int) < 4:=by omega
   obtain ⟨R,hR⟩:∃ R,Wo 4 0 (s.data.toList.drop i)=R:=⟨_,rfl⟩;rw [hR];obtain ⟨E,hE⟩:∃ E,i+4=E:=⟨_,rfl⟩;have gE:(i:Int)+4=(E:Int):=by omega
   have HR:=Hd hR;clear hR
   go_enter Tryz.func93,Tryz.ntmps93
   go_wp2
   go_loopg [5,6,7] 4 (fun g vv kv cv wx=>∃ (j:Nat) (v:Int),j+g=E∧i≤j∧g≤4∧vv=.int .i64 v∧0≤v∧v < 16777216∧(g=4→v=0)∧(g=3→v < 16)∧(g=2→v < 256)∧(g=1→v < 4096)∧kv=.int .i64 j∧Aside (Wo g v (s.data.toList.drop j)=R)∧w=wx)
   case atStart=>exact ⟨i,0,by omega,by omega,by omega,rfl,by omega,by omega,by omega,by omega,by omega,by omega,rfl,Aside.intro HR.out,rfl⟩
   case round =>
    obtain ⟨j,v,hj,hij,hg,rfl,hv0,hv1,hv4,hv3,hv2,hv1',rfl,H,rfl⟩:=hrel
    cases gk with
    | zero =>
      have hge : ¬ (j:Int) < (E:Int):=by omega
      have hr:Hid (v=R):=Hd H.out;clear H;go_wp2
      go_ret
      exact ⟨Jg hr.out,rfl⟩
    | succ g =>
      have hlt:j < s.size:=by omega
      have hlt1:(j:Int) < (s.size:Int):=by omega
      have hlt':(j:Int) < (E:Int):=by omega
      have hj0:(0:Int)≤(j:Int):=by omega
      have hvs:v < 4096:=by
        have:g=0∨g=1∨g=2∨g=3:=by omega
        rcases this with rfl|rfl|rfl|rfl
        · exact hv1' rfl
        · have:=hv2 rfl;omega
        · have:=hv3 rfl;omega
        · have:=hv4 rfl;omega
      rw [Zc s j hlt] at H;have hw:IntKind.i64.wrap (v*16)=v*16:=IntWalk.i64_in _ (by omega)
      by_cases d1:(48:Int)≤(s[j].toNat:Int)∧(s[j].toNat:Int)≤57
      · obtain ⟨hb,hI⟩:=Yca s[j] d1
        have HN:=Hd H.out;rw [Wo,if_pos hb,hI] at HN;have HD:=fun w=>Hd (Uw (s[j].toNat:Int) w);rw [show Ro (s[j].toNat:Int)=true by unfold Ro;simpa using d1] at HD;have u1:IntKind.u8.wrap ((s[j].toNat:Int) - 48)=(s[j].toNat:Int) - 48:=by rw [IntKind.wrap_u8];omega
        have u2:IntKind.i64.wrap ((s[j].toNat:Int) - 48)=(s[j].toNat:Int) - 48:=IntWalk.i64_in _ (by omega);have ho:=Zkb (c:=v) (d:=(s[j].toNat:Int) - 48) hv0 (by omega) (by omega) (by omega);have nb:v*16+((s[j].toNat:Int) - 48)≤v*16+9:=by omega
        clear H hb hI;go_wp2_with fail
        refine (HD _).out.mono ?_;rintro e w1 ⟨rfl,rfl⟩;go_wp2_with fail
        go_roundg g
        case measure=>omega
        case rel=>exact ⟨j+1,v*16+((s[j].toNat:Int) - 48),by omega,by omega,by omega,rfl,by omega,by omega,by omega,by intro h;have:=hv4 (by omega);omega,by intro h;have:=hv3 (by omega);omega,by intro h;have:=hv2 (by omega);omega,by go_num,Aside.intro HN.out,rfl⟩
      · have HD := fun w=>Hd (Uw (s[j].toNat:Int) w)
        rw [show Ro (s[j].toNat:Int)=false by unfold Ro;simpa using d1] at HD
        by_cases d2:(97:Int)≤(s[j].toNat:Int)∧(s[j].toNat:Int)≤102
        · obtain ⟨hb,hI⟩:=Yjf s[j] d2
          have HN:=Hd H.out;rw [Wo,if_pos hb,hI] at HN;obtain ⟨d2a,d2b⟩:=d2;have u1:IntKind.u8.wrap ((s[j].toNat:Int) - 97)=(s[j].toNat:Int) - 97:=by rw [IntKind.wrap_u8];omega
          have u3:IntKind.u8.wrap ((s[j].toNat:Int) - 97+10)=(s[j].toNat:Int) - 97+10:=by rw [IntKind.wrap_u8];omega
          have u2:IntKind.i64.wrap ((s[j].toNat:Int) - 97+10)=(s[j].toNat:Int) - 97+10:=IntWalk.i64_in _ (by omega);have ho:=Zkb (c:=v) (d:=(s[j].toNat:Int) - 97+10) hv0 (by omega) (by omega) (by omega);have eq87:(s[j].toNat:Int) - 97+10=(s[j].toNat:Int) - 87:=by omega
          rw [← eq87] at HN;clear H hb hI eq87;go_wp2_with fail
          refine (HD _).out.mono ?_;rintro e w1 ⟨rfl,rfl⟩;go_wp2_with fail
          go_roundg g
          case measure=>omega
          case rel=>exact ⟨j+1,v*16+((s[j].toNat:Int) - 97+10),by omega,by omega,by omega,rfl,by omega,by omega,by omega,by intro h;have:=hv4 (by omega);omega,by intro h;have:=hv3 (by omega);omega,by intro h;have:=hv2 (by omega);omega,by go_num,Aside.intro HN.out,rfl⟩
        · have t2:((decide ((97:Int)≤(s[j].toNat:Int))) && decide ((s[j].toNat:Int)≤102))=false:=by rw [← Bool.decide_and];simpa using d2
          by_cases d3:(65:Int)≤(s[j].toNat:Int)∧(s[j].toNat:Int)≤70
          · obtain ⟨hb,hI⟩:=Ym6 s[j] d3
            have HN:=Hd H.out;rw [Wo,if_pos hb,hI] at HN;obtain ⟨d3a,d3b⟩:=d3;have n97 : ¬ (97:Int)≤(s[j].toNat:Int):=by omega
            have u1:IntKind.u8.wrap ((s[j].toNat:Int) - 65)=(s[j].toNat:Int) - 65:=by rw [IntKind.wrap_u8];omega
            have u3:IntKind.u8.wrap ((s[j].toNat:Int) - 65+10)=(s[j].toNat:Int) - 65+10:=by rw [IntKind.wrap_u8];omega
            have u2:IntKind.i64.wrap ((s[j].toNat:Int) - 65+10)=(s[j].toNat:Int) - 65+10:=IntWalk.i64_in _ (by omega);have ho:=Zkb (c:=v) (d:=(s[j].toNat:Int) - 65+10) hv0 (by omega) (by omega) (by omega);have eq55:(s[j].toNat:Int) - 65+10=(s[j].toNat:Int) - 55:=by omega
            rw [← eq55] at HN;clear H hb hI eq55 t2;go_wp2_with fail
            refine (HD _).out.mono ?_;rintro e w1 ⟨rfl,rfl⟩;go_wp2_with fail
            go_roundg g
            case measure=>omega
            case rel=>exact ⟨j+1,v*16+((s[j].toNat:Int) - 65+10),by omega,by omega,by omega,rfl,by omega,by omega,by omega,by intro h;have:=hv4 (by omega);omega,by intro h;have:=hv3 (by omega);omega,by intro h;have:=hv2 (by omega);omega,by go_num,Aside.intro HN.out,rfl⟩
          · have hb:=Ymp s[j] d1 d2 d3
            have hr:Hid ((-1:Int)=R):=Hd (by have h:=H.out;rw [Wo,if_neg (by rw [hb];simp)] at h;exact h);clear H hb
            by_cases n97:(97:Int)≤(s[j].toNat:Int)
            · have n102 : ¬ (s[j].toNat:Int)≤102:=fun h=>d2 ⟨n97,h⟩
              have n65:(65:Int)≤(s[j].toNat:Int):=by omega
              have n70 : ¬ (s[j].toNat:Int)≤70:=by omega
              clear t2 d1 d2 d3;go_wp2_with fail
              refine (HD _).out.mono ?_;rintro e w1 ⟨rfl,rfl⟩;go_wp2_with fail
              go_ret
              exact ⟨Jg hr.out,rfl⟩
            · by_cases n65:(65:Int)≤(s[j].toNat:Int)
              · have n70 : ¬ (s[j].toNat:Int)≤70:=fun h=>d3 ⟨n65,h⟩
                clear t2 d1 d2 d3;go_wp2_with fail
                refine (HD _).out.mono ?_;rintro e w1 ⟨rfl,rfl⟩;go_wp2_with fail
                go_ret
                exact ⟨Jg hr.out,rfl⟩
              · clear t2 d1 d2 d3
                go_wp2_with fail
                refine (HD _).out.mono ?_;rintro e w1 ⟨rfl,rfl⟩;go_wp2_with fail
                go_ret
                exact ⟨Jg hr.out,rfl⟩
 · have hr:Wo 4 0 (s.data.toList.drop i) = -1:=by
    have hl:(s.data.toList.drop i).length < 4:=by rw [List.length_drop,Z7];omega
    have key:∀ (n:Nat) (v:Int) (l:List UInt8),l.length < n→Wo n v l = -1:=by
      intro n
      induction n with
      | zero=>intro v l h;omega
      | succ n ih =>
        intro v l h
        cases l with
        | nil=>rfl
        | cons b t =>
          rw [Wo]
          split
          · exact ih _ _ (by simp at h;omega)
          · rfl
    exact key 4 0 _ hl
   rw [hr];have g4:(s.size:Int) - (i:Int) < 4:=by omega
   clear hr
   go_enter Tryz.func93,Tryz.ntmps93
   go_wp2
   go_ret
   exact ⟨rfl,rfl⟩
theorem Mi {l:List UInt8} (hne:l ≠ []) (hg:Zm l=true):∃ z,dec l=(z,((Lib.encodeRune z).length:Int))∧okB z=true∧l=Lib.encodeRune z++l.drop (Lib.encodeRune z).length∧Zm (l.drop (Lib.encodeRune z).length)=true:=by
 rw [J9] at hg
 by_cases h0:(dec l).2=0
 · rw [Lo hne h0] at hg;cases hg
 · have he:=Pe h0
   have hb:=Mv l;obtain ⟨b0,b4,bl,c0,c1,ch⟩:=hb
   have hlen:(Lib.encodeRune (dec l).1).length=(dec l).2.toNat:=by
     rw [he,List.length_take];omega
   refine ⟨(dec l).1,?_,by simp [okB,c0,c1,ch],?_,?_⟩
   · rw [hlen,Int.toNat_of_nonneg b0]
   · rw [hlen,he,List.take_append_drop]
   · rw [Ux hne h0] at hg
     rw [hlen,J9]
     cases hc:Jc (l.drop (dec l).2.toNat) with
     | none=>rw [hc] at hg;cases hg
     | some _=>rfl
theorem Pf {b:UInt8} {t:List UInt8} (h:Zm (b :: t)=true) (hb:b.toNat < 128):Zm t=true:=by
 obtain ⟨z,_,hz,hl,hg⟩:=Mi (by simp) h;have hz':0≤z∧z≤1114111∧X6 z=false:=by simpa [okB] using hz
 by_cases h1:z < 128
 · rw [Ba hz'.1 h1] at hg
   simpa using hg
 · have hh:=Dq (c:=z) (by omega)
   cases he:Lib.encodeRune z with
   | nil=>have:=(Zjs z).1;rw [he] at this;simp at this
   | cons x y =>
     rw [he,List.cons_append] at hl;have:b=x:=by injection hl
     subst this;have:=hh b (by rw [he];simp);omega
theorem U9 {s:ByteArray} {i:Nat} (h:Zm (s.data.toList.drop i)=true) (hi:i < s.size) (hb:(s[i]).toNat < 128):Zm (s.data.toList.drop (i+1))=true:=by
 rw [Zc s i hi] at h;exact Pf h hb
theorem Zy4:∀ (hs r:List UInt8),(∀ b ∈ hs,(b == 34)=false∧(b == 10 || b == 13)=false∧(b == 92)=false)→J7 (hs++r)=(J7 r).map fun q=>(hs++q.1,hs.length+q.2):=by
 intro hs
 induction hs with
 | nil=>intro r _;simp
 | cons b t ih =>
   intro r h;obtain ⟨a1,a2,a3⟩:=h b (by simp);rw [List.cons_append,Xf,a1,a2,a3,ih r (fun c hc=>h c (by simp [hc]))]
   cases J7 r with
   | none=>rfl
   | some q=>simp;omega
theorem Yg9 {z:Int} (hz:okB z=true) (h34:z ≠ 34) (h10:z ≠ 10) (h13:z ≠ 13) (h92:z ≠ 92) (r:List UInt8):J7 (Lib.encodeRune z++r)=(J7 r).map fun q=>(Lib.encodeRune z++q.1,(Lib.encodeRune z).length+q.2):=by
 refine Zy4 _ r fun b hb=>?_;have hz':0≤z∧z≤1114111∧X6 z=false:=by simpa [okB] using hz
 by_cases h1:z < 128
 · rw [Ba hz'.1 h1] at hb
   simp only [List.mem_singleton] at hb;obtain ⟨n,rfl⟩:=Int.eq_ofNat_of_zero_le hz'.1;have hn:b.toNat=n:=by rw [hb];simp [Nat.toUInt8,UInt8.toNat_ofNat'];omega
   have ne:∀ c:UInt8,b=c→n=c.toNat:=fun c h=>by rw [← hn,h]
   have k:∀ c:UInt8,n ≠ c.toNat→(b == c)=false:=fun c h=>by
    cases hbc:(b == c) with
    | false=>rfl
    | true=>exact absurd (ne c (by simpa using hbc)) h
   have e34:n ≠ (34:UInt8).toNat:=fun h=>h34 (by have:(34:UInt8).toNat=34:=rfl;omega);have e10:n ≠ (10:UInt8).toNat:=fun h=>h10 (by have:(10:UInt8).toNat=10:=rfl;omega);have e13:n ≠ (13:UInt8).toNat:=fun h=>h13 (by have:(13:UInt8).toNat=13:=rfl;omega);have e92:n ≠ (92:UInt8).toNat:=fun h=>h92 (by have:(92:UInt8).toNat=92:=rfl;omega);exact ⟨k 34 e34,by rw [k 10 e10,k 13 e13];rfl,k 92 e92⟩
 · have hh := Dq (c:=z) (by omega) b hb
   have k : ∀ c:UInt8,c.toNat < 128→(b == c)=false:=fun c h=>by
    cases hbc:(b == c) with
    | false=>rfl
    | true => have:b=c:=by simpa using hbc
              subst this;omega
   exact ⟨k 34 (by decide),by rw [k 10 (by decide),k 13 (by decide)];rfl,k 92 (by decide)⟩
theorem Ydd {z:Int} {s:ByteArray} {i:Nat} (hi:i < s.size) (h:s.data.toList.drop i=Lib.encodeRune z++(s.data.toList.drop i).drop (Lib.encodeRune z).length) (c:Int) (h0:0≤c) (hc:c < 128) (hne:(s[i].toNat:Int) ≠ c):z ≠ c:=by
 rintro rfl;rw [Ba h0 hc,Zc s i hi] at h;have:s[i]=z.toNat.toUInt8:=by injection h
 apply hne
 rw [this];simp [Nat.toUInt8,UInt8.toNat_ofNat'];omega
theorem Cj {n:Nat} {v:Int} {b:UInt8} {t:List UInt8} (h:Gv b=true):Wo (n+1) v (b :: t)=Wo n (v*16+Ss b) t:=by rw [Wo,if_pos h]
theorem Zz5 (t:List UInt8):Zo (92 :: 117 :: t)=if Wo 4 0 t < 0 then none else some (Wo 4 0 t):=by
 match t with
 | []=>rfl
 | [a]=>cases ha:Gv a<;>simp [Zo,Wo,ha]
 | [a,b]=>cases ha:Gv a<;>cases hb:Gv b<;>simp [Zo,Wo,ha,hb]
 | [a,b,c]=>cases ha:Gv a<;>cases hb:Gv b<;>cases hc:Gv c<;>simp [Zo,Wo,ha,hb,hc]
 | a :: b :: c :: d :: r =>
   cases ha:Gv a
   · simp [Zo,Wo,ha]
   cases hb:Gv b
   · simp [Zo,Wo,ha,hb]
   cases hc:Gv c
   · simp [Zo,Wo,ha,hb,hc]
   cases hd:Gv d
   · simp [Zo,Wo,ha,hb,hc,hd]
   have:=Lm ha;have:=Lm hb;have:=Lm hc;have:=Lm hd
   have e:Wo 4 0 (a :: b :: c :: d :: r)=Ymd a b c d:=by
     rw [Cj ha,Cj hb,Cj hc,Cj hd,Wo];unfold Ymd;omega
   have hv : ¬ Ymd a b c d < 0:=by unfold Ymd;omega
   rw [e,if_neg hv];simp [Zo,ha,hb,hc,hd]
theorem Wy {l:List UInt8} (h:∀ t,l ≠ 92 :: 117 :: t):Zo l=none:=by
 cases hu:Zo l with
 | none=>rfl
 | some u=>obtain ⟨t,ht⟩:=C5 hu;exact absurd ht (h t)
def noQ:Value:=.tuple #[.string ⟨#[]⟩,.int .i64 0,.bool false]
def qV (out:List UInt8) (i:Nat) (o:Option (List UInt8 × Nat)):Value:=
 match o with
 | none=>noQ
 | some q=>.tuple #[.string ⟨(out++q.1).toArray⟩,.int .i64 ((i+q.2:Nat):Int),.bool true]
theorem Ylq {out:List UInt8} {i:Nat} {us:List Int} {l:List UInt8} {u:Int} (h:Zo l=some u):qV out i (I9 us l)=qV out (i+6) (I9 (us++[u]) (l.drop 6)):=by
 rw [Yam h]
 cases I9 (us++[u]) (l.drop 6) with
 | none=>rfl
 | some q=>simp only [Option.map_some,qV,Nat.add_assoc]
theorem Gr {out:List UInt8} {i:Nat} {us:List Int} {l:List UInt8} (h:Zo l=none) (hj:Vo us=none):qV out i (I9 us l)=noQ:=by
 rw [Wx h,hj];rfl
theorem Gn {out x:List UInt8} {i:Nat} {us:List Int} {l:List UInt8} (h:Zo l=none) (hj:Vo us=some x):qV out i (I9 us l)=qV (out++x) i (I9 [] l):=by
 rw [Wx h,hj,Va]
 cases J7 l with
 | none=>rfl
 | some q=>simp only [Option.map_some,qV,List.append_assoc]
theorem Ykd {out x:List UInt8} {i n:Nat} {o:Option (List UInt8 × Nat)} : qV out i (o.map fun q=>(x++q.1,n+q.2))=qV (out++x) (i+n) o:=by
 cases o with
 | none=>rfl
 | some q=>simp only [Option.map_some,qV,List.append_assoc,Nat.add_assoc]
theorem Yoh {out:List UInt8} {i:Nat} {t:List UInt8} : qV out i (I9 [] (34 :: t))=.tuple #[.string ⟨out.toArray⟩,.int .i64 ((i+1:Nat):Int),.bool true]:=by
 rw [Va,Xf]
 show qV out i (some ([],1))=_;simp [qV]
theorem Yka {out:List UInt8} {i:Nat} {b:UInt8} {t:List UInt8} (h:b=10∨b=13):qV out i (I9 [] (b :: t))=noQ:=by
 rw [Va,Xf];rcases h with rfl|rfl<;>rfl
theorem Yo7 {out:List UInt8} {i:Nat} {us:List Int} : qV out i (I9 us [])=noQ:=by
 rw [Wx rfl]
 cases Vo us<;>rfl
theorem Qa {c:List UInt8} (h:Zo (92 :: c)=none):Ow (92 :: c)=match c with|d :: _=>(Mx d).map fun x=>([x],2)|[]=>none:=by
 unfold Ow;rw [if_pos (Vx h)]
 cases c<;>rfl
theorem Zzz {out:List UInt8} {i:Nat} {d:UInt8} {t:List UInt8} (h:Zo (92 :: d :: t)=none):qV out i (I9 [] (92 :: d :: t))=match Mx d with|none=>noQ|some x=>qV (out++[x]) (i+2) (I9 [] t):=by
 rw [Va,Xf,Qa h,Va]
 show qV out i (match (Mx d).map fun x=>([x],2) with|none=>none|some p=>(J7 ((92 :: d :: t).drop p.2)).map fun q=>(p.1++q.1,p.2+q.2))=_
 cases Mx d with
 | none=>rfl
 | some x=>exact Ykd (x:=[x]) (n:=2)
theorem Yn0 {out:List UInt8} {i:Nat} : qV out i (I9 [] [92])=noQ:=by
 rw [Va,Xf,Qa (by rfl)];rfl
theorem Ypy {out:List UInt8} {i:Nat} {us:List Int} {t:List UInt8} (h:Wo 4 0 t < 0):qV out i (I9 us (92 :: 117 :: t))=noQ:=by
 have hu:Zo (92 :: 117 :: t)=none:=by rw [Zz5,if_pos h]
 cases hj:Vo us with
 | none=>exact Gr hu hj
 | some x=>rw [Gn hu hj,Zzz hu];rfl
theorem Yll:∀ b:UInt8,([34,92,47,98,102,110,114,116]:List UInt8).contains b=false→Mx b=none:=Y8 (by decide +kernel)
theorem Yow:∀ k:Fin 8,Mx ((⟨#[34,92,47,98,102,110,114,116]⟩:ByteArray)[k.val]'(by have:=k.isLt;show k.val < 8;omega))=some (([34,92,47,8,12,10,13,9]:List UInt8).getD k.val 0):=by decide +kernel
theorem Zyn (b:UInt8) (w:World):Calls Tryz.prog 61 #[.string ⟨#[34,92,47,98,102,110,114,116]⟩,.int .u8 (b.toNat:Int)] w fun e w'=>(∃ r:Int,e=.returned (.int .i64 r)∧((r < 0∧Mx b=none)∨∃ k:Nat,k < 8∧r=k∧Mx b=some (([34,92,47,8,12,10,13,9]:List UInt8).getD k 0)))∧w=w':=by
 obtain ⟨M,hM⟩:∃ M:ByteArray,(⟨#[34,92,47,98,102,110,114,116]⟩:ByteArray)=M:=⟨_,rfl⟩;have hMs:M.size=8:=by rw [← hM];rfl
 have HMl:Hid (M.data.toList=[34,92,47,98,102,110,114,116]):=Hd (by rw [← hM]);have HMa:Hid (∀ (k:Nat) (h:k < M.size),k < 8→Mx M[k]=some (([34,92,47,8,12,10,13,9]:List UInt8).getD k 0)):=Hd (by subst hM;exact fun k _ h8=>Yow ⟨k,h8⟩);rw [hM];clear hM
 go_enter Tryz.func61,Tryz.ntmps61
 go_wp2
 go_loopg [5] 8 (fun g n wx=>∃ k:Nat,k+g=8∧n=.int .i64 k∧Aside ((M.data.toList.take k).contains b=false)∧w=wx)
 case atStart=>exact ⟨0,by omega,rfl,Aside.intro rfl,rfl⟩
 case round =>
  obtain ⟨k,hk,rfl,HR,rfl⟩:=hrel
  by_cases hlt:k < M.size
  · have hlt':(k:Int) < (M.size:Int):=by omega
    have hk0:(0:Int)≤(k:Int):=by omega
    have hg:Hid (M.data.toList[k]? = some M[k]):=Hd (by
      rw [List.getElem?_eq_getElem (by rw [Z7];exact hlt),Array.getElem_toList]
      rfl)
    cases c:(M[k] == b)
    · obtain ⟨a1,_⟩:=On c (b.toNat:Int) rfl
      have hr:Hid ((M.data.toList.take (k+1)).contains b=false):=Hd (by
       exact Zkq HR.out hg.out c)
      clear HR c hg;go_wp2
      go_roundg (gk - 1)
      case measure=>omega
      case rel=>exact ⟨k+1,by omega,by go_num,Aside.intro hr.out,rfl⟩
    · obtain ⟨a1,_⟩:=Oo c (b.toNat:Int) rfl
      have hr:Hid (Mx b=some (([34,92,47,8,12,10,13,9]:List UInt8).getD k 0)):=Hd (by
       have hb:M[k]=b:=by simpa using c
       rw [← hb];exact HMa.out k hlt (by omega))
      clear HR c hg;go_wp2
      go_ret
      exact ⟨⟨_,rfl,.inr ⟨k,by omega,rfl,hr.out⟩⟩,rfl⟩
  · have hlt' : ¬ (k:Int) < (M.size:Int):=by omega
    have hr:Hid (Mx b=none):=Hd (by
      have h:=HR.out;rw [List.take_of_length_le (by rw [Z7];omega),HMl.out] at h;exact Yll b h)
    clear HR;go_wp2
    go_ret
    exact ⟨⟨_,rfl,.inl ⟨by omega,hr.out⟩⟩,rfl⟩
end Go.Proofs.YtkmloefbkgcbkaaGreatDoor
