/- The landed reader of documents, as plain functions: each of them is a reader that hangs on what is read. -/
import Derived.Test.YtkacnnhdfkpenaaGreatDoorSj28
namespace Go.Proofs.YtkacnnhdfkpenaaGreatDoor
theorem read_fuel:∀ f:Nat,
   (∀ fx d ts f',2*ts.length+1≤f→f≤f'→valR f' fx d ts=valR f fx d ts) ∧
   (∀ fx d acc ts f',2*ts.length+2≤f→f≤f'→itemsR f' fx d acc ts=itemsR f fx d acc ts) ∧
   (∀ fx d acc ts f',2*ts.length+2≤f→f≤f'→memsR f' fx d acc ts=memsR f fx d acc ts) ∧
   (∀ fx d ts f',2*ts.length+1≤f→f≤f'→memR f' fx d ts=memR f fx d ts):=by
 intro f
 induction f with
 | zero=>exact ⟨fun _ _ _ _ h _=>by omega,fun _ _ _ _ _ h _=>by omega,fun _ _ _ _ _ h _=>by omega,fun _ _ _ _ h _=>by omega⟩
 | succ f ih =>
   obtain ⟨iv,il,im,ib⟩:=ih
   refine ⟨fun fx d ts f' h hf=>?_,fun fx d acc ts f' h hf=>?_,fun fx d acc ts f' h hf=>?_,fun fx d ts f' h hf=>?_⟩
   · obtain ⟨g,rfl⟩:∃ g,f'=g+1:=⟨f' - 1,by omega⟩
     rw [valR,valR]
     by_cases h1:atB 1 oB ts=true
     · have:=at_len h1
       rw [if_pos h1,if_pos h1,il _ _ _ _ g (by omega) (by omega)]
     · rw [if_neg h1,if_neg h1]
       by_cases h2:atB 1 omB ts=true
       · have:=at_len h2
         rw [if_pos h2,if_pos h2,im _ _ _ _ g (by omega) (by omega)]
       · rw [if_neg h2,if_neg h2]
   · obtain ⟨g,rfl⟩:∃ g,f'=g+1:=⟨f' - 1,by omega⟩
     rw [itemsR,itemsR,iv _ _ _ g (by omega) (by omega)]
     split
     · rfl
     · cases hv:valR f fx d ts with
       | error x=>rfl
       | ok q =>
         obtain ⟨v,r⟩:=q
         have:=(read_less f).1 _ _ _ _ _ hv
         exact il _ _ _ _ g (by omega) (by omega)
   · obtain ⟨g,rfl⟩:∃ g,f'=g+1:=⟨f' - 1,by omega⟩
     rw [memsR,memsR,ib _ _ _ g (by omega) (by omega)]
     split
     · rfl
     · cases hv:memR f fx d ts with
       | error x=>rfl
       | ok q =>
         obtain ⟨⟨nm,v⟩,r⟩:=q
         have:=(read_less f).2.2.2 _ _ _ _ _ hv
         exact im _ _ _ _ g (by omega) (by omega)
   · obtain ⟨g,rfl⟩:∃ g,f'=g+1:=⟨f' - 1,by omega⟩
     rw [memR,memR]
     cases hn:nameR ts with
     | none=>rfl
     | some q =>
       obtain ⟨nm,r⟩:=q
       have:=name_len hn
       simp only
       by_cases h1:atB 1 colB r=true
       · have:=at_len h1
         rw [if_pos h1,if_pos h1,iv _ _ _ g (by omega) (by omega)]
       · rw [if_neg h1,if_neg h1]
def itemsD (fx:Bool) (d:Nat) (acc:VL) (ts:List Tok):Except Int (VL × List Tok):=itemsR (2*ts.length+2) fx d acc ts
def memsD (fx:Bool) (d:Nat) (acc:VM) (ts:List Tok):Except Int (VM × List Tok):=memsR (2*ts.length+2) fx d acc ts
def errR {α:Type} (x:Int):Rdr α:=fun _=>.error x
def retR {α:Type} (a:α):Rdr α:=fun ts=>.ok (a,ts)
def varV:Rdr VT:=ifR 1 dolB (nmR (fun s=>retR (.mk 8 0 s .nil .nil)) (errR 2)) oneR
theorem valD_eq (fx:Bool) (d:Nat):valD fx d=ifR 1 oB (if d=16 then errR 4 else bindR (itemsD fx (d+1) .nil) fun l=>retR (.mk 6 0 ⟨#[]⟩ l .nil)) (ifR 1 omB (if d=16 then errR 4 else bindR (memsD fx (d+1) .nil) fun m=>retR (.mk 7 0 ⟨#[]⟩ .nil m)) (if fx=true then oneR else varV)):=by
 funext ts
 unfold valD ifR
 rw [valR]
 by_cases h1:atB 1 oB ts=true
 · have:=at_len h1
   rw [if_pos h1,if_pos h1]
   by_cases hd:d=16
   · rw [if_pos hd,if_pos hd];rfl
   · rw [if_neg hd,if_neg hd]
     unfold bindR itemsD
     rw [show 2*ts.tail.length+2=2*ts.length by omega]
     cases itemsR (2*ts.length) fx (d+1) .nil ts.tail<;>rfl
 · rw [if_neg h1,if_neg h1]
   by_cases h2:atB 1 omB ts=true
   · have:=at_len h2
     rw [if_pos h2,if_pos h2]
     by_cases hd:d=16
     · rw [if_pos hd,if_pos hd];rfl
     · rw [if_neg hd,if_neg hd]
       unfold bindR memsD
       rw [show 2*ts.tail.length+2=2*ts.length by omega]
       cases memsR (2*ts.length) fx (d+1) .nil ts.tail<;>rfl
   · rw [if_neg h2,if_neg h2]
     cases fx with
     | true=>rfl
     | false =>
       rw [if_neg (by simp : ¬ (false=true))]
       unfold varV ifR nmR
       cases h3:atB 1 dolB ts with
       | true =>
         simp only [Bool.not_false,Bool.and_self,if_true]
         cases nameR ts.tail<;>rfl
       | false=>rfl
theorem itemsD_eq (fx:Bool) (d:Nat) (acc:VL):itemsD fx d acc=ifR 1 cB (retR acc) (bindR (valD fx d) fun v=>itemsD fx d (acc.snoc v)):=by
 funext ts
 unfold itemsD ifR
 rw [itemsR]
 split
 · rfl
 · unfold bindR valD
   cases hv:valR (2*ts.length+1) fx d ts with
   | error x=>rfl
   | ok q =>
     obtain ⟨v,r⟩:=q
     have:=(read_less _).1 _ _ _ _ _ hv
     exact (read_fuel _).2.1 _ _ _ _ _ (Nat.le_refl _) (by omega)
theorem memsD_eq (fx:Bool) (d:Nat) (acc:VM):memsD fx d acc=ifR 1 cmB (retR acc) (bindR (memD fx d) fun p=>memsD fx d (acc.snoc p.1 p.2)):=by
 funext ts
 unfold memsD ifR
 rw [memsR]
 split
 · rfl
 · unfold bindR memD
   cases hv:memR (2*ts.length+1) fx d ts with
   | error x=>rfl
   | ok q =>
     obtain ⟨⟨nm,v⟩,r⟩:=q
     have:=(read_less _).2.2.2 _ _ _ _ _ hv
     exact (read_fuel _).2.2.1 _ _ _ _ _ (Nat.le_refl _) (by omega)
theorem memD_eq (fx:Bool) (d:Nat):memD fx d=nmR (fun nm=>ifR 1 colB (bindR (valD fx d) fun v=>retR (nm,v)) (errR 2)) (errR 2):=by
 funext ts
 unfold memD nmR ifR
 rw [memR]
 cases hn:nameR ts with
 | none=>rfl
 | some q =>
   obtain ⟨nm,r⟩:=q
   have:=name_len hn
   simp only
   by_cases h1:atB 1 colB r=true
   · have:=at_len h1
     rw [if_pos h1,if_pos h1]
     unfold bindR valD
     rw [(read_fuel (2*r.tail.length+1)).1 _ _ _ (2*ts.length) (Nat.le_refl _) (by omega)]
     cases valR (2*r.tail.length+1) fx d r.tail<;>rfl
   · rw [if_neg h1,if_neg h1];rfl
theorem par_one (n:Nat):ParN n oneR:=by
 refine ⟨fun pre rest a _ h rest' _=>?_,fun pre rest a _ h c hc=>?_⟩
 all_goals
  cases pre with
  | nil =>
    have:=(one_sfx h).2
    simp at this
  | cons t pre =>
    change (match singleR t with|none=>(.error 2:Except Int (VT × List Tok))|some (k,n,s)=>.ok (VT.mk k n s .nil .nil,pre++rest))=.ok (a,rest) at h
    cases hs:singleR t with
    | none=>rw [hs] at h;cases h
    | some q =>
      obtain ⟨k,m,s⟩:=q
      rw [hs] at h
      obtain ⟨e1,e2⟩:=Prod.mk.inj (Except.ok.inj h)
      subst e1
      have:=app_self e2
      subst this
      first
      | (show (match singleR t with|none=>(.error 2:Except Int (VT × List Tok))|some (k,n,s)=>.ok (VT.mk k n s .nil .nil,rest'))=_;rw [hs])
      | (cases c with
       | nil=>exact .inl rfl
       | cons u c =>
         obtain ⟨z,hz⟩:=hc
         injection hz with e3 e4
         have e5:=(List.append_eq_nil_iff.1 e4).1
         subst e3 e5
         refine .inr ⟨VT.mk k m s .nil .nil,?_⟩
         · show (match singleR u with|none=>(.error 2:Except Int (VT × List Tok))|some (k,n,s)=>.ok (VT.mk k n s .nil .nil,[]))=_
           rw [hs])
theorem nil_one:Nil oneR:=.inl rfl
theorem suf_err {α:Type} (x:Int):Suf (errR x:Rdr α):=fun _ _ _ h=>by cases h
theorem suf_rt {α:Type} (a:α):Suf (retR a):=suf_ret a
theorem par_er {α:Type} (n:Nat) (x:Int):ParN n (errR x:Rdr α):=par_err n x
theorem par_rt {α:Type} (n:Nat) (a:α):ParN n (retR a):=par_ret n a
theorem nil_er {α:Type} : Nil (errR 2:Rdr α):=nil_err
theorem nil_rt {α:Type} (a:α):Nil (retR a):=nil_ret a
theorem suf_cond {α:Type} {P:Prop} [Decidable P] {p q:Rdr α} (hp:Suf p) (hq:Suf q):Suf (if P then p else q):=by split;exact hp;exact hq
theorem par_cond {α:Type} {n:Nat} {P:Prop} [Decidable P] {p q:Rdr α} (hp:ParN n p) (hq:ParN n q):ParN n (if P then p else q):=by split;exact hp;exact hq
theorem nil_cond {α:Type} {P:Prop} [Decidable P] {p q:Rdr α} (hp:Nil p) (hq:Nil q):Nil (if P then p else q):=by split;exact hp;exact hq
theorem str_val (fx:Bool) (d:Nat):Str (valD fx d):=fun _ _ _ h=>val_sfx h
theorem str_mem (fx:Bool) (d:Nat):Str (memD fx d):=fun _ _ _ h=>mem_sfx h
theorem str_items (fx:Bool) (d:Nat) (acc:VL):Str (itemsD fx d acc):=fun _ _ _ h=>(read_sfx _).2.1 _ _ _ _ _ _ h
theorem str_mems (fx:Bool) (d:Nat) (acc:VM):Str (memsD fx d acc):=fun _ _ _ h=>(read_sfx _).2.2.1 _ _ _ _ _ _ h
theorem nil_varV:Nil varV:=nil_if nil_one
theorem nil_val (fx:Bool) (d:Nat):Nil (valD fx d):=by rw [valD_eq];exact nil_if (nil_if (nil_cond nil_one nil_varV))
theorem nil_mem (fx:Bool) (d:Nat):Nil (memD fx d):=by rw [memD_eq];exact nil_nm nil_er
theorem nil_str {α β:Type} {p:Rdr α} {q:α→Rdr β} (sp:Str p) (zp:Nil p):Nil (bindR p q):=by
 rcases zp with e|⟨a,e⟩
 · exact .inl (by unfold bindR;rw [e])
 · have:=(sp _ _ _ e).2;simp at this
theorem nil_items (fx:Bool) (d:Nat) (acc:VL):Nil (itemsD fx d acc):=by rw [itemsD_eq];exact nil_if (nil_str (str_val _ _) (nil_val _ _))
theorem nil_mems (fx:Bool) (d:Nat) (acc:VM):Nil (memsD fx d acc):=by rw [memsD_eq];exact nil_if (nil_str (str_mem _ _) (nil_mem _ _))
theorem par_varV (n:Nat):ParN n varV:=par_if (suf_nm (fun _=>suf_rt _) (suf_err _)) (fun m _=>par_nm (fun _=>suf_rt _) (fun _ k _=>par_rt k _) (par_er m 2) nil_er) (par_one n) nil_one
theorem par_read:∀ n,(∀ fx d,ParN n (valD fx d))∧(∀ fx d acc,ParN n (itemsD fx d acc))∧(∀ fx d acc,ParN n (memsD fx d acc))∧(∀ fx d,ParN n (memD fx d)):=by
 intro n
 induction n using Nat.strongRecOn with
 | ind n ih =>
   have hv:∀ fx d,ParN n (valD fx d):=by
     intro fx d
     rw [valD_eq]
     refine par_if (suf_cond (suf_err _) (suf_bind (str_items _ _ _).suf fun _=>suf_rt _)) (fun m hm=>par_cond (par_er _ _) (par_bind (str_items _ _ _).suf (fun _=>suf_rt _) ((ih m hm).2.1 _ _ _) (fun _=>par_rt _ _) (fun _=>nil_rt _))) ?_ (nil_if (nil_cond nil_one nil_varV))
     refine par_if (suf_cond (suf_err _) (suf_bind (str_mems _ _ _).suf fun _=>suf_rt _)) (fun m hm=>par_cond (par_er _ _) (par_bind (str_mems _ _ _).suf (fun _=>suf_rt _) ((ih m hm).2.2.1 _ _ _) (fun _=>par_rt _ _) (fun _=>nil_rt _))) ?_ (nil_cond nil_one nil_varV)
     exact par_cond (par_one n) (par_varV n)
   have hm:∀ fx d,ParN n (memD fx d):=by
     intro fx d
     rw [memD_eq]
     exact par_nm (fun _=>suf_if (suf_bind (str_val _ _).suf fun _=>suf_rt _) (suf_err _)) (fun _ k hk=>par_if (suf_bind (str_val _ _).suf fun _=>suf_rt _) (fun m hm=>par_bind (str_val _ _).suf (fun _=>suf_rt _) ((ih m (by omega)).1 _ _) (fun _=>par_rt _ _) (fun _=>nil_rt _)) (par_er _ _) nil_er) (par_er _ _) nil_er
   refine ⟨hv,fun fx d acc=>?_,fun fx d acc=>?_,hm⟩
   · rw [itemsD_eq]
     exact par_if (suf_rt _) (fun m _=>par_rt m _) (par_bind' (str_val _ _) (fun _=>(str_items _ _ _).suf) (hv _ _) (fun _ m hm=>(ih m hm).2.1 _ _ _) (fun _=>nil_items _ _ _)) (nil_str (str_val _ _) (nil_val _ _))
   · rw [memsD_eq]
     exact par_if (suf_rt _) (fun m _=>par_rt m _) (par_bind' (str_mem _ _) (fun _=>(str_mems _ _ _).suf) (hm _ _) (fun _ m hm=>(ih m hm).2.2.1 _ _ _) (fun _=>nil_mems _ _ _)) (nil_str (str_mem _ _) (nil_mem _ _))
theorem par_val (n:Nat) (fx:Bool) (d:Nat):ParN n (valD fx d):=(par_read n).1 fx d
theorem par_mem (n:Nat) (fx:Bool) (d:Nat):ParN n (memD fx d):=(par_read n).2.2.2 fx d
theorem serR_fuel {α ρ:Type} {one:Rdr α} {add:ρ→α→ρ} {e:ByteArray} (H:Str one):∀ (f f':Nat) (acc:ρ) (ts:List Tok),ts.length < f→ts.length < f'→serR one add e f acc ts=serR one add e f' acc ts
 | 0,_,_,_,h,_=>absurd h (Nat.not_lt_zero _)
 | _+1,0,_,_,_,h=>absurd h (Nat.not_lt_zero _)
 | f + 1,f'+1,acc,ts,h,h'=>by
   rw [serR,serR]
   cases ho:one ts with
   | error x=>rfl
   | ok p =>
     obtain ⟨a,r⟩:=p
     simp only
     split
     · rfl
     · have:=(H _ _ _ ho).2
       exact serR_fuel H f f' _ _ (by omega) (by omega)
def serD {α ρ:Type} (one:Rdr α) (add:ρ→α→ρ) (e:ByteArray) (acc:ρ):Rdr ρ:=fun ts=>serR one add e (ts.length+1) acc ts
theorem serD_eq {α ρ:Type} {one:Rdr α} {add:ρ→α→ρ} {e:ByteArray} (H:Str one) (acc:ρ):serD one add e acc=bindR one fun a=>ifR 1 e (retR (add acc a)) (serD one add e (add acc a)):=by
 funext ts
 unfold serD bindR ifR
 rw [serR]
 cases ho:one ts with
 | error x=>rfl
 | ok p =>
   obtain ⟨a,r⟩:=p
   simp only
   have:=(H _ _ _ ho).2
   rw [serR_fuel H ts.length (r.length+1) _ _ this (by omega)]
   rfl
theorem str_serD {α ρ:Type} {one:Rdr α} {add:ρ→α→ρ} {e:ByteArray} (H:Str one) (acc:ρ):Str (serD one add e acc):=fun _ _ _ h=>ser_sfx (fun _ _ _ h=>H _ _ _ h) _ _ _ _ _ h
theorem nil_serD {α ρ:Type} {one:Rdr α} {add:ρ→α→ρ} {e:ByteArray} (H:Str one) (hz:Nil one) (acc:ρ):Nil (serD one add e acc):=by rw [serD_eq H];exact nil_str H hz
theorem par_serD {α ρ:Type} {one:Rdr α} {add:ρ→α→ρ} {e:ByteArray} (H:Str one) (hz:Nil one):∀ n,ParN n one→∀ acc,ParN n (serD one add e acc):=by
 intro n
 induction n using Nat.strongRecOn with
 | ind n ih =>
   intro ho acc
   rw [serD_eq H]
   exact par_bind' H (fun _=>suf_if (suf_rt _) (str_serD H _).suf) ho (fun _ m hm=>par_if (suf_rt _) (fun k _=>par_rt k _) (ih m hm (ho.less (Nat.le_of_lt hm)) _) (nil_serD H hz _)) (fun _=>nil_if (nil_serD H hz _))
theorem free_serD {α ρ:Type} {one:Rdr α} {add:ρ→α→ρ} {e:ByteArray} (H:Str one) (hp:∀ n,ParN n one):∀ n acc,Free n (serD one add e acc):=by
 intro n
 induction n using Nat.strongRecOn with
 | ind n ih =>
   intro acc
   rw [serD_eq H]
   exact free_bind' H (fun _=>str_if (suf_rt _) (str_serD H _)) hp (fun _ m hm=>free_if (suf_rt _) (str_serD H _) (fun k _=>free_ret k _) (ih m hm _))
theorem argsR_eq (fx:Bool) (d:Nat):argsR fx d=ifR 1 opB (serD (memD fx d) addM cpB .nil) (retR .nil):=by funext ts;rfl
theorem par_args (n:Nat) (fx:Bool) (d:Nat):ParN n (argsR fx d):=by
 rw [argsR_eq];exact par_if (str_serD (str_mem _ _) _).suf (fun m _=>par_serD (str_mem _ _) (nil_mem _ _) m (par_mem m _ _) _) (par_rt _ _) (nil_rt _)
theorem suf_args (fx:Bool) (d:Nat):Suf (argsR fx d):=fun _ _ _ h=>args_sfx h
theorem dirsF_fuel {fx:Bool} {d:Nat} : ∀ (f f':Nat) (acc:List DirT) (ts:List Tok),ts.length < f→ts.length < f'→dirsF fx d f acc ts=dirsF fx d f' acc ts
 | 0,_,_,_,h,_=>absurd h (Nat.not_lt_zero _)
 | _+1,0,_,_,_,h=>absurd h (Nat.not_lt_zero _)
 | f + 1,f'+1,acc,ts,h,h'=>by
   rw [dirsF,dirsF]
   split
   · rename_i ha
     have h1:=(at_sfx ha).2
     cases hn:nameR ts.tail with
     | none=>rfl
     | some q =>
       obtain ⟨n,r⟩:=q
       have h2:=(name_sfx hn).2
       simp only
       cases hg:argsR fx d r with
       | error x=>rfl
       | ok q =>
         obtain ⟨m,r2⟩:=q
         have h3:=(args_sfx hg).length_le
         exact dirsF_fuel f f' _ _ (by omega) (by omega)
   · rfl
def dirsD (fx:Bool) (d:Nat) (acc:List DirT):Rdr (List DirT):=fun ts=>dirsF fx d (ts.length+1) acc ts
theorem dirsD_eq (fx:Bool) (d:Nat) (acc:List DirT):dirsD fx d acc=ifR 1 atmB (nmR (fun n=>bindR (argsR fx d) fun m=>dirsD fx d (acc++[(n,m)])) (errR 2)) (retR acc):=by
 funext ts
 unfold dirsD ifR nmR bindR
 rw [dirsF]
 split
 · rename_i ha
   have h1:=(at_sfx ha).2
   cases hn:nameR ts.tail with
   | none=>rfl
   | some q =>
     obtain ⟨n,r⟩:=q
     have h2:=(name_sfx hn).2
     simp only
     cases hg:argsR fx d r with
     | error x=>rfl
     | ok q =>
       obtain ⟨m,r2⟩:=q
       have h3:=(args_sfx hg).length_le
       exact dirsF_fuel _ _ _ _ (by omega) (by omega)
 · rfl
theorem suf_dirsD (fx:Bool) (d:Nat) (acc:List DirT):Suf (dirsD fx d acc):=fun _ _ _ h=>dirsF_sfx _ _ _ _ _ h
theorem nil_dirsD (fx:Bool) (d:Nat) (acc:List DirT):Nil (dirsD fx d acc):=by rw [dirsD_eq];exact nil_if (nil_rt _)
theorem par_dirsD (fx:Bool) (d:Nat):∀ n acc,ParN n (dirsD fx d acc):=by
 intro n
 induction n using Nat.strongRecOn with
 | ind n ih =>
   intro acc
   rw [dirsD_eq]
   exact par_if (suf_nm (fun _=>suf_bind (suf_args _ _) fun _=>suf_dirsD _ _ _) (suf_err _)) (fun m hm=>par_nm (fun _=>suf_bind (suf_args _ _) fun _=>suf_dirsD _ _ _) (fun _ k hk=>par_bind (suf_args _ _) (fun _=>suf_dirsD _ _ _) (par_args _ _ _) (fun _=>ih k (by omega) _) (fun _=>nil_dirsD _ _ _)) (par_er _ _) nil_er) (par_rt _ _) (nil_rt _)
theorem par_dirs (n:Nat) (fx:Bool) (d:Nat):ParN n (dirsR fx d):=par_dirsD fx d n []
theorem nil_dirs (fx:Bool) (d:Nat):Nil (dirsR fx d):=nil_dirsD fx d []
theorem suf_dirs (fx:Bool) (d:Nat):Suf (dirsR fx d):=suf_dirsD fx d []
def bangD (n:ByteArray) (l m:Nat):Rdr (ByteArray × Nat × Nat):=ifR 1 bB (retR (n,l,m ||| 1)) (retR (n,l,m))
theorem bangD_eq (n:ByteArray) (l m:Nat) (ts:List Tok):bangD n l m ts=.ok (bangR n l m ts):=by
 unfold bangD ifR bangR
 split
 · rfl
 · rfl
theorem suf_bang (n:ByteArray) (l m:Nat):Suf (bangD n l m):=suf_if (suf_rt _) (suf_rt _)
theorem par_bang (k:Nat) (n:ByteArray) (l m:Nat):ParN k (bangD n l m):=par_if (suf_rt _) (fun j _=>par_rt j _) (par_rt _ _) (nil_rt _)
theorem typeR_eq0:typeR 0=ifR 1 oB (errR 4) (nmR (fun n=>bangD n 0 0) (errR 2)):=by
 funext ts
 unfold ifR nmR
 by_cases h:atB 1 oB ts=true
 · rw [typeR_deep h,if_pos h];rfl
 · have h':atB 1 oB ts=false:=by simpa using h
   rw [typeR_name h',if_neg h]
   cases nameR ts with
   | none=>rfl
   | some q=>obtain ⟨n,r⟩:=q;exact (bangD_eq n 0 0 r).symm
theorem typeR_eq (left:Nat):typeR (left+1)=ifR 1 oB (bindR (typeR left) fun t=>ifR 1 cB (bangD t.1 (t.2.1+1) (2*t.2.2)) (errR 2)) (nmR (fun n=>bangD n 0 0) (errR 2)):=by
 funext ts
 unfold ifR nmR bindR
 by_cases h:atB 1 oB ts=true
 · rw [typeR_list h,if_pos h]
   cases typeR left ts.tail with
   | error x=>rfl
   | ok q =>
     obtain ⟨⟨n,l,m⟩,r⟩:=q
     simp only
     split
     · exact (bangD_eq _ _ _ _).symm
     · rfl
 · have h':atB 1 oB ts=false:=by simpa using h
   rw [typeR_name h',if_neg h]
   cases nameR ts with
   | none=>rfl
   | some q=>obtain ⟨n,r⟩:=q;exact (bangD_eq n 0 0 r).symm
theorem str_typ (left:Nat):Str (typeR left):=fun _ _ _ h=>typ_sfx _ _ _ _ h
theorem par_typ:∀ (left n:Nat),ParN n (typeR left)
 | 0,n=>by rw [typeR_eq0];exact par_if (suf_err _) (fun m _=>par_er m _) (par_nm (fun _=>suf_bang _ _ _) (fun _ k _=>par_bang k _ _ _) (par_er _ _) nil_er) (nil_nm nil_er)
 | left+1,n=>by
   rw [typeR_eq]
   exact par_if (suf_bind (str_typ _).suf fun _=>suf_if (suf_bang _ _ _) (suf_err _)) (fun m _=>par_bind (str_typ _).suf (fun _=>suf_if (suf_bang _ _ _) (suf_err _)) (par_typ left m) (fun _=>par_if (suf_bang _ _ _) (fun k _=>par_bang k _ _ _) (par_er _ _) nil_er) (fun _=>nil_if nil_er)) (par_nm (fun _=>suf_bang _ _ _) (fun _ k _=>par_bang k _ _ _) (par_er _ _) nil_er) (nil_nm nil_er)
def varA (d:Nat) (n:ByteArray) (t:ByteArray × Nat × Nat):Rdr VarT:=ifR 1 eqB (bindR (valD true d) fun v=>retR ⟨n,t.1,t.2.1,t.2.2,true,v⟩) (retR ⟨n,t.1,t.2.1,t.2.2,false,zeroT⟩)
theorem suf_varA (d:Nat) (n:ByteArray) (t:ByteArray × Nat × Nat):Suf (varA d n t):=suf_if (suf_bind (str_val _ _).suf fun _=>suf_rt _) (suf_rt _)
theorem par_varA (m d:Nat) (n:ByteArray) (t:ByteArray × Nat × Nat):ParN m (varA d n t):=par_if (suf_bind (str_val _ _).suf fun _=>suf_rt _) (fun _ _=>par_bind (str_val _ _).suf (fun _=>suf_rt _) (par_val _ _ _) (fun _=>par_rt _ _) (fun _=>nil_rt _)) (par_rt _ _) (nil_rt _)
structure Tailed {α:Type} (p:Rdr α):Prop where
 str:Str p
 par:∀ n,ParN n p
 nil:Nil p
 free:∀ n,Free n p
theorem tail_bind {α β:Type} {p:Rdr α} {q:α→Rdr β} (sp:Suf p) (pp:∀ n,ParN n p) (zp:Nil p) (hq:∀ a,Tailed (q a)):Tailed (bindR p q):=
 ⟨fun ts a r h=>by
  obtain ⟨s,r1,h1,h2⟩:=bind_ok h
  exact ((hq s).str _ _ _ h2).le (sp _ _ _ h1),fun n=>par_bind sp (fun a=>(hq a).str.suf) (pp n) (fun a=>(hq a).par n) (fun a=>(hq a).nil),nil_bind zp fun a=>(hq a).nil,fun n=>free_bind sp (fun a=>(hq a).str) pp (fun a=>(hq a).free n)⟩
theorem tail_if {α:Type} {k:Int} {s:ByteArray} {p q:Rdr α} (hp:Tailed p) (hq:Tailed q):Tailed (ifR k s p q):=
 ⟨str_if hp.str.suf hq.str,fun n=>par_if hp.str.suf (fun m _=>hp.par m) (hq.par n) hq.nil,nil_if hq.nil,fun n=>free_if hp.str.suf hq.str (fun m _=>hp.free m) (hq.free n)⟩
theorem tail_err {α:Type} : Tailed (errR 2:Rdr α):=⟨str_err _,fun n=>par_er n 2,nil_er,fun n=>free_err n 2⟩
theorem tail_map {α β:Type} {p:Rdr α} (hp:Tailed p) (f:α→β):Tailed (bindR p fun a=>retR (f a)):=by
 have st:Str (bindR p fun s=>retR (f s)):=fun ts a r h=>by
  obtain ⟨s,r1,h1,h2⟩:=bind_ok h
  have:=(Prod.mk.inj (Except.ok.inj h2)).2
  subst this;exact hp.str _ _ _ h1
 refine ⟨st,fun n=>par_bind hp.str.suf (fun _=>suf_rt _) (hp.par _) (fun _=>par_rt _ _) (fun _=>nil_rt _),nil_bind hp.nil (fun _=>nil_rt _),fun n pre rest a hl h rest'=>?_⟩
 obtain ⟨s,r1,h1,h2⟩:=bind_ok h
 obtain ⟨e1,e2⟩:=Prod.mk.inj (Except.ok.inj h2)
 subst e1 e2
 unfold bindR
 rw [hp.free n pre r1 s hl h1 rest'];rfl
end Go.Proofs.YtkacnnhdfkpenaaGreatDoor
