/- Pressed by program out of Mb Mc Mg. -/
import Derived.Test.YtdlhbmncbmconaaGreatDoorL00
import Derived.Lib.ValidLaws
import GoSem.Op.String
namespace Go.Hm
def UnitB (u:List UInt8):Prop:=(∃ c,u=[92,c]/\esc c=true)∨(∃ a:UInt8,u=[a]/\¬ a.toNat=34/\¬ a.toNat=93/\¬ a.toNat=92)
def ValB (a:List UInt8):Prop:=∃ us:List (List UInt8),a=us.flatten/\∀ u ∈ us,UnitB u
theorem ValB.nil:ValB []:=⟨[],rfl,fun _ h=>by simp at h⟩
theorem ValB.esc {c:UInt8} {t:List UInt8} (hc:Go.Hm.esc c=true) (h:ValB t):ValB (92 :: c :: t):=by
 obtain ⟨us,rfl,hu⟩:=h
 exact ⟨[92,c] :: us,rfl,fun u hm=>by rcases List.mem_cons.1 hm with rfl | hm;exact .inl ⟨c,rfl,hc⟩;exact hu u hm⟩
theorem ValB.one {a:UInt8} {t:List UInt8} (h1:¬ a.toNat=34) (h2:¬ a.toNat=93) (h3:¬ a.toNat=92) (h:ValB t):ValB (a :: t):=by
 obtain ⟨us,rfl,hu⟩:=h
 exact ⟨[a] :: us,rfl,fun u hm=>by rcases List.mem_cons.1 hm with rfl | hm;exact .inr ⟨a,rfl,h1,h2,h3⟩;exact hu u hm⟩
theorem ValB.each {P:List UInt8->Prop} (h0:P []) (h1:∀ c t,Go.Hm.esc c=true->P t->P (92 :: c :: t)) (h2:∀ (a:UInt8) t,¬ a.toNat=34->¬ a.toNat=93->¬ a.toNat=92->P t->P (a :: t)) {a:List UInt8} (h:ValB a):P a:=by
 obtain ⟨us,rfl,hu⟩:=h
 induction us with
 | nil=>exact h0
 | cons u us ih=>
  have ih:=ih (fun v hv=>hu v (by simp [hv]))
  rcases hu u (by simp) with ⟨c,rfl,hc⟩ | ⟨b,rfl,a1,a2,a3⟩
  ·exact h1 c _ hc ih
  ·exact h2 b _ a1 a2 a3 ih
theorem value_of {a:List UInt8} (h:ValB a) (r:List UInt8):value (a ++ 34 :: r)=some a.length:=by
 refine ValB.each (P:=fun a=>value (a ++ 34 :: r)=some a.length) ?_ ?_ ?_ h
 ·exact value_quote rfl
 ·intro c t hc ih
  rw [List.cons_append,List.cons_append,value_esc2 rfl hc,ih];rfl
 ·intro a t h1 h2 h3 ih
  rw [List.cons_append,value_other h1 h2 h3,ih];rfl
theorem value_cut:∀ (n:Nat) (l:List UInt8),l.length<=n->∀ v,value l=some v->∃ a r,l=a ++ 34 :: r/\a.length=v/\ValB a:=by
 intro n
 induction n with
 | zero=>intro l hl v hv;cases l with | nil=>cases hv | cons a t=>simp at hl
 | succ n ih=>
  intro l hl v hv
  cases l with
  | nil=>cases hv
  | cons a t=>
   simp only [List.length_cons] at hl
   by_cases h1:a.toNat=34
   ·rw [value_quote h1] at hv
    cases hv
    exact ⟨[],t,by rw [UInt8.toNat_inj.1 (show a.toNat=(34:UInt8).toNat from h1)];rfl,rfl,.nil⟩
   ·by_cases h2:a.toNat=93
    ·rw [value_shut h2] at hv;cases hv
    ·by_cases h3:a.toNat=92
     ·cases t with
      | nil=>rw [value_esc0 h3] at hv;cases hv
      | cons c u=>
       cases hc:esc c with
       | false=>rw [value_esc1 h3 hc] at hv;cases hv
       | true=>
        rw [value_esc2 h3 hc] at hv
        obtain ⟨x,hx,rfl⟩:=Option.map_eq_some_iff.1 hv
        simp only [List.length_cons] at hl
        obtain ⟨b,r,rfl,hb,hv'⟩:=ih u (by omega) x hx
        obtain rfl:a=92:=UInt8.toNat_inj.1 h3
        exact ⟨92 :: c :: b,r,rfl,by simp [hb],.esc hc hv'⟩
     ·rw [value_other h1 h2 h3] at hv
      obtain ⟨x,hx,rfl⟩:=Option.map_eq_some_iff.1 hv
      obtain ⟨b,r,rfl,hb,hv'⟩:=ih t (by omega) x hx
      exact ⟨a :: b,r,rfl,by simp [hb],.one h1 h2 h3 hv'⟩
def NameB (n:List UInt8):Prop:=1<=n.length/\n.length<=12/\∀ c ∈ n,nmb c=true
theorem ahead_cut (p:UInt8->Bool) (b:Nat) (l:List UInt8):∀ c ∈ l.take (ahead p b l),p c=true:=by
 intro c hc
 have h:l.take (ahead p b l)=(l.take b).takeWhile p:=by
  unfold ahead
  have hp:(l.take b).takeWhile p <+: l:=(List.takeWhile_prefix p).trans (List.take_prefix b l)
  exact (List.prefix_iff_eq_take.1 hp).symm
 rw [h] at hc
 have:=List.all_takeWhile (p:=p) (l:=l.take b)
 rw [List.all_eq_true] at this
 exact this c hc
theorem ahead_of {p:UInt8->Bool} {b:Nat} {a r:List UInt8} (hb:a.length<=b) (h:∀ c ∈ a,p c=true) (hr:a.length=b∨r=[]∨∃ c t,r=c :: t/\p c=false):ahead p b (a ++ r)=a.length:=by
 refine ahead_eq p b _ _ (by simp) hb (by simpa using h) ?_
 rcases hr with h | rfl | ⟨c,t,rfl,hc⟩
 ·exact .inr (.inl h)
 ·left;simp
 ·exact .inr (.inr ⟨c,by simp,hc⟩)
theorem nameLen_of {n:List UInt8} (h:NameB n) {c:UInt8} (hc:nmb c=false) (r:List UInt8):nameLen (n ++ c :: r)=n.length:=
 ahead_of h.2.1 h.2.2 (.inr (.inr ⟨c,r,rfl,hc⟩))
theorem nameLen_cut {l:List UInt8} (h:¬ nameLen l=0):∃ n r,l=n ++ r/\n.length=nameLen l/\NameB n:=by
 have hl:=nameLen_le l
 refine ⟨l.take (nameLen l),l.drop (nameLen l),(List.take_append_drop _ _).symm,by simp;omega,by simp;omega,by simp;omega,ahead_cut nmb 12 l⟩
theorem prefix1 {l:List UInt8} {c:UInt8} (h:Lib.hasPrefix l [c]=true):∃ t,l=c :: t:=by
 unfold Lib.hasPrefix at h
 obtain ⟨t,rfl⟩:=List.isPrefixOf_iff_prefix.1 h
 exact ⟨t,rfl⟩
theorem prefix2 {l:List UInt8} {c d:UInt8} (h:Lib.hasPrefix l [c,d]=true):∃ t,l=c :: d :: t:=by
 unfold Lib.hasPrefix at h
 obtain ⟨t,rfl⟩:=List.isPrefixOf_iff_prefix.1 h
 exact ⟨t,rfl⟩
theorem prefix_of (p t:List UInt8):Lib.hasPrefix (p ++ t) p=true:=List.isPrefixOf_iff_prefix.2 ⟨t,rfl⟩
theorem prefix_cons (c:UInt8) (t:List UInt8):Lib.hasPrefix (c :: t) [c]=true:=prefix_of [c] t
theorem prefix_no {c d:UInt8} (t:List UInt8) (h:¬ c=d):Lib.hasPrefix (c :: t) [d]=false:=by
 cases hp:Lib.hasPrefix (c :: t) [d] with
 | false=>rfl
 | true=>obtain ⟨u,hu⟩:=prefix1 hp;cases hu;exact (h rfl).elim
def pairB (n v:List UInt8):List UInt8:=n ++ 61 :: 34 :: (v ++ [34])
theorem pair_of {n v:List UInt8} (hn:NameB n) (hv:ValB v) (r:List UInt8):pair (pairB n v ++ r)=(pairB n v).length:=by
 have e:pairB n v ++ r=n ++ 61 :: (34 :: (v ++ 34 :: r)):=by simp [pairB]
 have hl:nameLen (pairB n v ++ r)=n.length:=by rw [e];exact nameLen_of hn (by decide) _
 unfold pair
 rw [hl,e]
 have h1:=hn.1
 rw [if_neg]
 ·rw [show (n ++ 61 :: (34 :: (v ++ 34 :: r))).drop (n.length+2)=v ++ 34 :: r by simp]
  rw [value_of hv]
  simp [pairB]
  omega
 ·rw [List.drop_left]
  rintro (h | h)
  ·omega
  ·rw [show (61:UInt8) :: 34 :: (v ++ 34 :: r)=[61,34] ++ (v ++ 34 :: r) from rfl,prefix_of] at h
   cases h
theorem pair_cut {l:List UInt8} (h:¬ pair l=0):∃ n v r,l=pairB n v ++ r/\NameB n/\ValB v/\pair l=(pairB n v).length:=by
 unfold pair at h
 split at h
 ·exact (h rfl).elim
 ·next h1=>
  split at h
  ·exact (h rfl).elim
  ·next v hv=>
   obtain ⟨n,r,hl,hn,hN⟩:=nameLen_cut (l:=l) (fun e=>h1 (.inl e))
   have h2:Lib.hasPrefix (l.drop (nameLen l)) [61,34]=true:=by
    cases hp:Lib.hasPrefix (l.drop (nameLen l)) [61,34] with
    | true=>rfl
    | false=>exact (h1 (.inr hp)).elim
   rw [<-hn,hl,List.drop_left] at h2
   obtain ⟨t,rfl⟩:=prefix2 h2
   have h3:l.drop (nameLen l+2)=t:=by rw [<-hn,hl];simp
   rw [h3] at hv
   obtain ⟨a,r',rfl,ha,hA⟩:=value_cut _ t (Nat.le_refl _) v hv
   have hl':l=pairB n a ++ r':=by rw [hl];simp [pairB]
   exact ⟨n,a,r',hl',hN,hA,by rw [hl'];exact pair_of hN hA r'⟩
def PairsB (a:List UInt8):Prop:=∃ ps:List (List UInt8 × List UInt8),a=(ps.map fun p=>32 :: pairB p.1 p.2).flatten/\∀ p ∈ ps,NameB p.1/\ValB p.2
theorem PairsB.nil:PairsB []:=⟨[],rfl,fun _ h=>by simp at h⟩
theorem PairsB.more {n v t:List UInt8} (hn:NameB n) (hv:ValB v) (h:PairsB t):PairsB (32 :: (pairB n v ++ t)):=by
 obtain ⟨ps,rfl,hp⟩:=h
 exact ⟨(n,v) :: ps,rfl,fun u hm=>by rcases List.mem_cons.1 hm with rfl | hm;exact ⟨hn,hv⟩;exact hp u hm⟩
theorem PairsB.each {P:List UInt8->Prop} (h0:P []) (h1:∀ n v t,NameB n->ValB v->P t->P (32 :: (pairB n v ++ t))) {a:List UInt8} (h:PairsB a):P a:=by
 obtain ⟨ps,rfl,hp⟩:=h
 induction ps with
 | nil=>exact h0
 | cons p ps ih=>exact h1 p.1 p.2 _ (hp p (by simp)).1 (hp p (by simp)).2 (ih (fun v hv=>hp v (by simp [hv])))
theorem pairB_pos (n v:List UInt8):0 < (pairB n v).length:=by simp [pairB];omega
theorem pairs_of {a:List UInt8} (h:PairsB a) {r:List UInt8} (hr:Lib.hasPrefix r [32]=false):∀ f,(a ++ r).length < f->pairs f (a ++ r)=some a.length:=by
 refine PairsB.each (P:=fun a=>∀ f,(a ++ r).length < f->pairs f (a ++ r)=some a.length) ?_ ?_ h
 ·intro f hf;rw [List.nil_append] at hf ⊢;exact pairs_end hf hr
 ·intro n v t hn hv ih f hf
  have e:(32 :: (pairB n v ++ t) ++ r).drop 1=pairB n v ++ (t ++ r):=by simp
  have hp:pair ((32 :: (pairB n v ++ t) ++ r).drop 1)=(pairB n v).length:=by rw [e];exact pair_of hn hv _
  have h0:=pairB_pos n v
  rw [pairs_step hf (prefix_cons 32 _) (by omega),hp]
  rw [show (32 :: (pairB n v ++ t) ++ r).drop (1+(pairB n v).length)=t ++ r by rw [<-List.drop_drop,e,List.drop_left]]
  rw [ih f (by simp at hf ⊢;omega)]
  simp
  omega
theorem pairs_cut:∀ (f:Nat) (l:List UInt8) (k:Nat),l.length < f->pairs f l=some k->∃ a r,l=a ++ r/\PairsB a/\a.length=k/\Lib.hasPrefix r [32]=false:=by
 intro f
 induction f with
 | zero=>intro l k h;omega
 | succ f ih=>
  intro l k hf h
  cases hp:Lib.hasPrefix l [32] with
  | false=>
   rw [pairs_end hf hp] at h
   cases h
   exact ⟨[],l,rfl,.nil,rfl,hp⟩
  | true=>
   by_cases h0:pair (l.drop 1)=0
   ·rw [pairs_bad hf hp h0] at h;cases h
   ·unfold pairs at h
    rw [if_pos hp,if_neg h0] at h
    obtain ⟨x,hx,rfl⟩:=Option.map_eq_some_iff.1 h
    obtain ⟨t,rfl⟩:=prefix1 hp
    rw [show (32 :: t).drop 1=t from rfl] at h0 hx ⊢
    obtain ⟨n,v,r,rfl,hn,hv,hk⟩:=pair_cut h0
    rw [hk,<-List.drop_drop,show (32 :: (pairB n v ++ r)).drop 1=pairB n v ++ r from rfl,List.drop_left] at hx
    obtain ⟨a,r',rfl,hA,ha,hr⟩:=ih r x (by simp at hf;omega) hx
    exact ⟨32 :: (pairB n v ++ a),r',by simp,.more hn hv hA,by simp [ha,hk];omega,hr⟩
def ElemB (x:List UInt8 × List UInt8):Prop:=∃ ps,NameB x.1/\PairsB ps/\x.2=91 :: (x.1 ++ (ps ++ [93]))
theorem ElemB.pos {x:List UInt8 × List UInt8} (h:ElemB x):0 < x.2.length:=by obtain ⟨ps,_,_,e⟩:=h;rw [e];simp
theorem pairs_head {ps:List UInt8} (h:PairsB ps) (r:List UInt8):∃ c t,ps ++ 93 :: r=c :: t/\nmb c=false:=by
 refine PairsB.each (P:=fun ps=>∃ c t,ps ++ 93 :: r=c :: t/\nmb c=false) ?_ ?_ h
 ·exact ⟨93,r,rfl,by decide⟩
 ·intro n v t _ _ _
  exact ⟨32,_,rfl,by decide⟩
theorem element_of {x:List UInt8 × List UInt8} (h:ElemB x) (r:List UInt8):element (x.2 ++ r)=(x.1,x.2.length):=by
 obtain ⟨ps,hn,hps,e⟩:=h
 obtain ⟨n,b⟩:=x
 dsimp only at e hn ⊢
 subst e
 have e1:91 :: (n ++ (ps ++ [93])) ++ r=91 :: (n ++ (ps ++ 93 :: r)):=by simp
 rw [e1]
 obtain ⟨c,t,hct,hc⟩:=pairs_head hps r
 have hl:nameLen ((91 :: (n ++ (ps ++ 93 :: r))).drop 1)=n.length:=by
  rw [show (91 :: (n ++ (ps ++ 93 :: r))).drop 1=n ++ (ps ++ 93 :: r) from rfl,hct]
  exact nameLen_of hn hc t
 have h1:=hn.1
 unfold element
 rw [if_neg (by rw [prefix_cons];simp),hl,if_neg (by omega)]
 have hd:(91 :: (n ++ (ps ++ 93 :: r))).drop (1+n.length)=ps ++ 93 :: r:=by
  rw [<-List.drop_drop,show (91 :: (n ++ (ps ++ 93 :: r))).drop 1=n ++ (ps ++ 93 :: r) from rfl,List.drop_left]
 rw [hd,pairs_of hps (prefix_no r (by decide)) _ (by simp;omega)]
 dsimp only
 rw [<-List.drop_drop,hd,List.drop_left,if_neg (by rw [prefix_cons];simp)]
 simp
 omega
theorem element_cut {l:List UInt8} (h:¬ (element l).2=0):∃ x r,l=x.2 ++ r/\ElemB x/\element l=(x.1,x.2.length):=by
 have hE:=h
 unfold element at h
 split at h
 ·exact (h rfl).elim
 ·next h1=>
  split at h
  ·exact (h rfl).elim
  ·next h2=>
   split at h
   ·exact (h rfl).elim
   ·next k hk=>
    split at h
    ·exact (h rfl).elim
    ·next h3=>
     obtain ⟨t,rfl⟩:=prefix1 (by simpa using h1:Lib.hasPrefix l [91]=true)
     rw [show (91 :: t).drop 1=t from rfl] at h2 hk h3
     obtain ⟨n,r,rfl,hn,hN⟩:=nameLen_cut h2
     rw [<-hn] at hk h3
     have hd:(91 :: (n ++ r)).drop (1+n.length)=r:=by
      rw [<-List.drop_drop,show (91 :: (n ++ r)).drop 1=n ++ r from rfl,List.drop_left]
     rw [hd] at hk
     obtain ⟨ps,r',rfl,hP,hp,_⟩:=pairs_cut _ r k (by simp;omega) hk
     rw [<-hp,<-List.drop_drop,hd,List.drop_left] at h3
     obtain ⟨r'',rfl⟩:=prefix1 (by simpa using h3:Lib.hasPrefix r' [93]=true)
     have hx:ElemB (n,91 :: (n ++ (ps ++ [93]))):=⟨ps,hN,hP,rfl⟩
     have he:91 :: (n ++ (ps ++ 93 :: r''))=(91 :: (n ++ (ps ++ [93]))) ++ r'':=by simp
     refine ⟨_,r'',he,hx,?_⟩
     rw [he]
     exact element_of hx r''
def flat (bs:List (List UInt8 × List UInt8)):List UInt8:=(bs.map (·.2)).flatten
theorem flat_cons (b:List UInt8 × List UInt8) (bs:List (List UInt8 × List UInt8)):flat (b :: bs)=b.2 ++ flat bs:=rfl
theorem lastEnd_cons (x:List UInt8 × Nat) (es:List (List UInt8 × Nat)) (h:es ≠ []):lastEnd (x :: es)=lastEnd es:=by
 unfold lastEnd
 cases es with
 | nil=>exact (h rfl).elim
 | cons y ys=>rw [List.getLast?_cons_cons]
theorem elems_of:∀ (bs:List (List UInt8 × List UInt8)) (l:List UInt8) (e f:Nat) (r:List UInt8),(∀ b ∈ bs,ElemB b)->(element r).2=0->l.drop e=flat bs ++ r->e<=l.length->l.length < f+e ->
  (elems f l e).map (·.1)=bs.map (·.1)/\(elems f l e=[] ↔ bs=[])/\(bs ≠ []->lastEnd (elems f l e)=e+(flat bs).length)
 | [],l,e,f,r,_,hr,hl,he,hf=>by
  rw [show flat [] ++ r=r from rfl] at hl
  rw [elems_end hf he (by rw [hl];exact hr)]
  exact ⟨rfl,by simp,fun h=>(h rfl).elim⟩
 | b :: bs,l,e,f,r,hb,hr,hl,he,hf=>by
  rw [flat_cons,List.append_assoc] at hl
  have hE:element (l.drop e)=(b.1,b.2.length):=by rw [hl];exact element_of (hb b (by simp)) _
  have h0:=(hb b (by simp)).pos
  have h1:=congrArg List.length hl
  simp only [List.length_drop,List.length_append] at h1
  have hs:=elems_step hf he (by rw [hE];exact Nat.ne_of_gt h0)
  rw [hE] at hs
  dsimp only at hs
  have ih:=elems_of bs l (e+b.2.length) f r (fun c hc=>hb c (by simp [hc])) hr (by rw [<-List.drop_drop,hl,List.drop_left]) (by omega) (by omega)
  rw [hs]
  refine ⟨by simp [ih.1],by simp,fun _=>?_⟩
  by_cases hbs:bs=[]
  ·rw [ih.2.1.2 hbs,hbs]
   simp [lastEnd,flat]
  ·rw [lastEnd_cons _ _ (fun e=>hbs (ih.2.1.1 e)),ih.2.2 hbs,flat_cons]
   simp
   omega
theorem dataLen_of {bs:List (List UInt8 × List UInt8)} {r:List UInt8} (hb:∀ b ∈ bs,ElemB b) (hr:(element r).2=0) :
  dataLen (flat bs ++ r)=if (bs.map (·.1)).Nodup then (if plain (flat bs)=true then (flat bs).length else 0) else 0:=by
 have h:=elems_of bs (flat bs ++ r) 0 ((flat bs ++ r).length+1) r hb hr rfl (Nat.zero_le _) (by omega)
 have hl:lastEnd (elems ((flat bs ++ r).length+1) (flat bs ++ r) 0)=(flat bs).length:=by
  by_cases hbs:bs=[]
  ·rw [h.2.1.2 hbs,hbs];rfl
  ·rw [h.2.2 hbs];omega
 unfold dataLen dataOf
 rw [h.1,hl,List.take_left]
theorem split_data:∀ (n:Nat) (l:List UInt8),l.length<=n->∃ bs r,l=flat bs ++ r/\(∀ b ∈ bs,ElemB b)/\(element r).2=0:=by
 intro n
 induction n with
 | zero=>intro l hl;cases l with | nil=>exact ⟨[],[],rfl,by simp,rfl⟩ | cons a t=>simp at hl
 | succ n ih=>
  intro l hl
  by_cases h:(element l).2=0
  ·exact ⟨[],l,rfl,by simp,h⟩
  ·obtain ⟨x,r,rfl,hx,_⟩:=element_cut h
   have:=hx.pos
   obtain ⟨bs,r',rfl,hb,hr⟩:=ih r (by simp at hl;omega)
   exact ⟨x :: bs,r',by rw [flat_cons,List.append_assoc],fun b hbm=>by rcases List.mem_cons.1 hbm with rfl | h;exact hx;exact hb b h,hr⟩
def DataB (d:List UInt8):Prop:=∃ bs:List (List UInt8 × List UInt8),bs ≠ []/\d=flat bs/\(∀ b ∈ bs,ElemB b)/\(bs.map (·.1)).Nodup/\plain d=true
theorem DataB.head {d:List UInt8} (h:DataB d):∃ t,d=91 :: t:=by
 obtain ⟨bs,h0,rfl,hb,_,_⟩:=h
 cases bs with
 | nil=>exact (h0 rfl).elim
 | cons b bs=>obtain ⟨ps,_,_,e⟩:=hb b (by simp);rw [flat_cons,e];exact ⟨_,rfl⟩
theorem dataLen_data {d:List UInt8} (h:DataB d) {r:List UInt8} (hr:(element r).2=0):dataLen (d ++ r)=d.length:=by
 obtain ⟨bs,h0,rfl,hb,hn,hp⟩:=h
 rw [dataLen_of hb hr,if_pos hn,if_pos hp]
theorem element_none {r:List UInt8} (h:Lib.hasPrefix r [91]=false):(element r).2=0:=by
 unfold element
 rw [if_pos h]
theorem dataLen_cut {l:List UInt8} (h:¬ dataLen l=0):∃ d r,l=d ++ r/\DataB d/\dataLen l=d.length:=by
 obtain ⟨bs,r,rfl,hb,hr⟩:=split_data _ l (Nat.le_refl _)
 have hd:=dataLen_of hb hr
 by_cases h1:(bs.map (·.1)).Nodup
 ·by_cases h2:plain (flat bs)=true
  ·rw [if_pos h1,if_pos h2] at hd
   refine ⟨flat bs,r,rfl,⟨bs,?_,rfl,hb,h1,h2⟩,hd⟩
   rintro rfl
   exact h hd
  ·rw [if_pos h1,if_neg h2] at hd;exact (h hd).elim
 ·rw [if_neg h1] at hd;exact (h hd).elim
theorem isData_iff (d:List UInt8):isData d=true ↔ DataB d:=by
 constructor
 ·intro h
  unfold isData at h
  simp only [Bool.and_eq_true,Bool.not_eq_true',beq_iff_eq,List.isEmpty_eq_false_iff] at h
  have h0:¬ dataLen d=0:=by rw [h.2];exact fun e=>h.1 (List.length_eq_zero_iff.1 e)
  obtain ⟨a,r,rfl,ha,hl⟩:=dataLen_cut h0
  have:=h.2
  rw [hl,List.length_append] at this
  obtain rfl:r=[]:=List.length_eq_zero_iff.1 (by omega)
  rwa [List.append_nil]
 ·intro h
  obtain ⟨t,ht⟩:=h.head
  have:=dataLen_data h (r:=[]) rfl
  rw [List.append_nil] at this
  unfold isData
  rw [this,ht]
  simp
theorem toldOrData_data {d r:List UInt8} (h:DataB d) (hr:Lib.hasPrefix r [91]=false):toldOrData (d ++ r)=d.length:=by
 obtain ⟨t,rfl⟩:=h.head
 unfold toldOrData
 rw [if_neg (by rw [List.cons_append,prefix_no _ (by decide)];simp)]
 exact dataLen_data h (element_none hr)
end Go.Hm
namespace Go.Hm
theorem shp_ne {c s:UInt8} (h:shp c s=true) (hs:¬ s=32):¬ c=32:=by
 unfold shp at h
 split at h
 ·intro e;subst e;revert h;decide
 ·intro e;subst e;exact hs (by simpa using h)
theorem shape_len:∀ (t s:List UInt8),shape t s=true->t.length=s.length
 | [],[],_=>rfl
 | [],_ :: _,h=>by simp [shape] at h
 | _ :: _,[],h=>by simp [shape] at h
 | a :: t,b :: s,h=>by
  simp only [shape,Bool.and_eq_true] at h
  simp [shape_len t s h.2]
theorem shape_noblank {t s:List UInt8} (h:shape t s=true) (hs:32 ∉ s):32 ∉ t:=by
 intro hm
 obtain ⟨j,hj⟩:=List.getElem?_of_mem hm
 have hl:=shape_len t s h
 have hlt:j < s.length:=by rw [<-hl];exact (List.getElem?_eq_some_iff.1 hj).1
 exact shp_ne (shape_at t s h j 32 s[j] hj (List.getElem?_eq_getElem hlt)) (fun e=>hs (e ▸ List.getElem_mem hlt)) rfl
theorem trim_mem {l:List UInt8} {c x:UInt8} (h:x ∈ Lib.trimRightB l c):x ∈ l:=by
 unfold Lib.trimRightB at h
 have:=(List.dropWhile_suffix (fun y=>y == c) (l:=l.reverse)).subset (List.mem_reverse.1 h)
 simpa using this
theorem fraction_noblank (l:List UInt8):32 ∉ (fraction l).1:=by
 unfold fraction
 split
 ·simp
 ·next hp=>
  split
  ·simp
  ·dsimp only
   split
   ·simp
   ·intro hm
    have h1:=trim_mem hm
    obtain ⟨t,rfl⟩:=prefix1 (by simpa using hp:Lib.hasPrefix l [46]=true)
    rw [show (46 :: t).drop 1=t from rfl,Nat.add_comm,List.take_succ_cons] at h1
    rcases List.mem_cons.1 h1 with h | h
    ·exact absurd h (by decide)
    ·have:=ahead_cut dig 6 t 32 h
     exact absurd this (by decide)
theorem stampText_length (y mo d h mi s:Nat):(stampText y mo d h mi s).length=19:=by simp [stampText,d4,d2]
theorem readTime_parts {l t:List UInt8} (h:readTime l=some t):19<=l.length/\shape (l.take 19) momentShape=true/\∃ u,u.length=19/\t=u ++ (fraction (l.drop 19)).1 ++ [90]:=by
 unfold readTime at h
 split at h
 ·cases h
 ·next h1=>
  split at h
  ·cases h
  ·split at h
   ·cases h
   ·split at h
    ·cases h
    ·cases h
     refine ⟨by omega,?_,_,stampText_length _ _ _ _ _ _,rfl⟩
     cases hs:shape (l.take 19) momentShape with
     | true=>rfl
     | false=>exact (h1 (.inr hs)).elim
theorem isTime_read {t:List UInt8} (h:isTime t=true):readTime t=some t:=by simpa [isTime] using h
theorem isTime_noblank {t:List UInt8} (h:isTime t=true):32 ∉ t:=by
 obtain ⟨h1,h2,u,hu,ht⟩:=readTime_parts (isTime_read h)
 have hd:t.drop 19=(fraction (t.drop 19)).1 ++ [90]:=by
  conv=>lhs;rw [ht]
  rw [List.append_assoc,<-hu,List.drop_left]
 intro hm
 rw [<-List.take_append_drop 19 t] at hm
 rcases List.mem_append.1 hm with hm | hm
 ·exact shape_noblank h2 (by decide) hm
 ·rw [hd] at hm
  rcases List.mem_append.1 hm with hm | hm
  ·exact fraction_noblank _ hm
  ·exact absurd hm (by decide)
theorem isTime_len {t:List UInt8} (h:isTime t=true):19<=t.length:=(readTime_parts (isTime_read h)).1
theorem word_vis {w:List UInt8} {n:Nat} (h:word w n=true):¬ w=[]/\¬ w=[45]/\w.length<=n/\∀ c ∈ w,vis c=true:=by
 unfold word at h
 simp only [Bool.and_eq_true,Bool.not_eq_true',decide_eq_true_eq,List.all_eq_true] at h
 obtain ⟨⟨⟨h1,h2⟩,h3⟩,h4⟩:=h
 refine ⟨?_,?_,h3,h4⟩
 ·intro e;rw [e] at h1;exact absurd h1 (by decide)
 ·intro e;rw [e] at h2;exact absurd h2 (by decide)
theorem vis_noblank {w:List UInt8} (h:∀ c ∈ w,vis c=true):32 ∉ w:=fun hm=>absurd (h 32 hm) (by decide)
theorem part_at {a p r:List UInt8} (hp:32 ∉ p):part (a ++ (p ++ 32 :: r)) a.length=(p,a.length+p.length+1):=by
 unfold part
 rw [List.drop_left,cut_eq,cutB_app 32 p r hp]
 rfl
theorem wordsFrom_at:∀ (ks:List (Nat × Nat)) (ws:List (List UInt8)) (a r:List UInt8),ks.length=ws.length->wordsFault ks ws=none ->
  wordsFrom (a ++ ((ws.flatMap fun w=>told w ++ [32]) ++ r)) ks a.length=(none,ws,(a ++ (ws.flatMap fun w=>told w ++ [32])).length)
 | [],[],a,r,_,_=>by simp [wordsFrom]
 | [],_ :: _,_,_,h,_=>by simp at h
 | _ :: _,[],_,_,h,_=>by simp at h
 | k :: ks,w :: ws,a,r,hl,hf=>by
  unfold wordsFault at hf
  split at hf
  ·cases hf
  ·next hw=>
   have ht:32 ∉ told w:=by
    unfold told
    split
    ·decide
    ·next h0=>
     cases hq:word w k.1 with
     | false=>exact (hw ⟨h0,hq⟩).elim
     | true=>exact vis_noblank (word_vis hq).2.2.2
   have e:a ++ (((w :: ws).flatMap fun w=>told w ++ [32]) ++ r)=a ++ (told w ++ 32 :: ((ws.flatMap fun w=>told w ++ [32]) ++ r)):=by simp
   have e2:a ++ (told w ++ 32 :: ((ws.flatMap fun w=>told w ++ [32]) ++ r))=(a ++ (told w ++ [32])) ++ ((ws.flatMap fun w=>told w ++ [32]) ++ r):=by simp
   have hp:=part_at (a:=a) (r:=(ws.flatMap fun w=>told w ++ [32]) ++ r) ht
   have ih:=wordsFrom_at ks ws (a ++ (told w ++ [32])) r (by simpa using hl) hf
   have hlen:(a ++ (told w ++ [32])).length=a.length+(told w).length+1:=by simp;omega
   rw [hlen,<-e2] at ih
   rw [e]
   unfold wordsFrom
   rw [hp]
   dsimp only
   rw [ih]
   dsimp only
   by_cases h0:w=[]
   ·subst h0
    rw [if_pos (show told []=[45] from rfl)]
    simp
   ·have hq:word w k.1=true:=by
     cases hq:word w k.1 with
     | false=>exact (hw ⟨h0,hq⟩).elim
     | true=>rfl
    have htw:told w=w:=by unfold told;rw [if_neg h0]
    rw [htw,if_neg (word_vis hq).2.1,if_neg (by rw [hq];simp)]
    simp [htw]
theorem dig_of {n:Nat} (h:n < 10):dig (UInt8.ofNat (48+n))=true:=by
 rcases (by omega:n=0∨n=1∨n=2∨n=3∨n=4∨n=5∨n=6∨n=7∨n=8∨n=9) with h | h | h | h | h | h | h | h | h | h<;>subst h<;>rfl
theorem ofNat_digit {n:Nat} (h:n < 10):(UInt8.ofNat (48+n)).toNat - 48=n:=by
 rw [UInt8.toNat_ofNat']
 omega
theorem dd_digits:∀ n:Nat,∀ c ∈ Lib.decDigits n,dig c=true:=by
 intro n
 induction n using Nat.strongRecOn with
 | ind n ih=>
  intro c hc
  by_cases h:n < 10
  ·rw [dd1 h] at hc
   rw [List.mem_singleton.1 hc]
   exact dig_of h
  ·rw [dd2 h] at hc
   rcases List.mem_append.1 hc with hc | hc
   ·exact ih _ (by omega) c hc
   ·rw [List.mem_singleton.1 hc]
    exact dig_of (by omega)
theorem dd_dec:∀ n:Nat,dec (Lib.decDigits n)=n:=by
 intro n
 induction n using Nat.strongRecOn with
 | ind n ih=>
  by_cases h:n < 10
  ·rw [dd1 h]
   unfold dec
   simp only [List.foldl_cons,List.foldl_nil]
   rw [ofNat_digit h]
   omega
  ·rw [dd2 h,dec_snoc,ih _ (by omega),ofNat_digit (by omega)]
   omega
theorem dd_len3 {n:Nat} (h:n < 1000):(Lib.decDigits n).length<=3:=by
 by_cases h1:n < 100
 ·have:=dd_len2 h1;omega
 ·rw [dd2 (by omega)]
  have:=dd_len2 (n:=n / 10) (by omega)
  simp only [List.length_append,List.length_cons,List.length_nil];omega
theorem dd_pos (n:Nat):0 < (Lib.decDigits n).length:=by
 by_cases h:n < 10
 ·rw [dd1 h];simp
 ·rw [dd2 h];simp
theorem dd_head:∀ n:Nat,0 < n->∃ c t,Lib.decDigits n=c :: t/\dig c=true/\c ≠ 48:=by
 intro n
 induction n using Nat.strongRecOn with
 | ind n ih=>
  intro h0
  by_cases h:n < 10
  ·refine ⟨_,[],dd1 h,dig_of h,fun e=>?_⟩
   have:=ofNat_digit h
   rw [e] at this
   simp at this
   omega
  ·obtain ⟨c,t,hc,h1,h2⟩:=ih (n / 10) (by omega) (by omega)
   exact ⟨c,t ++ [UInt8.ofNat (48+n % 10)],by rw [dd2 h,hc];rfl,h1,h2⟩
theorem source_at {n:Nat} (h:n<=191) (r:List UInt8):source (60 :: (Lib.decDigits n ++ 62 :: r))=(n,1+(Lib.decDigits n).length+1):=by
 have hA:ahead dig 3 ((60 :: (Lib.decDigits n ++ 62 :: r)).drop 1)=(Lib.decDigits n).length:=
  ahead_of (dd_len3 (by omega)) (dd_digits n) (.inr (.inr ⟨62,r,rfl,by decide⟩))
 have hp:=dd_pos n
 unfold source
 rw [hA,if_neg (by rw [prefix_cons];simp),<-List.drop_drop,show (60 :: (Lib.decDigits n ++ 62 :: r)).drop 1=Lib.decDigits n ++ 62 :: r from rfl,List.drop_left,List.take_left,dd_dec]
 rw [if_neg (by rw [prefix_cons];rintro (h | h);omega;cases h),if_neg]
 rintro (⟨h1,h2⟩ | h1)
 ·by_cases h0:n=0
  ·subst h0
   rw [dd1 (by omega)] at h2
   simp at h2
  ·obtain ⟨c,t,hc,_,hne⟩:=dd_head n (by omega)
   rw [hc] at h1
   exact hne (UInt8.toNat_inj.1 (by simpa using h1))
 ·omega
structure Good (m:Msg):Prop where
 f0:0<=m.fac
 f1:m.fac < 24
 s0:0<=m.sev
 s1:m.sev < 8
 time:m.time=[]∨isTime m.time=true
 words:wordsFault kinds [m.host,m.app,m.proc,m.id]=none
 data:m.data=[]∨DataB m.data
 text:plain m.text=true
theorem good_iff (m:Msg):fault m=0 ↔ Good m:=by
 constructor
 ·intro h
  have hs:=fault_source h
  unfold fault at h
  split at h
  ·omega
  ·split at h
   ·omega
   ·next h2=>
    split at h
    ·next e he=>
     have:∀ (l:List (Nat × Nat)) (ws:List (List UInt8)) (e:Nat),(∀ k ∈ l,0 < k.2)->wordsFault l ws=some e->0 < e:=by
      intro l
      induction l with
      | nil=>intro ws e _ h;cases ws<;>cases h
      | cons k ks ih=>
       intro ws e hk h
       cases ws with
       | nil=>cases h
       | cons x xs=>
        unfold wordsFault at h
        split at h
        ·cases h;exact hk k (by simp)
        ·exact ih xs e (fun k' h'=>hk k' (by simp [h'])) h
     have:=this kinds _ e (by decide) he
     omega
    ·next hw=>
     split at h
     ·omega
     ·next h4=>
      split at h
      ·omega
      ·next h5=>
       refine ⟨hs.1,hs.2.1,hs.2.2.1,hs.2.2.2,?_,hw,?_,by simpa using h5⟩
       ·by_cases ht:m.time=[]
        ·exact .inl ht
        ·right
         cases hi:isTime m.time with
         | true=>rfl
         | false=>exact (h2 ⟨ht,hi⟩).elim
       ·by_cases ht:m.data=[]
        ·exact .inl ht
        ·right
         rw [<-isData_iff]
         cases hi:isData m.data with
         | true=>rfl
         | false=>exact (h4 ⟨ht,hi⟩).elim
 ·rintro ⟨h1,h2,h3,h4,h5,h6,h7,h8⟩
  unfold fault
  rw [if_neg (by simp [isSource,h1,h2,h3,h4]),if_neg,h6]
  ·dsimp only
   rw [if_neg,if_neg (by simp [h8])]
   rintro ⟨a,b⟩
   rcases h7 with h | h
   ·exact a h
   ·rw [(isData_iff _).2 h] at b;cases b
  ·rintro ⟨a,b⟩
   rcases h5 with h | h
   ·exact a h
   ·rw [h] at b;cases b
def tail (x:List UInt8):List UInt8:=if x=[] then [] else 32 :: x
theorem line_text {m:Msg}:Lib.join (partsOf m) [32] =
  60 :: (Lib.decDigits (8 * m.fac+m.sev).toNat ++ 62 :: ([49,32] ++ (told m.time ++ 32 :: (([m.host,m.app,m.proc,m.id].flatMap fun w=>told w ++ [32]) ++ (told m.data ++ tail m.text))))):=by
 unfold partsOf
 simp only [List.map_cons,List.map_nil]
 by_cases h:m.text=[]
 ·rw [if_pos h,tail,if_pos h]
  simp only [List.append_nil,join_cons2]
  simp [Lib.join,List.intercalate,List.intersperse]
 ·rw [if_neg h,tail,if_neg h]
  simp only [List.cons_append,List.nil_append,join_cons2]
  simp [Lib.join,List.intercalate,List.intersperse]
theorem dataText_at {m:Msg} (a d x:List UInt8) (h0:m.data=[]) (h1:m.text=[]) (hd:d=[]∨DataB d) (hx:plain x=true):dataText m (a ++ (told d ++ tail x)) a.length=({ m with data:=d,text:=x },0,0):=by
 have ht:toldOrData (told d ++ tail x)=(told d).length:=by
  rcases hd with rfl | hd
  ·unfold toldOrData
   rw [if_pos (by rw [show told []=[45] from rfl];exact prefix_of [45] _)]
   rfl
  ·obtain ⟨t,e⟩:=hd.head
   have:told d=d:=by unfold told;rw [if_neg (by rw [e];simp)]
   rw [this]
   refine toldOrData_data hd ?_
   unfold tail
   split
   ·rfl
   ·exact prefix_no _ (by decide)
 have h45:(told d=[45])=(d=[]):=by
  rcases hd with rfl | hd
  ·simp [told]
  ·obtain ⟨t,e⟩:=hd.head
   subst e
   simp [told]
 unfold dataText
 rw [List.drop_left,ht,List.take_left]
 have hpos:0 < (told d).length:=by
  unfold told
  split
  ·simp
  ·next h=>exact List.length_pos_iff.2 h
 rw [if_neg]
 ·by_cases hx0:x=[]
  ·subst hx0
   rw [if_pos (by simp [tail])]
   by_cases hd0:d=[]
   ·rw [if_pos (by rw [h45];exact hd0),hd0]
    cases m
    simp_all
   ·rw [if_neg (by rw [h45];exact hd0)]
    have:told d=d:=by unfold told;rw [if_neg hd0]
    rw [this]
    cases m
    simp_all
  ·have etail:tail x=32 :: x:=by unfold tail;rw [if_neg hx0]
   rw [if_neg (by rw [etail];simp)]
   have e2:(a ++ (told d ++ tail x)).drop (a.length+(told d).length+1)=x:=by
    rw [Nat.add_assoc,<-List.drop_drop,List.drop_left,<-List.drop_drop,List.drop_left,etail]
    rfl
   rw [e2,if_neg (by simp [hx])]
   by_cases hd0:d=[]
   ·rw [if_pos (by rw [h45];exact hd0),hd0]
    cases m
    simp_all
   ·rw [if_neg (by rw [h45];exact hd0)]
    have:told d=d:=by unfold told;rw [if_neg hd0]
    rw [this]
 ·rintro (h | ⟨h,h'⟩)
  ·omega
  ·refine h' ?_
   by_cases hx0:x=[]
   ·subst hx0
    simp [tail] at h
   ·have etail:tail x=32 :: x:=by unfold tail;rw [if_neg hx0]
    rw [etail,List.getD_eq_getElem?_getD,List.getElem?_append_right (by omega),Nat.add_sub_cancel_left,List.getElem?_append_right (by omega),Nat.sub_self]
    rfl
theorem line_lenL {m:Msg} (h:(line m).2=0):(line m).1.length<=200:=by
 unfold line at h ⊢
 by_cases h0:fault m=0
 ·rw [if_neg (by simp [h0])] at h ⊢
  by_cases h1:200 < joinedLen (partsOf m)
  ·rw [if_pos h1] at h;cases h
  ·rw [if_neg h1]
   unfold partsOf at h1 ⊢
   rw [<-join_length] at h1
   dsimp only
   omega
 ·rw [if_pos (by simpa using h0)];simp
theorem read_line {m:Msg} (h:(line m).2=0) {y:Int} (hy:isYear y=true):read (line m).1 y=(m,0,0):=by
 have hlen:=line_lenL h
 have hf:fault m=0:=by
  unfold line at h
  split at h
  ·exact h
  ·next hf=>exact Classical.not_not.1 hf
 have hg:=(good_iff m).1 hf
 have e1:(line m).1=Lib.join (partsOf m) [32]:=by
  unfold line at h ⊢
  rw [if_neg (by simp [hf])] at h ⊢
  split at h
  ·cases h
  ·next hh=>rw [if_neg hh]
 rw [e1] at hlen ⊢
 rw [line_text] at hlen ⊢
 generalize hn:(8 * m.fac+m.sev).toNat=n at hlen ⊢
 obtain ⟨f0,f1,s0,s1,ht,hw,hd,hx⟩:=hg
 have hn1:n<=191:=by omega
 have hs:=source_at hn1 ([49,32] ++ (told m.time ++ 32 :: (([m.host,m.app,m.proc,m.id].flatMap fun w=>told w ++ [32]) ++ (told m.data ++ tail m.text))))
 unfold read
 rw [if_neg (by omega),if_neg (by rw [hy];simp),hs]
 dsimp only
 have ed:∀ r:List UInt8,(60 :: (Lib.decDigits n ++ 62 :: r)).drop (1+(Lib.decDigits n).length+1)=r:=by
  intro r
  rw [show 1+(Lib.decDigits n).length+1=1+((Lib.decDigits n).length+1) by omega,<-List.drop_drop,show (60 :: (Lib.decDigits n ++ 62 :: r)).drop 1=Lib.decDigits n ++ 62 :: r from rfl,<-List.drop_drop,List.drop_left]
  rfl
 rw [ed,if_pos ⟨by omega,prefix_of _ _⟩]
 have htb:32 ∉ told m.time:=by
  rcases ht with h | h
  ·rw [h];decide
  ·unfold told;split
   ·decide
   ·exact isTime_noblank h
 obtain ⟨a,ha⟩:∃ a:List UInt8,a=60 :: (Lib.decDigits n ++ 62 :: [49,32]):=⟨_,rfl⟩
 have hal:1+(Lib.decDigits n).length+1+2=a.length:=by rw [ha];simp;omega
 have ea:∀ r:List UInt8,60 :: (Lib.decDigits n ++ 62 :: ([49,32] ++ r))=a ++ r:=by intro r;rw [ha];simp
 rw [ea,hal]
 have htm:timeOf (told m.time)=some m.time:=by
  unfold timeOf
  rcases ht with h | h
  ·rw [h];rfl
  ·have h19:=isTime_len h
   have h0:¬ m.time=[]:=fun e=>by rw [e] at h19;simp at h19
   have:told m.time=m.time:=by unfold told;rw [if_neg h0]
   rw [this,if_neg (fun e=>by rw [e] at h19;simp at h19),isTime_read h]
 rw [readNew_some (part_at htb) htm]
 have e3:∀ r:List UInt8,a ++ (told m.time ++ 32 :: r)=(a ++ (told m.time ++ [32])) ++ r:=by intro r;simp
 have hl3:a.length+(told m.time).length+1=(a ++ (told m.time ++ [32])).length:=by simp;omega
 rw [e3,hl3]
 generalize a ++ (told m.time ++ [32])=b
 have hwf:=wordsFrom_at kinds [m.host,m.app,m.proc,m.id] b (told m.data ++ tail m.text) rfl hw
 rw [afterTime_ok (by rw [hwf]),hwf]
 dsimp only
 rw [<-List.append_assoc b,dataText_at _ _ _ rfl rfl hd hx]
 simp only [List.getD_cons_zero,List.getD_cons_succ]
 have e8:(n:Int) / 8=m.fac:=by omega
 have e9:(n:Int) % 8=m.sev:=by omega
 rw [e8,e9]
end Go.Hm
namespace Go.Hm
theorem tgb_vis {c:UInt8} (h:tgb c=true):vis c=true:=by
 simp only [tgb,letr,dig,vis,Bool.or_eq_true,Bool.and_eq_true,decide_eq_true_eq,beq_iff_eq] at h ⊢
 omega
def FracB (fr:List UInt8):Prop:=fr=[]∨∃ ds c,fr=46 :: (ds ++ [c])/\(∀ x ∈ ds,dig x=true)/\dig c=true/\ds.length+1<=6/\c ≠ 48
theorem trimR_snoc (l:List UInt8) {c d:UInt8} (h:¬ d=c):Lib.trimRightB (l ++ [d]) c=l ++ [d]:=by
 unfold Lib.trimRightB
 simp [h]
theorem fraction_of {fr z:List UInt8} (h:FracB fr) (hz:∃ c t,z=c :: t/\dig c=false/\¬ c=46):fraction (fr ++ z)=(fr,z):=by
 obtain ⟨c,t,rfl,hc,h46⟩:=hz
 rcases h with rfl | ⟨ds,d,rfl,h1,h2,h3,h4⟩
 ·unfold fraction
  rw [List.nil_append,if_pos (prefix_no t h46)]
 ·have hA:ahead dig 6 ((46 :: (ds ++ [d]) ++ c :: t).drop 1)=(ds ++ [d]).length:=
   ahead_of (by simp;omega) (fun x hx=>by rcases List.mem_append.1 hx with hx | hx;exact h1 x hx;rw [List.mem_singleton.1 hx];exact h2) (.inr (.inr ⟨c,t,rfl,hc⟩))
  have hT:(46 :: (ds ++ [d]) ++ c :: t).take (1+(ds ++ [d]).length)=46 :: (ds ++ [d]):=by
   rw [Nat.add_comm,List.cons_append,List.take_succ_cons,List.take_left]
  have hD:(46 :: (ds ++ [d]) ++ c :: t).drop (1+(ds ++ [d]).length)=c :: t:=by
   rw [Nat.add_comm,List.cons_append,List.drop_succ_cons,List.drop_left]
  unfold fraction
  rw [hA,if_neg (by rw [List.cons_append,prefix_cons];simp),if_neg (by simp),hT,hD]
  rw [show (46 :: (ds ++ [d]):List UInt8)=(46 :: ds) ++ [d] from rfl,trimR_snoc _ h4,if_neg (by simp)]
theorem dec_d2 {n:Nat} (h:n < 100):dec (d2 n)=n:=by
 unfold dec d2
 simp only [List.foldl_cons,List.foldl_nil]
 rw [ofNat_digit (by omega),ofNat_digit (by omega)]
 omega
theorem dec_d4 {n:Nat} (h:n < 10000):dec (d4 n)=n:=by
 unfold dec d4 d2
 simp only [List.cons_append,List.nil_append,List.foldl_cons,List.foldl_nil]
 rw [ofNat_digit (by omega),ofNat_digit (by omega),ofNat_digit (by omega),ofNat_digit (by omega)]
 omega
theorem shp_dig {c:UInt8} (h:dig c=true):shp c 48=true:=by simp [shp,h]
theorem stampText_shape {y mo d h mi s:Nat} (hy:y < 10000) (hmo:mo < 100) (hd:d < 100) (hh:h < 100) (hmi:mi < 100) (hs:s < 100):shape (stampText y mo d h mi s) momentShape=true:=by
 simp only [stampText,d4,d2,momentShape,List.cons_append,List.nil_append,shape,Bool.and_eq_true]
 have hg:∀ n:Nat,n < 10->shp (UInt8.ofNat (48+n)) 48=true:=fun n hn=>shp_dig (dig_of hn)
 refine ⟨hg _ (by omega),hg _ (by omega),hg _ (by omega),hg _ (by omega),rfl,hg _ (by omega),hg _ (by omega),rfl,hg _ (by omega),hg _ (by omega),rfl,hg _ (by omega),hg _ (by omega),rfl,hg _ (by omega),hg _ (by omega),rfl,hg _ (by omega),hg _ (by omega),trivial⟩
theorem num_stamp (y mo d h mi s:Nat) (r:List UInt8):num (stampText y mo d h mi s ++ r) 0 4=dec (d4 y)/\num (stampText y mo d h mi s ++ r) 5 7=dec (d2 mo)/\num (stampText y mo d h mi s ++ r) 8 10=dec (d2 d) /\
  num (stampText y mo d h mi s ++ r) 11 13=dec (d2 h)/\num (stampText y mo d h mi s ++ r) 14 16=dec (d2 mi)/\num (stampText y mo d h mi s ++ r) 17 19=dec (d2 s):=by
 refine ⟨rfl,rfl,rfl,rfl,rfl,rfl⟩
theorem readTime_at {y mo d h mi s:Nat} {fr z:List UInt8} {k:Int} (he:exists_ y mo d h mi s=true) (hf:FracB fr) (hz:∃ c t,z=c :: t/\dig c=false/\¬ c=46) (hk:difference z=some k) :
  readTime (stampText y mo d h mi s ++ (fr ++ z))=if isYear (earlier y mo d h mi k).1.1=false then none else
   some (stampText (earlier y mo d h mi k).1.1.toNat (earlier y mo d h mi k).1.2.1.toNat (earlier y mo d h mi k).1.2.2.toNat ((earlier y mo d h mi k).2 / 60).toNat ((earlier y mo d h mi k).2 % 60).toNat s ++ fr ++ [90]):=by
 have hb:=exists_bd he
 have hl:=stampText_length y mo d h mi s
 obtain ⟨n1,n2,n3,n4,n5,n6⟩:=num_stamp y mo d h mi s (fr ++ z)
 rw [dec_d4 (by omega)] at n1
 rw [dec_d2 (by omega)] at n2 n3 n4 n5 n6
 unfold readTime
 rw [n1,n2,n3,n4,n5,n6]
 have ht:(stampText y mo d h mi s ++ (fr ++ z)).take 19=stampText y mo d h mi s:=by rw [<-hl,List.take_left]
 have hd':(stampText y mo d h mi s ++ (fr ++ z)).drop 19=fr ++ z:=by rw [<-hl,List.drop_left]
 rw [ht,hd',fraction_of hf hz]
 rw [if_neg]
 ·dsimp only
  rw [hk]
  dsimp only
  rw [if_neg (by rw [he];simp)]
 ·rintro (h1 | h1)
  ·simp only [List.length_append] at h1;omega
  ·rw [stampText_shape (by omega) (by omega) (by omega) (by omega) (by omega) (by omega)] at h1;cases h1
theorem earlier_zero {y mo d h mi:Int} (h0:0<=60 * h+mi) (h1:60 * h+mi < 1440):earlier y mo d h mi 0=((y,mo,d),60 * h+mi):=by
 unfold earlier
 rw [if_neg (by omega),if_neg (by omega)]
 simp
theorem isTime_at {y mo d h mi s:Nat} {fr:List UInt8} (he:exists_ y mo d h mi s=true) (hf:FracB fr):isTime (stampText y mo d h mi s ++ (fr ++ [90]))=true:=by
 have hb:=exists_bd he
 have h1:=readTime_at (z:=[90]) (k:=0) he hf ⟨90,[],rfl,by decide,by decide⟩ (by unfold difference;rw [if_pos rfl])
 rw [earlier_zero (by omega) (by omega)] at h1
 dsimp only at h1
 rw [if_neg (by simp [isYear];omega)] at h1
 have e1:((60 * (h:Int)+mi) / 60).toNat=h:=by omega
 have e2:((60 * (h:Int)+mi) % 60).toNat=mi:=by omega
 rw [e1,e2] at h1
 simp only [Int.toNat_natCast] at h1
 unfold isTime
 rw [h1]
 simp
end Go.Hm
namespace Go.Hm
theorem read_long {l:List UInt8} {y:Int} (h:200 < l.length):read l y=(Msg.none,1,0):=by
 unfold read
 rw [if_pos h]
end Go.Hm
namespace Go.Hm
def IsDay (x:Int × Int × Int):Prop:=1<=x.1/\x.1<=9999/\1<=x.2.1/\x.2.1<=12/\1<=x.2.2/\x.2.2<=daysOf x.1 x.2.1
open Go.Op (bytesLess)
end Go.Hm
namespace Go.Hm
abbrev Rec:=UInt8 × List UInt8
def recB (r:Rec):List UInt8:=writeRec r.1 r.2
def flatR (rs:List Rec):List UInt8:=(rs.map recB).flatten
theorem flatR_nil:flatR []=[]:=rfl
theorem flatR_cons (r:Rec) (rs:List Rec):flatR (r :: rs)=recB r ++ flatR rs:=rfl
theorem flatR_append (a b:List Rec):flatR (a ++ b)=flatR a ++ flatR b:=by simp [flatR]
theorem recB_length (r:Rec):(recB r).length=r.2.length+5:=writeRec_length _ _
def SmallR (rs:List Rec):Prop:=∀ r ∈ rs,r.2.length < 65536
theorem readRec_some {l:List UInt8} {k:UInt8} {bs:List UInt8} {n:Nat} (h:readRec l=some (k,bs,n)):n=bs.length+5/\bs.length < 65536/\∃ t,l=writeRec k bs ++ t:=by
 unfold readRec at h
 split at h
 ·cases h
 ·next h1=>
  split at h
  ·cases h
  ·next h2=>
   split at h
   ·cases h
   ·next h3=>
    have h3':(l.drop (3+numB (l.drop 1))).take 2=check (l.take (3+numB (l.drop 1))):=Classical.not_not.1 h3
    simp only [Option.some.injEq,Prod.mk.injEq] at h
    obtain ⟨rfl,rfl,rfl⟩:=h
    obtain ⟨k,a,b,t,rfl⟩:∃ k a b t,l=k :: a :: b :: t:=by
     match l,h1 with
     | [],h1=>exact absurd (by simp) h1
     | [_],h1=>exact absurd (by simp) h1
     | [_,_],h1=>exact absurd (by simp) h1
     | k :: a :: b :: t,_=>exact ⟨k,a,b,t,rfl⟩
    ·clear h1
     have hn:numB ((k :: a :: b :: t).drop 1)=256 * a.toNat+b.toNat:=rfl
     rw [hn] at h2 h3' ⊢
     have ha:=a.toNat_lt
     have hb:=b.toNat_lt
     generalize hm:256 * a.toNat+b.toNat=m at h2 h3'
     simp only [List.length_cons] at h2
     have hlen:(((k :: a :: b :: t).drop 3).take m).length=m:=by simp;omega
     have h2b:twoB m=[a,b]:=by
      unfold twoB
      have e1:UInt8.ofNat (m / 256)=a:=UInt8.toNat_inj.1 (by rw [UInt8.toNat_ofNat'];omega)
      have e2:UInt8.ofNat m=b:=UInt8.toNat_inj.1 (by rw [UInt8.toNat_ofNat'];omega)
      rw [e1,e2]
     refine ⟨by rw [hlen];omega,by rw [hlen];omega,t.drop (m+2),?_⟩
     have hah:aheadRec ((k :: a :: b :: t).getD 0 0) (((k :: a :: b :: t).drop 3).take m)=(k :: a :: b :: t).take (3+m):=by
      unfold aheadRec
      rw [hlen,h2b,Nat.add_comm 3 m]
      rfl
     unfold writeRec
     rw [hah,<-h3',Nat.add_comm 3 m]
     show k :: a :: b :: t=(k :: a :: b :: t.take m) ++ ((t.drop m).take 2) ++ t.drop (m+2)
     rw [List.append_assoc,<-List.drop_drop,List.take_append_drop]
     simp
theorem again_line {m:Msg} (h:(line m).2=0):again (line m).1=true:=by
 have hr:=read_line h (y:=1) (by decide)
 unfold again
 rw [hr]
 simp only [decide_true,Bool.true_and,decide_eq_true_eq]
 rw [<-h]
theorem back_text {g:Lg} {r:Rec} (h:(g.back r).2=true) (hs:r.2.length < 65536):(g.back r).1.records=g.records ++ recB r:=by
 unfold Lg.back at h ⊢
 split
 ·next h1=>
  rw [if_pos h1] at h
  split
  ·show g.records ++ writeRec 80 r.2=g.records ++ writeRec r.1 r.2
   rw [h1]
  ·next h2=>rw [if_neg h2] at h;cases h
 ·next h1=>
  rw [if_neg h1] at h
  split
  ·next h3=>
   rw [if_pos h3] at h
   split
   ·next h4=>
    obtain ⟨h5,h6⟩:=h4
    unfold Lg.ack at h6 ⊢
    split
    ·next h7=>rw [if_pos h7] at h6;cases h6
    ·next h7=>
     show g.records ++ writeRec 65 (twoB ((numB r.2:Int)).toNat)=_
     have:twoB (numB r.2)=r.2:=by
      obtain ⟨k,bs⟩:=r
      match bs,h5 with
      | [a,b],_=>
       have ha:=a.toNat_lt
       have hb:=b.toNat_lt
       show [UInt8.ofNat ((256 * a.toNat+b.toNat) / 256),UInt8.ofNat (256 * a.toNat+b.toNat)]=[a,b]
       have e1:UInt8.ofNat ((256 * a.toNat+b.toNat) / 256)=a:=UInt8.toNat_inj.1 (by rw [UInt8.toNat_ofNat'];omega)
       have e2:UInt8.ofNat (256 * a.toNat+b.toNat)=b:=UInt8.toNat_inj.1 (by rw [UInt8.toNat_ofNat'];omega)
       rw [e1,e2]
     rw [Int.toNat_natCast,this,<-h3]
     rfl
   ·next h4=>rw [if_neg h4] at h;cases h
  ·next h3=>rw [if_neg h3] at h;cases h
theorem recs_text:∀ (f:Nat) (l:List UInt8),SmallR (recsF f l)/\∃ t,l=flatR (recsF f l) ++ t
 | 0,l=>⟨fun _ h=>by simp [recsF] at h,l,rfl⟩
 | f+1,l=>by
  unfold recsF
  cases h:readRec l with
  | none=>exact ⟨fun _ h=>by simp at h,l,rfl⟩
  | some x=>
   obtain ⟨k,bs,n⟩:=x
   obtain ⟨hn,hb,t,rfl⟩:=readRec_some h
   dsimp only
   have hd:(writeRec k bs ++ t).drop n=t:=by rw [hn,<-writeRec_length k bs,List.drop_left]
   rw [hd]
   obtain ⟨h1,u,h2⟩:=recs_text f t
   refine ⟨fun q hq=>by rcases List.mem_cons.1 hq with rfl | hq;exact hb;exact h1 q hq,u,?_⟩
   rw [flatR_cons,List.append_assoc,<-h2]
   rfl
end Go.Hm
namespace Go.Hm
def contv:Nat->List UInt8->Nat->Option Nat
 | 0,_,c=>some c
 | _+1,[],_=>none
 | n+1,b :: t,c=>if b.toNat < 128∨191 < b.toNat then none else contv n t (64 * c+b.toNat - 128)
def lead (b:Nat):Option (Nat × Nat × Nat):=
 if 192<=b/\b < 224 then some (1,128,b - 192) else if 224<=b/\b < 240 then some (2,2048,b - 224) else if 240<=b/\b < 248 then some (3,65536,b - 240) else none
def runeBad (least v:Nat):Bool:=decide (v < least) || decide (1114111 < v) || (decide (55296<=v) && decide (v<=57343))
theorem plain_low {b:UInt8} {t:List UInt8} (h:b.toNat < 32∨b.toNat=127):plain (b :: t)=false:=by
 have:low b=true:=by simp [low];omega
 unfold plain
 simp [this]
theorem plain_asc {b:UInt8} {t:List UInt8} (h:¬ (b.toNat < 32∨b.toNat=127)) (h2:b.toNat < 128):plain (b :: t)=plain t:=by
 have:low b=false:=by simp [low];omega
 unfold plain
 rw [Lib.validD_cons b t h2]
 simp [this]
theorem low_cont {b:UInt8} (h:128<=b.toNat):low b=false:=by simp [low];omega
theorem plain_go {b:UInt8} {t:List UInt8} {k:Nat} (hb:128<=b.toNat) (hv:Lib.validD (b :: t)=Lib.validD (t.drop k)) (hk:∀ c ∈ t.take k,128<=c.toNat):plain (b :: t)=plain (t.drop k):=by
 unfold plain
 rw [hv]
 congr 1
 rw [List.all_cons,low_cont hb]
 conv=>lhs;rw [<-List.take_append_drop k t]
 rw [List.all_append]
 have:(t.take k).all (fun c=>!low c)=true:=by
  rw [List.all_eq_true]
  intro c hc
  rw [low_cont (hk c hc)]
  rfl
 rw [this]
 simp
theorem plain_no {b:UInt8} {t:List UInt8} (hv:Lib.validD (b :: t)=false):plain (b :: t)=false:=by unfold plain;rw [hv];simp
def goN (l:List UInt8):Option Nat->Bool
 | none=>false
 | some k=>Lib.validD (l.drop k)
set_option maxHeartbeats 4000000 in
theorem plain_lead (b:UInt8) (t:List UInt8) (hb:128<=b.toNat):plain (b :: t)=match lead b.toNat with
  | none=>false
  | some (n,least,c)=>match contv n t c with
   | none=>false
   | some v=>if runeBad least v=true then false else plain (t.drop n):=by
 have hL:Lib.validD (b :: t)=goN (b :: t) (Lib.checkN (b :: t).length ((b :: t).getD 1 0).toNat ((b :: t).getD 2 0).toNat ((b :: t).getD 3 0).toNat (Lib.firstT ((b :: t).getD 0 0).toNat % 8) (Lib.accLo (Lib.firstT ((b :: t).getD 0 0).toNat / 16)) (Lib.accHi (Lib.firstT ((b :: t).getD 0 0).toNat / 16))):=by
  rw [Lib.validD_lead (b :: t) (by simp) (by simpa using hb)]
  split
  ·next e=>rw [e];rfl
  ·next e=>rw [e];rfl
 rw [show (b :: t).getD 0 0=b from rfl,show (b :: t).getD 1 0=t.getD 0 0 from rfl,show (b :: t).getD 2 0=t.getD 1 0 from rfl,show (b :: t).getD 3 0=t.getD 2 0 from rfl] at hL
 have hb256:=b.toNat_lt
 have key:∀ sz lo hi,Lib.firstT b.toNat % 8=sz->Lib.accLo (Lib.firstT b.toNat / 16)=lo->Lib.accHi (Lib.firstT b.toNat / 16)=hi ->
   Lib.validD (b :: t)=goN (b :: t) (Lib.checkN (b :: t).length (t.getD 0 0).toNat (t.getD 1 0).toNat (t.getD 2 0).toNat sz lo hi):=by
  intro sz lo hi h1 h2 h3
  rw [hL,h1,h2,h3]
 by_cases c0:b.toNat < 192
 ·have:lead b.toNat=none:=by unfold lead;rw [if_neg (by omega),if_neg (by omega),if_neg (by omega)]
  rw [this]
  dsimp only
  refine plain_no ?_
  have hf:Lib.firstT b.toNat=241:=by unfold Lib.firstT;(repeat' split)<;>omega
  rw [hL,hf]
  rfl
 by_cases c1:b.toNat < 224
 ·have hl:lead b.toNat=some (1,128,b.toNat - 192):=by unfold lead;rw [if_pos (by omega)]
  rw [hl]
  dsimp only
  by_cases c2:b.toNat < 194
  ·have hf:Lib.firstT b.toNat=241:=by unfold Lib.firstT;(repeat' split)<;>omega
   have hv:Lib.validD (b :: t)=false:=by rw [hL,hf];rfl
   rw [plain_no hv]
   cases t with
   | nil=>rfl
   | cons x r=>
    have hx:=x.toNat_lt
    simp only [contv]
    by_cases h:x.toNat < 128∨191 < x.toNat
    ·rw [if_pos h]
    ·rw [if_neg h]
     dsimp only
     rw [if_pos]
     simp [runeBad]
     omega
  ·have hf:Lib.firstT b.toNat=2:=by unfold Lib.firstT;(repeat' split)<;>omega
   have hv:=key 2 128 191 (by rw [hf]) (by rw [hf];rfl) (by rw [hf];rfl)
   cases t with
   | nil=>rw [plain_no (by rw [hv];rfl)];rfl
   | cons x r=>
    have hx:=x.toNat_lt
    simp only [contv]
    unfold Lib.checkN at hv
    rw [if_pos rfl] at hv
    simp only [List.getD_cons_zero,List.length_cons] at hv
    by_cases h:x.toNat < 128∨191 < x.toNat
    ·rw [if_pos h]
     dsimp only
     refine plain_no ?_
     rw [hv,if_pos (by omega)]
     rfl
    ·rw [if_neg (by omega)] at hv
     rw [if_neg h]
     dsimp only
     rw [if_neg]
     ·exact plain_go hb hv (fun c hc=>by simp at hc;subst hc;omega)
     ·simp [runeBad]
      omega
 by_cases c3:b.toNat < 240
 ·have hl:lead b.toNat=some (2,2048,b.toNat - 224):=by unfold lead;rw [if_neg (by omega),if_pos (by omega)]
  rw [hl]
  dsimp only
  obtain ⟨lo,hi,hv,hlo⟩:∃ lo hi,(Lib.validD (b :: t)=goN (b :: t) (Lib.checkN (b :: t).length (t.getD 0 0).toNat (t.getD 1 0).toNat (t.getD 2 0).toNat 3 lo hi))/\((b.toNat=224/\lo=160/\hi=191)∨(b.toNat=237/\lo=128/\hi=159)∨(b.toNat ≠ 224/\b.toNat ≠ 237/\lo=128/\hi=191)):=by
   by_cases d0:b.toNat=224
   ·have hf:Lib.firstT b.toNat=19:=by rw [d0];rfl
    exact ⟨160,191,key 3 160 191 (by rw [hf]) (by rw [hf];rfl) (by rw [hf];rfl),.inl ⟨d0,rfl,rfl⟩⟩
   ·by_cases d1:b.toNat=237
    ·have hf:Lib.firstT b.toNat=35:=by rw [d1];rfl
     exact ⟨128,159,key 3 128 159 (by rw [hf]) (by rw [hf];rfl) (by rw [hf];rfl),.inr (.inl ⟨d1,rfl,rfl⟩)⟩
    ·have hf:Lib.firstT b.toNat=3:=by unfold Lib.firstT;(repeat' split)<;>omega
     exact ⟨128,191,key 3 128 191 (by rw [hf]) (by rw [hf];rfl) (by rw [hf];rfl),.inr (.inr ⟨d0,d1,rfl,rfl⟩)⟩
  unfold Lib.checkN at hv
  rw [if_neg (by omega),if_pos rfl] at hv
  match t,hv with
  | [],hv=>rw [plain_no (by rw [hv,if_pos (by simp)];rfl)];rfl
  | [x],hv=>
   rw [plain_no (by rw [hv,if_pos (by simp)];rfl)]
   simp only [contv]
   by_cases h:x.toNat < 128∨191 < x.toNat
   ·rw [if_pos h]
   ·rw [if_neg h]
  | x :: y :: r,hv=>
   have hx:=x.toNat_lt
   have hy:=y.toNat_lt
   simp only [List.getD_cons_zero,List.getD_cons_succ,List.length_cons] at hv
   simp only [contv]
   by_cases h:x.toNat < 128∨191 < x.toNat
   ·rw [if_pos h];exact plain_no (by rw [hv,if_pos (by omega)];rfl)
   ·rw [if_neg h]
    by_cases h2:y.toNat < 128∨191 < y.toNat
    ·rw [if_pos h2];exact plain_no (by rw [hv,if_pos (by omega)];rfl)
    ·rw [if_neg h2]
     dsimp only
     by_cases hbad:x.toNat < lo∨hi < x.toNat
     ·rw [plain_no (by rw [hv,if_pos (by omega)];rfl),if_pos]
      simp [runeBad]
      omega
     ·rw [if_neg (by omega)] at hv
      rw [if_neg]
      ·exact plain_go (k:=2) hb hv (fun c hc=>by simp at hc;rcases hc with rfl | rfl<;>omega)
      ·simp [runeBad]
       omega
 by_cases c4:b.toNat < 248
 ·have hl:lead b.toNat=some (3,65536,b.toNat - 240):=by unfold lead;rw [if_neg (by omega),if_neg (by omega),if_pos (by omega)]
  rw [hl]
  dsimp only
  by_cases c5:244 < b.toNat
  ·have hf:Lib.firstT b.toNat=241:=by unfold Lib.firstT;(repeat' split)<;>omega
   have hv:Lib.validD (b :: t)=false:=by rw [hL,hf];rfl
   rw [plain_no hv]
   match t with
   | []=>rfl
   | [x]=>
    simp only [contv]
    by_cases h:x.toNat < 128∨191 < x.toNat
    ·rw [if_pos h]
    ·rw [if_neg h]
   | [x,y]=>
    simp only [contv]
    by_cases h:x.toNat < 128∨191 < x.toNat
    ·rw [if_pos h]
    ·rw [if_neg h]
     by_cases h2:y.toNat < 128∨191 < y.toNat
     ·rw [if_pos h2]
     ·rw [if_neg h2]
   | x :: y :: z :: r=>
    have hx:=x.toNat_lt
    have hy:=y.toNat_lt
    have hz:=z.toNat_lt
    simp only [contv]
    by_cases h:x.toNat < 128∨191 < x.toNat
    ·rw [if_pos h]
    ·rw [if_neg h]
     by_cases h2:y.toNat < 128∨191 < y.toNat
     ·rw [if_pos h2]
     ·rw [if_neg h2]
      by_cases h3:z.toNat < 128∨191 < z.toNat
      ·rw [if_pos h3]
      ·rw [if_neg h3]
       dsimp only
       rw [if_pos]
       simp [runeBad]
       omega
  ·obtain ⟨lo,hi,hv,hlo⟩:∃ lo hi,(Lib.validD (b :: t)=goN (b :: t) (Lib.checkN (b :: t).length (t.getD 0 0).toNat (t.getD 1 0).toNat (t.getD 2 0).toNat 4 lo hi))/\((b.toNat=240/\lo=144/\hi=191)∨(b.toNat=244/\lo=128/\hi=143)∨(b.toNat ≠ 240/\b.toNat ≠ 244/\lo=128/\hi=191)):=by
    by_cases d0:b.toNat=240
    ·have hf:Lib.firstT b.toNat=52:=by rw [d0];rfl
     exact ⟨144,191,key 4 144 191 (by rw [hf]) (by rw [hf];rfl) (by rw [hf];rfl),.inl ⟨d0,rfl,rfl⟩⟩
    ·by_cases d1:b.toNat=244
     ·have hf:Lib.firstT b.toNat=68:=by rw [d1];rfl
      exact ⟨128,143,key 4 128 143 (by rw [hf]) (by rw [hf];rfl) (by rw [hf];rfl),.inr (.inl ⟨d1,rfl,rfl⟩)⟩
     ·have hf:Lib.firstT b.toNat=4:=by unfold Lib.firstT;(repeat' split)<;>omega
      exact ⟨128,191,key 4 128 191 (by rw [hf]) (by rw [hf];rfl) (by rw [hf];rfl),.inr (.inr ⟨d0,d1,rfl,rfl⟩)⟩
   unfold Lib.checkN at hv
   rw [if_neg (by omega),if_neg (by omega),if_pos rfl] at hv
   match t,hv with
   | [],hv=>rw [plain_no (by rw [hv,if_pos (by simp)];rfl)];rfl
   | [x],hv=>
    rw [plain_no (by rw [hv,if_pos (by simp)];rfl)]
    simp only [contv]
    by_cases h:x.toNat < 128∨191 < x.toNat
    ·rw [if_pos h]
    ·rw [if_neg h]
   | [x,y],hv=>
    rw [plain_no (by rw [hv,if_pos (by simp)];rfl)]
    simp only [contv]
    by_cases h:x.toNat < 128∨191 < x.toNat
    ·rw [if_pos h]
    ·rw [if_neg h]
     by_cases h2:y.toNat < 128∨191 < y.toNat
     ·rw [if_pos h2]
     ·rw [if_neg h2]
   | x :: y :: z :: r,hv=>
    have hx:=x.toNat_lt
    have hy:=y.toNat_lt
    have hz:=z.toNat_lt
    simp only [List.getD_cons_zero,List.getD_cons_succ,List.length_cons] at hv
    simp only [contv]
    by_cases h:x.toNat < 128∨191 < x.toNat
    ·rw [if_pos h];exact plain_no (by rw [hv,if_pos (by omega)];rfl)
    ·rw [if_neg h]
     by_cases h2:y.toNat < 128∨191 < y.toNat
     ·rw [if_pos h2];exact plain_no (by rw [hv,if_pos (by omega)];rfl)
     ·rw [if_neg h2]
      by_cases h3:z.toNat < 128∨191 < z.toNat
      ·rw [if_pos h3];exact plain_no (by rw [hv,if_pos (by omega)];rfl)
      ·rw [if_neg h3]
       dsimp only
       by_cases hbad:x.toNat < lo∨hi < x.toNat
       ·rw [plain_no (by rw [hv,if_pos (by omega)];rfl),if_pos]
        simp [runeBad]
        omega
       ·rw [if_neg (by omega)] at hv
        rw [if_neg]
        ·exact plain_go (k:=3) hb hv (fun c hc=>by simp at hc;rcases hc with rfl | rfl | rfl<;>omega)
        ·simp [runeBad]
         omega
 ·have:lead b.toNat=none:=by unfold lead;rw [if_neg (by omega),if_neg (by omega),if_neg (by omega)]
  rw [this]
  dsimp only
  refine plain_no ?_
  have hf:Lib.firstT b.toNat=241:=by unfold Lib.firstT;(repeat' split)<;>omega
  rw [hL,hf]
  rfl
end Go.Hm
namespace Go.Hm
def rdigits (l:List UInt8) (a n:Nat):Nat × Bool:=if a+n<=l.length/\1<=n/\((l.drop a).take n).all dig=true then (dec ((l.drop a).take n),true) else (0,false)
def rlength (y m:Int):Int:=if m=2 then (if leap y=true then 29 else 28) else if m=4∨m=6∨m=9∨m=11 then 30 else 31
theorem rlength_eq {y m:Int} (h1:1<=m) (h2:m<=12):rlength y m=daysOf y m:=by
 unfold rlength daysOf
 rcases (by omega:m=1∨m=2∨m=3∨m=4∨m=5∨m=6∨m=7∨m=8∨m=9∨m=10∨m=11∨m=12) with h | h | h | h | h | h | h | h | h | h | h | h<;>subst h
 case inr.inl=>
  rw [if_pos rfl]
  cases leap y<;>rfl
 all_goals (first | rfl | (simp [monthDays]))
def risDay (y m d:Int):Bool:=decide (1<=y) && decide (y<=9999) && decide (1<=m) && decide (m<=12) && decide (1<=d) && decide (d<=daysOf y m)
theorem risDay_iff (y m d:Int):risDay y m d=true ↔ IsDay (y,m,d):=by
 simp only [risDay,Bool.and_eq_true,decide_eq_true_eq,IsDay]
 constructor
 ·rintro ⟨⟨⟨⟨⟨a,b⟩,c⟩,d⟩,e⟩,f⟩;exact ⟨a,b,c,d,e,f⟩
 ·rintro ⟨a,b,c,d,e,f⟩;exact ⟨⟨⟨⟨⟨a,b⟩,c⟩,d⟩,e⟩,f⟩
def rday (y m d sec:Int):(Int × Int × Int) × Int:=
 if sec < 0 then (dayBefore y m d,sec+86400) else if 86400<=sec then (dayAfter y m d,sec - 86400) else ((y,m,d),sec)
def rshifted (y m d sec:Int):Option (List UInt8):=
 if (rday y m d sec).1.1 < 1∨9999 < (rday y m d sec).1.1 then none else
 some (stampText (rday y m d sec).1.1.toNat (rday y m d sec).1.2.1.toNat (rday y m d sec).1.2.2.toNat ((rday y m d sec).2 / 3600).toNat ((rday y m d sec).2 / 60 % 60).toNat ((rday y m d sec).2 % 60).toNat)
def rclock (l:List UInt8) (a:Nat):Option Nat:=
 if (rdigits l a 2).2=false∨(rdigits l (a+3) 2).2=false∨(rdigits l (a+6) 2).2=false∨¬ (l.getD (a+2) 0).toNat=58∨¬ (l.getD (a+5) 0).toNat=58∨23 < (rdigits l a 2).1∨59 < (rdigits l (a+3) 2).1∨59 < (rdigits l (a+6) 2).1 then none else
 some (3600 * (rdigits l a 2).1+60 * (rdigits l (a+3) 2).1+(rdigits l (a+6) 2).1)
def rpart (l:List UInt8):Option (List UInt8 × Nat):=
 if (l.getD 19 0).toNat=46 then (if (l.drop 20).takeWhile dig=[]∨6 < ((l.drop 20).takeWhile dig).length then none else some (Lib.trimRightB ((l.drop 20).takeWhile dig) 48,20+((l.drop 20).takeWhile dig).length)) else some ([],19)
def rdiff (z:List UInt8):Option Int:=
 if z=[90] then some 0 else
 if ¬ z.length=6∨(¬ (z.getD 0 0).toNat=43/\¬ (z.getD 0 0).toNat=45)∨¬ (z.getD 3 0).toNat=58 then none else
 if (rdigits z 1 2).2=false∨(rdigits z 4 2).2=false∨23 < (rdigits z 1 2).1∨59 < (rdigits z 4 2).1 then none else
 if (z.getD 0 0).toNat=43 then some (60 * (rdigits z 1 2).1+(rdigits z 4 2).1:Int) else some (-(60 * (rdigits z 1 2).1+(rdigits z 4 2).1:Int))
def rtime (l:List UInt8):Option (List UInt8):=
 if l.length < 20∨¬ (l.getD 4 0).toNat=45∨¬ (l.getD 7 0).toNat=45∨¬ (l.getD 10 0).toNat=84 then none else
 match rclock l 11 with
 | none=>none
 | some sec=>
  if (rdigits l 0 4).2=false∨(rdigits l 5 2).2=false∨(rdigits l 8 2).2=false∨risDay (rdigits l 0 4).1 (rdigits l 5 2).1 (rdigits l 8 2).1=false then none else
  match rpart l with
  | none=>none
  | some pt=>
   match rdiff (l.drop pt.2) with
   | none=>none
   | some k=>
    match rshifted (rdigits l 0 4).1 (rdigits l 5 2).1 (rdigits l 8 2).1 (sec - 60 * k) with
    | none=>none
    | some t=>some (t ++ (if pt.1=[] then [] else 46 :: pt.1) ++ [90])
theorem rdigits_ok {l:List UInt8} {a n:Nat} (h:(rdigits l a n).2=true):a+n<=l.length/\(∀ c ∈ (l.drop a).take n,dig c=true)/\(rdigits l a n).1=dec ((l.drop a).take n):=by
 unfold rdigits at h ⊢
 split
 ·next h1=>exact ⟨h1.1,by simpa using h1.2.2,rfl⟩
 ·next h1=>rw [if_neg h1] at h;cases h
theorem rdigits_of {l:List UInt8} {a n:Nat} (h1:a+n<=l.length) (hn:1<=n) (h:∀ c ∈ (l.drop a).take n,dig c=true):rdigits l a n=(dec ((l.drop a).take n),true):=by
 unfold rdigits
 rw [if_pos ⟨h1,hn,by simpa using h⟩]
theorem shape_iff:∀ (t s:List UInt8),shape t s=true ↔ t.length=s.length/\∀ j,j < s.length->shp (t.getD j 0) (s.getD j 0)=true
 | [],[]=>by simp [shape]
 | [],_ :: _=>by simp [shape]
 | _ :: _,[]=>by simp [shape]
 | a :: t,b :: s=>by
  simp only [shape,Bool.and_eq_true,shape_iff t s,List.length_cons,Nat.add_right_cancel_iff]
  constructor
  ·rintro ⟨h1,h2,h3⟩
   refine ⟨h2,fun j hj=>?_⟩
   cases j with
   | zero=>exact h1
   | succ j=>exact h3 j (by omega)
  ·rintro ⟨h1,h2⟩
   exact ⟨h2 0 (by omega),h1,fun j hj=>h2 (j+1) (by omega)⟩
theorem shp_48 {c:UInt8}:shp c 48=dig c:=by simp [shp]
theorem shp_ne48 {c s:UInt8} (h:¬ s=48):shp c s=true ↔ c.toNat=s.toNat:=by
 unfold shp
 rw [if_neg h,beq_iff_eq,<-UInt8.toNat_inj]
 exact eq_comm
theorem getD_take {l:List UInt8} {n j:Nat} (h:j < n):(l.take n).getD j 0=l.getD j 0:=by
 rw [List.getD_eq_getElem?_getD,List.getD_eq_getElem?_getD,List.getElem?_take,if_pos h]
theorem digits_iff {l:List UInt8} {a n:Nat} (h:a+n<=l.length):(∀ c ∈ (l.drop a).take n,dig c=true) ↔ ∀ j,a<=j->j < a+n->dig (l.getD j 0)=true:=by
 constructor
 ·intro hd j h1 h2
  refine hd _ ?_
  have:((l.drop a).take n)[j - a]?=some (l.getD j 0):=by
   rw [List.getElem?_take,if_pos (by omega),List.getElem?_drop,show a+(j - a)=j by omega,List.getElem?_eq_getElem (by omega),List.getD_eq_getElem?_getD,List.getElem?_eq_getElem (by omega)]
   rfl
  exact List.mem_of_getElem? this
 ·intro hd c hc
  obtain ⟨i,hi⟩:=List.getElem?_of_mem hc
  rw [List.getElem?_take] at hi
  split at hi
  ·rw [List.getElem?_drop] at hi
   have:=hd (a+i) (by omega) (by omega)
   rw [List.getD_eq_getElem?_getD,hi] at this
   exact this
  ·cases hi
theorem moment_iff {l:List UInt8} (h:19<=l.length):shape (l.take 19) momentShape=true ↔
  (rdigits l 0 4).2=true/\(rdigits l 5 2).2=true/\(rdigits l 8 2).2=true/\(rdigits l 11 2).2=true/\(rdigits l 14 2).2=true/\(rdigits l 17 2).2=true /\
  (l.getD 4 0).toNat=45/\(l.getD 7 0).toNat=45/\(l.getD 10 0).toNat=84/\(l.getD 13 0).toNat=58/\(l.getD 16 0).toNat=58:=by
 have hlen:(l.take 19).length=19:=by simp;omega
 have hr:∀ a n,a+n<=19->1<=n->((rdigits l a n).2=true ↔ ∀ j,a<=j->j < a+n->dig (l.getD j 0)=true):=by
  intro a n h1 h2
  rw [<-digits_iff (by omega)]
  constructor
  ·intro hh;exact (rdigits_ok hh).2.1
  ·intro hh;rw [rdigits_of (by omega) h2 hh]
 rw [hr 0 4 (by omega) (by omega),hr 5 2 (by omega) (by omega),hr 8 2 (by omega) (by omega),hr 11 2 (by omega) (by omega),hr 14 2 (by omega) (by omega),hr 17 2 (by omega) (by omega),shape_iff]
 have e:∀ j,j < 19->(l.take 19).getD j 0=l.getD j 0:=fun j hj=>getD_take hj
 constructor
 ·rintro ⟨_,hj⟩
  have hd:∀ j,j < 19->momentShape.getD j 0=48->dig (l.getD j 0)=true:=by
   intro j h1 h2
   have:=hj j h1
   rw [h2,e j h1,shp_48] at this
   exact this
  have hc:∀ j,j < 19->¬ momentShape.getD j 0=48->(l.getD j 0).toNat=(momentShape.getD j 0).toNat:=by
   intro j h1 h2
   have:=hj j h1
   rw [e j h1,shp_ne48 h2] at this
   exact this
  refine ⟨?_,?_,?_,?_,?_,?_,hc 4 (by decide) (by decide),hc 7 (by decide) (by decide),hc 10 (by decide) (by decide),hc 13 (by decide) (by decide),hc 16 (by decide) (by decide)⟩
  all_goals
   intro j h1 h2
   refine hd j (by omega) ?_
  ·rcases (by omega:j=0∨j=1∨j=2∨j=3) with h | h | h | h<;>subst h<;>rfl
  ·rcases (by omega:j=5∨j=6) with h | h<;>subst h<;>rfl
  ·rcases (by omega:j=8∨j=9) with h | h<;>subst h<;>rfl
  ·rcases (by omega:j=11∨j=12) with h | h<;>subst h<;>rfl
  ·rcases (by omega:j=14∨j=15) with h | h<;>subst h<;>rfl
  ·rcases (by omega:j=17∨j=18) with h | h<;>subst h<;>rfl
 ·rintro ⟨a1,a2,a3,a4,a5,a6,b1,b2,b3,b4,b5⟩
  refine ⟨hlen,fun j hj=>?_⟩
  have hj':j < 19:=hj
  rw [e j hj']
  have hD:dig (l.getD j 0)=true->momentShape.getD j 0=48->shp (l.getD j 0) (momentShape.getD j 0)=true:=fun h1 h2=>by rw [h2,shp_48];exact h1
  have hC:∀ c:UInt8,momentShape.getD j 0=c->¬ c=48->(l.getD j 0).toNat=c.toNat->shp (l.getD j 0) (momentShape.getD j 0)=true:=fun c h1 h2 h3=>by rw [h1];exact (shp_ne48 h2).2 h3
  rcases (by omega:j=0∨j=1∨j=2∨j=3∨j=4∨j=5∨j=6∨j=7∨j=8∨j=9∨j=10∨j=11∨j=12∨j=13∨j=14∨j=15∨j=16∨j=17∨j=18) with h | h | h | h | h | h | h | h | h | h | h | h | h | h | h | h | h | h | h<;>subst h
  ·exact hD (a1 _ (by omega) (by omega)) rfl
  ·exact hD (a1 _ (by omega) (by omega)) rfl
  ·exact hD (a1 _ (by omega) (by omega)) rfl
  ·exact hD (a1 _ (by omega) (by omega)) rfl
  ·exact hC 45 rfl (by decide) b1
  ·exact hD (a2 _ (by omega) (by omega)) rfl
  ·exact hD (a2 _ (by omega) (by omega)) rfl
  ·exact hC 45 rfl (by decide) b2
  ·exact hD (a3 _ (by omega) (by omega)) rfl
  ·exact hD (a3 _ (by omega) (by omega)) rfl
  ·exact hC 84 rfl (by decide) b3
  ·exact hD (a4 _ (by omega) (by omega)) rfl
  ·exact hD (a4 _ (by omega) (by omega)) rfl
  ·exact hC 58 rfl (by decide) b4
  ·exact hD (a5 _ (by omega) (by omega)) rfl
  ·exact hD (a5 _ (by omega) (by omega)) rfl
  ·exact hC 58 rfl (by decide) b5
  ·exact hD (a6 _ (by omega) (by omega)) rfl
  ·exact hD (a6 _ (by omega) (by omega)) rfl
theorem diff_iff {z:List UInt8} (h:z.length=6) (sg:UInt8) (hs:¬ sg=48):shape z [sg,48,48,58,48,48]=true ↔ (z.getD 0 0).toNat=sg.toNat/\(z.getD 3 0).toNat=58/\(rdigits z 1 2).2=true/\(rdigits z 4 2).2=true:=by
 obtain ⟨a,b,c,d,e,f,rfl⟩:∃ a b c d e f,z=[a,b,c,d,e,f]:=by
  match z,h with
  | [a,b,c,d,e,f],_=>exact ⟨a,b,c,d,e,f,rfl⟩
 have r1:(rdigits [a,b,c,d,e,f] 1 2).2=true ↔ dig b=true/\dig c=true:=by
  unfold rdigits
  simp only [List.drop_succ_cons,List.drop_zero,List.take_succ_cons,List.take_zero,List.all_cons,List.all_nil,Bool.and_true,List.length_cons,List.length_nil,Bool.and_eq_true]
  split
  ·next h=>exact ⟨fun _=>h.2.2,fun _=>rfl⟩
  ·next h=>exact ⟨fun e=>(by cases e),fun e=>(h ⟨by omega,by omega,e⟩).elim⟩
 have r2:(rdigits [a,b,c,d,e,f] 4 2).2=true ↔ dig e=true/\dig f=true:=by
  unfold rdigits
  simp only [List.drop_succ_cons,List.drop_zero,List.take_succ_cons,List.take_zero,List.all_cons,List.all_nil,Bool.and_true,List.length_cons,List.length_nil,Bool.and_eq_true]
  split
  ·next h=>exact ⟨fun _=>h.2.2,fun _=>rfl⟩
  ·next h=>exact ⟨fun e=>(by cases e),fun e=>(h ⟨by omega,by omega,e⟩).elim⟩
 rw [r1,r2]
 simp only [shape,Bool.and_eq_true,Bool.and_true,List.getD_cons_zero,List.getD_cons_succ,shp_48,shp_ne48 hs,shp_ne48 (show ¬ (58:UInt8)=48 by decide)]
 constructor
 ·rintro ⟨h1,h2,h3,h4,h5,h6⟩;exact ⟨h1,h4,⟨h2,h3⟩,h5,h6⟩
 ·rintro ⟨h1,h4,⟨h2,h3⟩,h5,h6⟩;exact ⟨h1,h2,h3,h4,h5,h6⟩
theorem rdiff_eq (z:List UInt8):rdiff z=difference z:=by
 unfold rdiff difference
 by_cases h0:z=[90]
 ·rw [if_pos h0,if_pos h0]
 ·rw [if_neg h0,if_neg h0]
  by_cases h6:z.length=6
  ·have hp:=diff_iff h6 43 (by decide)
   have hm:=diff_iff h6 45 (by decide)
   rw [show plusShape=[43,48,48,58,48,48] from rfl,show minusShape=[45,48,48,58,48,48] from rfl]
   by_cases hd:((z.getD 0 0).toNat=43∨(z.getD 0 0).toNat=45)/\(z.getD 3 0).toNat=58/\(rdigits z 1 2).2=true/\(rdigits z 4 2).2=true
   ·obtain ⟨hs,h3,d1,d2⟩:=hd
    have e1:=(rdigits_ok d1).2.2
    have e2:=(rdigits_ok d2).2.2
    rw [if_neg (by omega),d1,d2,e1,e2]
    rw [if_neg (c:=shape z [43,48,48,58,48,48]=false/\shape z [45,48,48,58,48,48]=false)]
    ·by_cases hr:23 < dec ((z.drop 1).take 2)∨59 < dec ((z.drop 4).take 2)
     ·rw [if_pos hr,if_pos (by simpa using hr)]
     ·rw [if_neg hr,if_neg (by simpa using hr)]
      by_cases hq:(z.getD 0 0).toNat=43
      ·rw [if_pos hq,if_neg (by omega)]
      ·rw [if_neg hq,if_pos (by omega)]
    ·rintro ⟨n1,n2⟩
     rcases hs with hs | hs
     ·rw [hp.2 ⟨hs,h3,d1,d2⟩] at n1;cases n1
     ·rw [hm.2 ⟨hs,h3,d1,d2⟩] at n2;cases n2
   ·have n1:shape z [43,48,48,58,48,48]=false:=by
     cases hq:shape z [43,48,48,58,48,48] with
     | false=>rfl
     | true=>have:=hp.1 hq;exact (hd ⟨.inl this.1,this.2⟩).elim
    have n2:shape z [45,48,48,58,48,48]=false:=by
     cases hq:shape z [45,48,48,58,48,48] with
     | false=>rfl
     | true=>have:=hm.1 hq;exact (hd ⟨.inr this.1,this.2⟩).elim
    rw [if_pos (c:=shape z [43,48,48,58,48,48]=false/\shape z [45,48,48,58,48,48]=false) ⟨n1,n2⟩]
    by_cases hx:¬ z.length=6∨(¬ (z.getD 0 0).toNat=43/\¬ (z.getD 0 0).toNat=45)∨¬ (z.getD 3 0).toNat=58
    ·rw [if_pos hx]
    ·rw [if_neg hx,if_pos]
     by_cases q1:(rdigits z 1 2).2=false
     ·exact .inl q1
     ·by_cases q2:(rdigits z 4 2).2=false
      ·exact .inr (.inl q2)
      ·exact (hd ⟨by omega,by omega,by simpa using q1,by simpa using q2⟩).elim
  ·have n1:shape z plusShape=false:=by
    cases hq:shape z plusShape with
    | false=>rfl
    | true=>exact (h6 (shape_len _ _ hq)).elim
   have n2:shape z minusShape=false:=by
    cases hq:shape z minusShape with
    | false=>rfl
    | true=>exact (h6 (shape_len _ _ hq)).elim
   rw [if_pos (.inl h6),if_pos ⟨n1,n2⟩]
end Go.Hm
namespace Go.Hm
theorem rdiff_lead {z:List UInt8} {c:UInt8} {t:List UInt8} (hz:z=c :: t) (h1:¬ c.toNat=90) (h2:¬ c.toNat=43) (h3:¬ c.toNat=45):rdiff z=none:=by
 subst hz
 unfold rdiff
 rw [if_neg (by intro e;injection e with e _;exact h1 (by rw [e];rfl)),if_pos (.inr (.inl ⟨by simpa using h2,by simpa using h3⟩))]
theorem tw_take {p:UInt8->Bool}:∀ (b:Nat) (l:List UInt8),((l.take b).takeWhile p)=(l.takeWhile p).take b
 | 0,l=>by simp
 | b+1,[]=>by simp
 | b+1,a :: t=>by
  rw [List.take_succ_cons,List.takeWhile_cons,List.takeWhile_cons]
  split
  ·rw [List.take_succ_cons,tw_take b t]
  ·simp
theorem tw_pre (p:UInt8->Bool) (l:List UInt8):l.takeWhile p=l.take (l.takeWhile p).length:=List.prefix_iff_eq_take.1 (List.takeWhile_prefix p)
theorem trim_dot (t:List UInt8):Lib.trimRightB (46 :: t) 48=46 :: Lib.trimRightB t 48:=by
 unfold Lib.trimRightB
 rw [List.reverse_cons]
 have:∀ r:List UInt8,(r ++ [46]).dropWhile (· == 48)=r.dropWhile (· == 48) ++ [46]:=by
  intro r
  induction r with
  | nil=>rfl
  | cons a r ih=>
   rw [List.cons_append,List.dropWhile_cons,List.dropWhile_cons]
   split
   ·exact ih
   ·rfl
 rw [this,List.reverse_append]
 rfl
theorem has_dot (l:List UInt8) (h:20<=l.length):Lib.hasPrefix (l.drop 19) [46]=decide ((l.getD 19 0).toNat=46):=by
 have e:l.drop 19=l[19] :: l.drop 20:=List.drop_eq_getElem_cons (by omega)
 have g:l.getD 19 0=l[19]:=by rw [List.getD_eq_getElem?_getD,List.getElem?_eq_getElem (by omega)];rfl
 rw [e,g]
 by_cases hc:l[19].toNat=46
 ·have:l[19]=46:=UInt8.toNat_inj.1 (by simpa using hc)
  rw [this]
  simp [Lib.hasPrefix]
 ·have:¬ l[19]=46:=fun e=>hc (by rw [e];rfl)
  rw [decide_eq_false hc]
  have hb:((46:UInt8) == l[19])=false:=beq_eq_false_iff_ne.2 (fun e=>this e.symm)
  simp only [Lib.hasPrefix,List.isPrefixOf,hb,Bool.false_and]
theorem frac_eq (l:List UInt8) (h:20<=l.length):(match rpart l with
  | none=>rdiff (fraction (l.drop 19)).2=none
  | some pt=>(fraction (l.drop 19)).1=(if pt.1=[] then [] else 46 :: pt.1)/\(fraction (l.drop 19)).2=l.drop pt.2):=by
 have hd:=has_dot l h
 have e19:l.drop 19=l[19] :: l.drop 20:=List.drop_eq_getElem_cons (by omega)
 have g19:l.getD 19 0=l[19]:=by rw [List.getD_eq_getElem?_getD,List.getElem?_eq_getElem (by omega)];rfl
 by_cases hc:(l.getD 19 0).toNat=46
 rotate_left
 ·rw [decide_eq_false hc] at hd
  have hr1:rpart l=some ([],19):=by unfold rpart;rw [if_neg hc]
  have hf1:fraction (l.drop 19)=([],l.drop 19):=by unfold fraction;rw [if_pos hd]
  rw [hr1,hf1]
  exact ⟨rfl,rfl⟩
 rw [decide_eq_true hc] at hd
 have hd20:(l.drop 19).drop 1=l.drop 20:=by rw [List.drop_drop]
 obtain ⟨D,hD⟩:∃ D,(l.drop 20).takeWhile dig=D:=⟨_,rfl⟩
 have ha:ahead dig 6 (l.drop 20)=min 6 D.length:=by
  unfold ahead
  rw [tw_take,List.length_take,hD]
 have hr:rpart l=if D=[]∨6 < D.length then none else some (Lib.trimRightB D 48,20+D.length):=by unfold rpart;rw [if_pos hc,hD]
 have hfr:fraction (l.drop 19)=if ahead dig 6 (l.drop 20)=0 then ([],l.drop 19) else
   (if Lib.trimRightB ((l.drop 19).take (1+ahead dig 6 (l.drop 20))) 48=[46] then [] else Lib.trimRightB ((l.drop 19).take (1+ahead dig 6 (l.drop 20))) 48,(l.drop 19).drop (1+ahead dig 6 (l.drop 20))):=by
  unfold fraction
  rw [if_neg (by rw [hd];simp),hd20]
 by_cases h0:D=[]
 ·have hr1:rpart l=none:=by rw [hr,if_pos (.inl h0)]
  have hf1:fraction (l.drop 19)=([],l.drop 19):=by rw [hfr,if_pos (by rw [ha,h0];rfl)]
  rw [hr1,hf1]
  show rdiff (l.drop 19)=none
  refine rdiff_lead e19 ?_ ?_ ?_<;>rw [<-g19]<;>omega
 have hpos:0 < D.length:=List.length_pos_iff.2 h0
 by_cases h6:6 < D.length
 ·have hr1:rpart l=none:=by rw [hr,if_pos (.inr h6)]
  have ha6:ahead dig 6 (l.drop 20)=6:=by rw [ha];omega
  have hf1:(fraction (l.drop 19)).2=l.drop 26:=by rw [hfr,if_neg (by rw [ha];omega),ha6,List.drop_drop]
  rw [hr1]
  show rdiff (fraction (l.drop 19)).2=none
  rw [hf1]
  have hl26:26 < l.length:=by
   have:=congrArg List.length (tw_pre dig (l.drop 20))
   rw [hD,List.length_take,List.length_drop] at this
   omega
  have hdg:dig l[26]=true:=by
   have hm:l[26] ∈ (l.drop 20).takeWhile dig:=by
    rw [tw_pre dig (l.drop 20),hD]
    rw [List.mem_iff_getElem]
    refine ⟨6,by rw [List.length_take,List.length_drop];omega,?_⟩
    rw [List.getElem_take,List.getElem_drop]
   have hall:∀ (x:List UInt8),∀ c ∈ x.takeWhile dig,dig c=true:=by
    intro x
    induction x with
    | nil=>intro c hc;simp at hc
    | cons a t ih=>
     intro c hc
     rw [List.takeWhile_cons] at hc
     split at hc
     ·next hp=>
      rcases List.mem_cons.1 hc with hc | hc
      ·rw [hc];exact hp
      ·exact ih c hc
     ·simp at hc
   exact hall _ _ hm
  have hdg2:48<=l[26].toNat/\l[26].toNat<=57:=by simpa [dig] using hdg
  exact rdiff_lead (List.drop_eq_getElem_cons hl26) (by omega) (by omega) (by omega)
 ·have hr1:rpart l=some (Lib.trimRightB D 48,20+D.length):=by rw [hr,if_neg (by intro h;rcases h with h | h;exact h0 h;exact h6 h)]
  have ha':ahead dig 6 (l.drop 20)=D.length:=by rw [ha];omega
  have htk:(l.drop 19).take (1+D.length)=46 :: D:=by
   rw [e19,show 1+D.length=D.length+1 by omega,List.take_succ_cons]
   congr 1
   ·exact UInt8.toNat_inj.1 (by rw [<-g19,hc];rfl)
   ·conv=>rhs;rw [<-hD,tw_pre dig (l.drop 20),hD]
  have hf1:fraction (l.drop 19)=(if 46 :: Lib.trimRightB D 48=[46] then [] else 46 :: Lib.trimRightB D 48,l.drop (20+D.length)):=by
   rw [hfr,if_neg (by rw [ha];omega),ha',htk,trim_dot,List.drop_drop,show 19+(1+D.length)=20+D.length by omega]
  rw [hr1,hf1]
  refine ⟨?_,rfl⟩
  dsimp only
  by_cases ht:Lib.trimRightB D 48=[]
  ·rw [if_pos (by rw [ht]),if_pos ht]
  ·rw [if_neg (by intro e;injection e with _ e;exact ht e),if_neg ht]
theorem rday_earlier (y m d h mi s k:Int) (hs:0<=s) (hs2:s < 60):rday y m d (3600 * h+60 * mi+s - 60 * k)=((earlier y m d h mi k).1,60 * (earlier y m d h mi k).2+s):=by
 unfold rday earlier
 by_cases h1:60 * h+mi - k < 0
 ·rw [if_pos (by omega),if_pos h1]
  dsimp only
  congr 1
  omega
 ·rw [if_neg (by omega),if_neg h1]
  by_cases h2:1440<=60 * h+mi - k
  ·rw [if_pos (by omega),if_pos h2]
   dsimp only
   congr 1
   omega
  ·rw [if_neg (by omega),if_neg h2]
   dsimp only
   congr 1
   omega
theorem digits_num {l:List UInt8} {a n:Nat} (h:(rdigits l a n).2=true):(rdigits l a n).1=num l a (a+n):=by
 rw [(rdigits_ok h).2.2]
 unfold num
 rw [Nat.add_sub_cancel_left]
theorem rclock_some {l:List UInt8} {a n:Nat} (h:rclock l a=some n):(rdigits l a 2).2=true/\(rdigits l (a+3) 2).2=true/\(rdigits l (a+6) 2).2=true/\(l.getD (a+2) 0).toNat=58/\(l.getD (a+5) 0).toNat=58:=by
 unfold rclock at h
 split at h
 ·cases h
 ·next hc=>
  have h1:¬ (rdigits l a 2).2=false:=fun e=>hc (.inl e)
  have h2:¬ (rdigits l (a+3) 2).2=false:=fun e=>hc (.inr (.inl e))
  have h3:¬ (rdigits l (a+6) 2).2=false:=fun e=>hc (.inr (.inr (.inl e)))
  refine ⟨by simpa using h1,by simpa using h2,by simpa using h3,?_,?_⟩
  ·exact Classical.byContradiction fun e=>hc (.inr (.inr (.inr (.inl e))))
  ·exact Classical.byContradiction fun e=>hc (.inr (.inr (.inr (.inr (.inl e)))))
theorem rtime_eq (l:List UInt8):rtime l=readTime l:=by
 by_cases h19:l.length < 19
 ·have h1:rtime l=none:=by unfold rtime;rw [if_pos (.inl (by omega))]
  have h2:readTime l=none:=by unfold readTime;rw [if_pos (.inl h19)]
  rw [h1,h2]
 by_cases h20:l.length < 20
 ·have h1:rtime l=none:=by unfold rtime;rw [if_pos (.inl h20)]
  have hd:l.drop 19=[]:=List.drop_of_length_le (by omega)
  have h2:readTime l=none:=by
   unfold readTime
   split
   ·rfl
   ·rw [show difference (fraction (l.drop 19)).2=none by rw [hd];decide +kernel]
  rw [h1,h2]
 have hm:=moment_iff (l:=l) (by omega)
 by_cases hs:shape (l.take 19) momentShape=true
 rotate_left
 ·have h2:readTime l=none:=by unfold readTime;rw [if_pos (.inr (by simpa using hs))]
  rw [h2]
  unfold rtime
  split
  ·rfl
  ·next hc=>
   cases hck:rclock l 11 with
   | none=>rfl
   | some sec=>
    dsimp only
    obtain ⟨k1,k2,k3,k4,k5⟩:=rclock_some hck
    rw [if_pos]
    refine Classical.byContradiction fun hcon=>hs (hm.2 ⟨?_,?_,?_,k1,k2,k3,?_,?_,?_,k4,k5⟩)
    ·have:¬ (rdigits l 0 4).2=false:=fun e=>hcon (.inl e)
     simpa using this
    ·have:¬ (rdigits l 5 2).2=false:=fun e=>hcon (.inr (.inl e))
     simpa using this
    ·have:¬ (rdigits l 8 2).2=false:=fun e=>hcon (.inr (.inr (.inl e)))
     simpa using this
    ·exact Classical.byContradiction fun e=>hc (.inr (.inl e))
    ·exact Classical.byContradiction fun e=>hc (.inr (.inr (.inl e)))
    ·exact Classical.byContradiction fun e=>hc (.inr (.inr (.inr e)))
 obtain ⟨d0,d5,d8,d11,d14,d17,g4,g7,g10,g13,g16⟩:=hm.1 hs
 have n0:=digits_num d0
 have n5:=digits_num d5
 have n8:=digits_num d8
 have n11:=digits_num d11
 have n14:=digits_num d14
 have n17:=digits_num d17
 simp only [Nat.reduceAdd] at n0 n5 n8 n11 n14 n17
 have hck:rclock l 11=if 23 < num l 11 13∨59 < num l 14 16∨59 < num l 17 19 then none else some (3600 * num l 11 13+60 * num l 14 16+num l 17 19):=by
  unfold rclock
  simp only [Nat.reduceAdd,d11,d14,d17,n11,n14,n17,g13,g16]
  simp
 have hR:rtime l=(match rclock l 11 with
  | none=>none
  | some sec=>
   if risDay (num l 0 4) (num l 5 7) (num l 8 10)=false then none else
   match rpart l with
   | none=>none
   | some pt=>
    match rdiff (l.drop pt.2) with
    | none=>none
    | some k=>
     match rshifted (num l 0 4) (num l 5 7) (num l 8 10) (sec - 60 * k) with
     | none=>none
     | some t=>some (t ++ (if pt.1=[] then [] else 46 :: pt.1) ++ [90])):=by
  unfold rtime
  rw [if_neg (by omega)]
  cases rclock l 11 with
  | none=>rfl
  | some sec=>
   dsimp only
   rw [d0,d5,d8,n0,n5,n8]
   by_cases hq:risDay (num l 0 4) (num l 5 7) (num l 8 10)=false
   ·rw [if_pos (.inr (.inr (.inr hq))),if_pos hq]
   ·rw [if_neg (by simp;simpa using hq),if_neg hq]
    try rfl
 have hT:readTime l=(match difference (fraction (l.drop 19)).2 with
  | none=>none
  | some k=>
   if exists_ (num l 0 4) (num l 5 7) (num l 8 10) (num l 11 13) (num l 14 16) (num l 17 19)=false then none else
   if isYear (earlier (num l 0 4) (num l 5 7) (num l 8 10) (num l 11 13) (num l 14 16) k).1.1=false then none else
   some (stampText (earlier (num l 0 4) (num l 5 7) (num l 8 10) (num l 11 13) (num l 14 16) k).1.1.toNat
    (earlier (num l 0 4) (num l 5 7) (num l 8 10) (num l 11 13) (num l 14 16) k).1.2.1.toNat
    (earlier (num l 0 4) (num l 5 7) (num l 8 10) (num l 11 13) (num l 14 16) k).1.2.2.toNat
    ((earlier (num l 0 4) (num l 5 7) (num l 8 10) (num l 11 13) (num l 14 16) k).2 / 60).toNat
    ((earlier (num l 0 4) (num l 5 7) (num l 8 10) (num l 11 13) (num l 14 16) k).2 % 60).toNat
    (num l 17 19) ++ (fraction (l.drop 19)).1 ++ [90])):=by
  conv=>lhs;unfold readTime
  rw [if_neg (by intro h;rcases h with h | h;omega;rw [hs] at h;cases h)]
  rfl
 have hfe:=frac_eq l (by omega)
 rw [hR,hT,hck]
 generalize num l 0 4=y
 generalize num l 5 7=mo
 generalize num l 8 10=d
 generalize num l 11 13=h
 generalize num l 14 16=mi
 generalize num l 17 19=s
 have hbad:exists_ y mo d h mi s=false->(match difference (fraction (l.drop 19)).2 with
  | none=>none
  | some k=>
   if exists_ (y:Int) mo d h mi s=false then none else
   if isYear (earlier y mo d h mi k).1.1=false then none else
   some (stampText (earlier y mo d h mi k).1.1.toNat (earlier y mo d h mi k).1.2.1.toNat (earlier y mo d h mi k).1.2.2.toNat ((earlier y mo d h mi k).2 / 60).toNat ((earlier y mo d h mi k).2 % 60).toNat s ++ (fraction (l.drop 19)).1 ++ [90]))=none:=by
  intro hb
  cases difference (fraction (l.drop 19)).2 with
  | none=>rfl
  | some k=>dsimp only;rw [if_pos hb]
 by_cases hT1:23 < h∨59 < mi∨59 < s
 ·rw [if_pos hT1,hbad (by
   unfold exists_
   simp only [Bool.and_eq_false_iff,decide_eq_false_iff_not]
   omega)]
 rw [if_neg hT1]
 dsimp only
 cases hD:risDay (y:Int) mo d with
 | false=>
  rw [if_pos rfl,hbad (by
   unfold risDay at hD
   unfold exists_ isYear
   simp only [Bool.and_eq_false_iff,decide_eq_false_iff_not] at hD ⊢
   omega)]
 | true=>
  have hex:exists_ (y:Int) mo d h mi s=true:=by
   unfold risDay at hD
   unfold exists_ isYear
   simp only [Bool.and_eq_true,decide_eq_true_eq] at hD ⊢
   omega
  rw [if_neg (by simp)]
  cases hp:rpart l with
  | none=>
   rw [hp] at hfe
   dsimp only at hfe ⊢
   rw [rdiff_eq] at hfe
   rw [hfe]
  | some pt=>
   rw [hp] at hfe
   dsimp only at hfe ⊢
   rw [hfe.1,hfe.2,<-rdiff_eq]
   cases hk:rdiff (l.drop pt.2) with
   | none=>rfl
   | some k=>
    dsimp only
    rw [hex,if_neg (show ¬ (true=false) by simp)]
    have he:=rday_earlier y mo d h mi s k (by omega) (by omega)
    unfold rshifted
    rw [show ((3600 * h+60 * mi+s:Nat):Int) - 60 * k=3600 * (h:Int)+60 * (mi:Int)+(s:Int) - 60 * k by omega,he]
    dsimp only
    have hsx:((60 * (earlier (y:Int) mo d h mi k).2+(s:Int)) / 3600).toNat=((earlier (y:Int) mo d h mi k).2 / 60).toNat:=by congr 1;omega
    have hsy:((60 * (earlier (y:Int) mo d h mi k).2+(s:Int)) / 60 % 60).toNat=((earlier (y:Int) mo d h mi k).2 % 60).toNat:=by congr 1;omega
    have hsz:((60 * (earlier (y:Int) mo d h mi k).2+(s:Int)) % 60).toNat=s:=by omega
    rw [hsx,hsy,hsz]
    by_cases hy:(earlier (y:Int) mo d h mi k).1.1 < 1∨9999 < (earlier (y:Int) mo d h mi k).1.1
    ·have hyb:isYear (earlier (y:Int) mo d h mi k).1.1=false:=by unfold isYear;simp only [Bool.and_eq_false_iff,decide_eq_false_iff_not];omega
     rw [if_pos hy,if_pos hyb]
    ·have hyb:¬ isYear (earlier (y:Int) mo d h mi k).1.1=false:=by unfold isYear;simp only [Bool.and_eq_false_iff,decide_eq_false_iff_not];omega
     rw [if_neg hy,if_neg hyb]
end Go.Hm
