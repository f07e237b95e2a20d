import PyProof.Rows.All
import Wide.All
import OpenK.AllK
import Wide.FinOn
import PyProof.EqAt
import PyProof.EqKinds
import PyProof.TupleCall
import KE.BitLaws
import Open.SpecLaws
import KE.SpHead
import KE.OsShapes
import KE.OsHead
import KE.OsGo
import PyProof.NoPylong
import PyProof.StationsW
import PyProof.PassesOwn
import PyProof.ExcBaseAll.Exception
import KE.IntBitsLaws
import PyProof.AutoSeq1
import PyProof.ListRange
import PyProof.ExcClass
import PyProof.RulesTry
import PySem.Challenge.RW0_exacttables_s01_answers
import VagramSpec
import PyVagram
import PySem.Challenge.RW_exacttables_s01_answers
set_option Elab.async false
set_option linter.all false
set_option compiler.extract_closed false
set_option maxHeartbeats 0
set_option maxRecDepth 100000
theorem ws0:PySem.Challenge.rw_exacttables_s01_answers.wellSaid=true:=by decide+kernel
set_option exponentiation.threshold 500
local macro_rules| `(tactic|walk_at "v")=> `(tactic|first|exact .inl rfl|exact .inr rfl|exact .inr (.inl rfl)|exact .inr (.inr rfl)|assumption)
abbrev afp:=Nat->PySem.Addr
abbrev afq:=Nat->Nat->Rat
abbrev afr:=PySem.Value->PySem.Shared->Prop
abbrev afs:=PySem.Str->Option PySem.Value
abbrev aft:=Nat->PySem.FuncData
local macro_rules|`(~~~$a)=>`(some (.J $a))
def afy:=@if_neg
def afz:=@if_pos
def afA:=@List.mem_cons_of_mem
def afB:=@List.length_map
def afC:=@List.getD_eq_getElem?_getD
def afD:=@List.getElem?_set_ne
def afE:=@List.getElem?_eq_getElem
def afF:=@List.getElem?_map
def afG:=@List.mem_range
def afH:=@List.mem_cons_self
def afI:=@Nat.le_refl
def afJ:=@Bool.false_ne_true
def afK:=@List.getElem?_set_self
def afL:=@Bool.and_eq_true
def afM:=@List.length_append
def afN:=@List.length_range
def afO:=@List.getElem?_eq_none
def afP:=@PySem.Heap.get?_push_of_some
def afQ:=@Nat.lt_of_lt_of_le
def afR:=@List.map_cons
def afS:=@List.map_map
def afT:=@PySem.Heap.lt_size
def afU:=@List.mem_cons
def afV:=@List.getElem?_range
def afW:=@Int.mul_ne_zero
def afX:=@List.size_toArray
def afY:=@List.map_congr_left
def afZ:=@List.length_set
def af0:=@Rat.intCast_mul
def af1:=@PySem.wpAny_bind
def af2:=@Option.some.inj
def af3:=@PySem.mem_of_lookup
def af4:=@Nat.ne_of_lt
def af5:=@List.length_cons
def af6:=@List.mem_map
def af7:=@decide_eq_true
def af8:=@PySem.Heap.get?_push_size
def af9:=@Nat.le_trans
def aga:=@decide_eq_false
def agb:=@List.any_eq_false
def agc:=@Nat.lt_succ_self
def agd:=@Int.toNat_natCast
def age:=@of_decide_eq_true
def agf:=@decide_eq_true_eq
def agg:=@congrArg
def agh:=@List.append_nil
def agi:=@List.getElem?_eq_some_iff
def agj:=@List.getElem?_append_left
def agk:=@Rat.mul_eq_zero
def agl:=@List.mem_append_right
def agm:=@List.ext_getElem?
def agn:=@Nat.mul_le_mul_right
def ago:=@List.range_succ_eq_map
def agp:=@Nat.lt_irrefl
def agq:=@beq_eq_false_iff_ne
def agr:=@List.length_singleton
def ags:=@PySem.Heap.size_push
def agt:=@List.mem_append
def agu:=@Nat.not_lt_zero
def agv:=@PySem.wpAny_pure
def agw:=@Nat.lt_succ_of_lt
def agx:=@PyProof.Rows.callWith_type1
def agy:=@List.mem_singleton
def agz:=@List.map_append
def agA:=@List.find?_cons
def agB:=@Bool.or_eq_false_iff
def agC:=@List.all_eq_true
def agD:=@PySem.Heap.get?_update_other
def agE:=@List.replicate_succ
def agF:=@List.getElem_mem
def agG:=@Nat.zero_add
def agH:=@List.nil_append
def agI:=@Nat.two_pow_pos
def agJ:=@Bool.eq_iff_iff
def agK:=@List.getElem?_append_right
def agL:=@Int.fmod_eq_emod_of_nonneg
def agM:=@List.lookup_cons
def agN:=@List.not_mem_nil
def agO:=@PySem.wpAny_Call_Name_kw
def agP:=@List.any_map
def agQ:=@Nat.zero_le
def agR:=@Nat.mul_le_mul
def agS:=@Nat.pow_le_pow_right
def agT:=@PySem.wpAny_truthy_bool
def agU:=@PySem.wpAny_passesOwn
def agV:=@List.nodup_cons
def agW:=@List.flatten_cons
def agX:=@List.append_assoc
def agY:=@Nat.succ_mul
def agZ:=@List.any_cons
def ag0:=@Array.length_toList
def ag1:=@List.getElem?_cons_succ
def ag2:=@Nat.mul_le_mul_left
def ag3:=@List.length_take
def ag4:=@List.length_drop
def ag5:=@beq_self_eq_true
def ag6:=@Nat.succ_lt_succ
def ag7:=@Rat.mkRat_self
def ag8:=@List.drop_drop
def ag9:=@List.contains_cons
def aha:=@List.find?_eq_none
def ahb:=@Rat.sub_eq_add_neg
def ahc:=@Nat.le_of_eq
def ahd:=@Rat.intCast_sub
def ahe:=@Nat.min_eq_left
def ahf:=@PySem.wpAny_mono
def ahg:=@Int.fdiv_eq_ediv_of_nonneg
def ahh:=@List.mem_append_left
def ahi:=@List.mem_of_getElem?
def ahj:=@List.drop_eq_getElem_cons
def ahk:=@List.mem_of_find?_eq_some
def ahl:=@Nat.le_add_right
def ahm:=@Rat.mkRat_eq_div
def ahn:=@Bool.not_eq_true
def aho:=@Int.toNat_of_nonneg
def ahp:=@Rat.intCast_natCast
def ahq:=@Rat.add_zero
def ahr:=@Int.mul_fdiv_cancel_left
def ahs:=@List.getElem?_replicate
def aht:=@PySem.F.plainAttrs_list
def ahu:=@Int.eq_zero_of_gcd_eq_zero_right
def ahv:=@List.take_of_length_le
def ahw:=@PySem.Heap.size_after_update
def ahx:=@List.drop_eq_nil_of_le
def ahy:=@Nat.le_of_succ_le
def ahz:=@Bool.false_and
def ahA:=@List.length_replicate
def ahB:=@PySem.Heap.get?_update_self
def ahC:=@PySem.Obj.isFreed_of_fields
def ahD:=@decide_eq_decide
def ahE:=@List.flatMap_map
def ahF:=@Bool.false_or
def ahG:=@List.mem_filter
def ahH:=@List.filterMap_cons
def ahI:=@Ne.symm
def ahJ:=@PySem.wpAny_execs_nil
def ahK:=@List.of_mem_zip
def ahL:=@List.foldl_cons
def ahM:=@PySem.pushCells_keeps
def ahN:=@Rat.intCast_neg
def ahO:=@List.range_succ
def ahP:=@Int.one_mul
def ahQ:=@PySem.Calls.Name_function_global
def ahR:=@PySem.wpAny_newFunctionEnv_cells
def ahS:=@Array.append_assoc
def ahT:=@Nat.mul_comm
def ahU:=@PySem.Obj.data_mapFields
def ahV:=@Int.zero_add
def ahW:=@Nat.succ_pos
def ahX:=@List.getElem?_take
def ahY:=@PySem.Value.type.inj
def ahZ:=@Int.natAbs_ediv_le_natAbs
def ah0:=@List.findIdx?_eq_none_iff
def ah1:=@beq_iff_eq
def ah2:=@PySem.F.args_tuple_add_2
def ah3:=@PySem.F.slot_list_append
def ah4:=@PySem.F.type_list_append
def ah5:=@Int.mul_one
def ah6:=@PySem.F.entry_tuple_add
def ah7:=@List.all_cons
def ah8:=@PySem.wpAny_field
def ah9:=@Nat.add_sub_cancel_left
def aia:=@PySem.wpAny_execs_cons
def aib:=@PySem.W.cellsFrom_some
def aic:=@List.drop_length
def aid:=@Nat.le_of_not_lt
def aie:=@Int.neg_fdiv_neg
def aif:=@PySem.F.slot_tuple_add
def aih:=@PySem.Calls.callWith_builtin
def aii:=@PySem.W.length_le_weightAllW
def aij:=@Bool.beq_eq_decide_eq
def aik:=@Nat.ne_of_gt
def ail:=@PySem.W.methodCall_KW
def aim:=@PySem.codeAny_mono
def ain:=@PySem.W.callWith_K
def aio:=@Rat.mul_zero
def aip:=@Rat.intCast_add
def aiq:=@Rat.num_eq_zero
def air:=@Rat.mul_comm
def ais:=@Int.natCast_add
def ait:=@List.length_filter_le
def aiu:=@List.length_nil
def aiv:=@Int.mul_comm
def aiw:=@Int.natAbs_dvd_natAbs
def aix:=@PySem.call_meets
def aiy:=@Bool.and_eq_true_iff
def aiz:=@PySem.wpAny_setField
def aiA:=@Int.natAbs_mul
def aiB:=@PySem.sizeLine_eq
def aiC:=@PySem.wpAny_holding
def aiD:=@PySem.wpAny_standAt
def aiE:=@List.mem_filterMap
def aiF:=@Array.find?_toList
def aiG:=@PySem.W.plainGet_of
def aiH:=@PySem.nums_intItems
def aiI:=@List.zip_cons_cons
def aiJ:=@Bool.true_and
def aiK:=@List.getElem?_drop
def aiL:=@List.map_drop
def aiM:=@List.map_take
def aiN:=@Int.natAbs_natCast
def aiO:=@List.flatMap_assoc
def aiP:=@Nat.lt_of_succ_lt
def aiQ:=@Rat.divInt_eq_div
def aiR:=@Int.gcd_dvd_right
def aiS:=@List.flatMap_cons
def aiT:=@Nat.le_of_lt
def aiU:=@List.map_nil
def aiV:=@Nat.min_self
def aiW:=@Nat.gcd_comm
def aiX:=@Bool.not_and
def aiY:=@Nat.succ_le_succ
def aiZ:=@List.mem_flatMap
def ai0:=@List.cons_ne_nil
def ai1:=@List.any_eq_true
def ai2:=@Int.neg_mul
namespace L2
open PySem PySem.Spec PyProof.Rows
abbrev Jc:=Sum Int Str
def WB:Jc->Value->Bool| .inl k,v=>Value.isInt k v| .inr x,v=>Value.isStrOf x v
def acJ(w:World):Jc->Int| .inl k=>hashInt k| .inr x=>hashStr w x
theorem fG:∀{k:Jc}{v:Value},WB k v=true->(∃i t,k=Sum.inl i/\v=Value.int i t)\/(∃x t,k=Sum.inr x/\v=Value.str x t)| .inl i,v,h=>by obtain⟨t,e⟩:=Value.isInt_shape (k:=i) (v:=v) h;exact .inl ⟨i,t,rfl,e⟩| .inr x,v,h=>by obtain⟨t,e⟩:=Value.isStrOf_shape (x:=x) (v:=v) h;exact .inr ⟨x,t,rfl,e⟩
theorem W9(a b):decide ((Sum.inl a:Jc)=Sum.inl b)=(a==b):=by
 by_cases e:a=b
 subst e;simp;have h:¬(Sum.inl a:Jc)=Sum.inl b:=λq=>e (Sum.inl.inj q)
 rw[aga h];exact(agq.mpr e).symm
theorem Xa(a b):decide ((Sum.inr a:Jc)=Sum.inr b)=decide (a=b):=by
 by_cases e:a=b
 subst e;simp;have h:¬(Sum.inr a:Jc)=Sum.inr b:=λq=>e (Sum.inr.inj q)
 rw[aga h,aga e]
def Xb(a)(b):decide ((Sum.inl a:Jc)=Sum.inr b)=false:=aga (λq=>nomatch q)
def Xc(a)(b):decide ((Sum.inr a:Jc)=Sum.inl b)=false:=aga (λq=>nomatch q)
def Ni(prog)(w):PySem.KeyKind prog w Jc where
 is:=WB
 hash:=acJ w
 inj:=λv a b f d=>by rcases fG f with⟨i,t,rfl,rfl⟩|⟨x,t,rfl,rfl⟩;rcases fG d with⟨j,u,rfl,e⟩|⟨y,u,rfl,e⟩;injection e with e1 _;rw[e1];exact nomatch e;rcases fG d with⟨j,u,rfl,e⟩|⟨y,u,rfl,e⟩;exact nomatch e;injection e with e1 _;rw[e1]
 byValue:=λk v h=>by rcases fG h with⟨i,t,rfl,rfl⟩|⟨x,t,rfl,rfl⟩<;>rfl
 pyHash:=λc h=>by rcases fG c with⟨i,t,rfl,rfl⟩|⟨x,t,rfl,rfl⟩;exact wpAny_pyHash_int h;exact wpAny_pyHash_str h
 eqBool:=λg c h=>by rcases fG g with⟨i,t,rfl,rfl⟩|⟨x,t,rfl,rfl⟩;rcases fG c with⟨j,u,rfl,rfl⟩|⟨y,u,rfl,rfl⟩;rw[W9]at h;exact wpAny_eqBool_int h;rw[Xb]at h;exact SeqAt.EqAt.int_str i t y u _ _ _ _ h;rcases fG c with⟨j,u,rfl,rfl⟩|⟨y,u,rfl,rfl⟩;rw[Xc]at h;exact SeqAt.EqAt.str_int x t j u _ _ _ _ h;rw[Xa]at h;exact wpAny_eqBool_str h
 «strs»:=λk x t v h=>by rcases fG h with⟨i,u,rfl,e⟩|⟨y,u,rfl,e⟩;exact nomatch e;injection e with e1 _;subst e1;cases v<;>rfl
inductive V where
 |cK|bl (b:Bool)|int (i:Int)|str (x:Str)|Up (b:Array UInt8)|Z8 (b:UInt64)|ref (a:Addr)|ty (n:String)
 deriving DecidableEq
def RelV:V->Value->Prop| .cK,u=>u=Value.none| .bl b,u=>u=Value.bool b| .int i,u=>∃t,u=Value.int i t| .str x,u=>∃t,u=Value.str x t| .Up b,u=>∃t,u=Value.bytes b t| .Z8 b,u=>∃t,u=Value.float b t| .ref a,u=>u=Value.ref a| .ty n,u=>u=Value.type n
abbrev bL:List V->List Value->Prop:=Paired RelV
theorem bL.length(r:bL xs us):xs.length=us.length:=Paired.length r
theorem bL.get:∀{xs:List V}{us:List Value}{i:Nat}{x:V},bL xs us->xs[i]?=some x->∃u,us[i]?=some u/\RelV x u|_,_,_,_,.nil,e=>by simp at e|_,_,0,_,.cons r _,e=>by simp at e;subst e;exact⟨_,rfl,r⟩|_,_,i+1,x,.cons _ t,e=>by obtain⟨u,a,b⟩:=bL.get (i:=i) (x:=x) t (by simpa using e);exact⟨u,by simpa using a,b⟩
theorem bL.set(r:RelV x u):∀{xs:List V}{us:List Value}(i:Nat),bL xs us->bL (xs.set i x) (us.set i u)|_,_,_,.nil=>.nil|_,_,0,.cons _ t=>.cons r t|_,_,i+1,.cons q t=>.cons q (bL.set r i t)
theorem bL.append:∀{xs a:List V}{us b:List Value},bL xs us->bL a b->bL (xs++a) (us++b)|_,_,_,_,.nil,s=>s|_,_,_,_,.cons r t,s=>.cons r (bL.append t s)
theorem bL.take:∀{xs:List V}{us:List Value}(n:Nat),bL xs us->bL (xs.take n) (us.take n)|_,_,0,_=>.nil|_,_,_+1,.nil=>.nil|_,_,n+1,.cons r t=>.cons r (bL.take n t)
theorem bL.drop:∀{xs:List V}{us:List Value}(n:Nat),bL xs us->bL (xs.drop n) (us.drop n)|_,_,0,r=>r|_,_,_+1,.nil=>.nil|_,_,n+1,.cons _ t=>bL.drop n t
def Ei:Option V->Option Value->Prop|some v,some u=>RelV v u|none,none=>True|_,_=>False
def KV:List (a×V)->List (a×Value)->Prop:=Paired λp q=>p.1=q.1/\RelV p.2 q.2
def kV:Jc->V| .inl i=>.int i| .inr x=>.str x
inductive HO where
  |lst (xs:List V)
  |tup (xs:List V)
  |dK (kvs:List (Jc×V))|dT (kvs:List (List Jc×V))
  |set (S:Int->Bool) (n:Nat)
  |ins (C dx:Addr) (fs:List (Str×V))
  |own (x:Addr)
  |xd (fs:List (Str×V))
  |met (f x:Addr)
  |WC (lo hi:Int)
  |Bb (o:Obj) (u:HO)
  |WD (ps:Array Value)
  |ext (φ:Heap->Prop)
abbrev Hp:=Addr->Option HO
def fD(H:Hp)(a:Addr)(o:HO):Hp:=λb=>if b=a then some o else H b
def bh{H:Hp}{a}{o}:fD H a o a=some o:=by unfold fD;rw[afz rfl]
def aK{H:Hp}{a b}{o}(h:b≠a):fD H a o b=H b:=by unfold fD;rw[afy h]
def QM{H:Hp}{a b}{o u}(h:H a=some o)(h':H b=some u)(d:o≠u):a≠b:=by intro e;subst e;rw[h]at h';exact d (af2 h')
def bI{H:Hp}{a b}{o}(h:H a=some o)(h':H b=none):a≠b:=by intro e;subst e;rw[h]at h';cases h'
section
variable(P:Program)(w:World)
def iH(H:Hp)(h:Heap)(a:Addr):HO->Prop
 | .lst d=>d.length<=sizeLine/\∃(b:List Value)(n:Nat),bL d b/\h.get? a=some {cls:=.type "list",data:=.seq b.toArray n}
 | .tup d=>d.length<=sizeLine/\∃b,bL d b/\IsTup h a b.toArray
 | .dK c=>c.length<=sizeLine/\(a==sysModules)=false/\∃k,KV c k/\h.DictOf (Ni P w) a k
 | .dT c=>c.length<=sizeLine/\(a==sysModules)=false/\∃d:List (List Jc×Addr×Value),
   Paired (λp q=>p.1=q.1/\H q.2.1=some (.tup (p.1.map kV))/\RelV p.2 q.2.2) c d/\
   ∃o l s,h.get? a=some o/\o.ExactDict/\o.data=.dict l s/\l.toList=d.map (entryOfKey (tupleKind (Ni P w)))/\(d.map (·.1)).Nodup
 | .set S n=>h.SetOf (intKind P w) a S n
 | .ins C i g=>H i=some (.own a)/\g.length<=1000/\i≠a/\h.get? a=some (W.instObj C i)/\
   ∃e,h.Ns1 i e/\(∀f,Ei (g.lookup f) (e f))/\PySem.Within e (g.map (·.1))
 | .own _=>∃o,h.get? a=some o
 | .xd g=>∃e,h.Ns1 a e/\∀f,Ei (g.lookup f) (e f)
 | .WC lo y=>∃t u v,h.get? a=some {cls:=.type "range",data:=.fields #[.int lo t,.int y u,.int 1 v]}
 | .Bb o u=>h.get? a=some o/\iH H h a u
 | .WD z=>h.get? a=some {cls:=.none,data:=.fields z}
 | .met f x=>h.get? a=some (W.methodObj (.ref f) (.ref x))
 | .ext j=>j h/\(∃o,h.get? a=some o)/\∀m r,j m->(∀o,m.get? a=some o->r.get? a=some o)->j r
def n6(H:Hp)(h:Heap):Prop:=∀a o,H a=some o->iH P w H h a o
end
section
variable{P:Program}{w:World}{H H':Hp}{h h':Heap}{a:Addr}{o:HO}
theorem iH.lt(x:iH P w H h a o):a<h.objs.size:=by
 cases o with|lst c=>obtain⟨_,_,_,_,e⟩:=x;exact afT e|tup c=>obtain⟨_,_,_,p⟩:=x;exact p.lt|dK b=>obtain⟨_,_,_,_,o,_,_,e,_⟩:=x;exact afT e|dT b=>obtain⟨_,_,_,_,o,_,_,e,_⟩:=x;exact afT e|set S n=>obtain⟨o,_,_,_,e,_⟩:=x;exact afT e|ins C g d=>obtain⟨_,_,_,e,_⟩:=x;exact afT e|own y=>obtain⟨_,e⟩:=x;exact afT e|xd d=>obtain⟨_,⟨_,_,_,e,_⟩,_⟩:=x;exact afT e|WC lo i=>obtain⟨_,_,_,e⟩:=x;exact afT e|Bb j u=>obtain⟨e,_⟩:=x;exact afT e|WD k=>exact afT (show h.get? a=some _ from x)|met f y=>exact afT (show h.get? a=some _ from x)|ext l=>obtain⟨_,⟨_,e⟩,_⟩:=x;exact afT e
theorem Paired.Z9:∀{c:List e}{d:List g},Paired F c d->(∀a b,F a b->G a b)->Paired G c d|_,_,.nil,_=>.nil|_,_,.cons r t,f=>.cons (f _ _ r) (Paired.Z9 t f)
theorem iH.stay(x:iH P w H h a o)(k:∀b u,(b=a\/H b=some (.own a))->h.get? b=some u->h'.get? b=some u)(E:∀b,H b=some (.own a)->H' b=some (.own a)) (F:∀b xs,H b=some (.tup xs)->H' b=some (.tup xs)):iH P w H' h' a o:=by
 induction o with|lst xs=>obtain⟨z,l,n,r,e⟩:=x;exact⟨z,l,n,r,k _ _ (.inl rfl) e⟩|tup xs=>obtain⟨z,l,r,g,e,c⟩:=x;exact⟨z,l,r,g,k _ _ (.inl rfl) e,c⟩|dK m=>obtain⟨z,y,G,r,g,i,j,e,c⟩:=x;exact⟨z,y,G,r,g,i,j,k _ _ (.inl rfl) e,c⟩|dT m=>obtain⟨z,y,xs,r,g,i,j,e,c⟩:=x;exact⟨z,y,xs,Paired.Z9 r λp q z=>⟨z.1,F _ _ z.2.1,z.2.2⟩,g,i,j,k _ _ (.inl rfl) e,c⟩|set S n=>obtain⟨g,i,j,t,e,c⟩:=x;exact⟨g,i,j,t,k _ _ (.inl rfl) e,c⟩|ins C T I=>obtain⟨d,z,N,e,s,⟨A,i,j,Q,c⟩,r⟩:=x;exact⟨E _ d,z,N,k _ _ (.inl rfl) e,s,⟨A,i,j,k _ _ (.inr d) Q,c⟩,r⟩|own y=>obtain⟨g,e⟩:=x;exact⟨g,k _ _ (.inl rfl) e⟩|xd I=>obtain⟨s,⟨A,i,j,e,c⟩,r⟩:=x;exact⟨s,⟨A,i,j,k _ _ (.inl rfl) e,c⟩,r⟩|WC lo X=>obtain⟨t,u,v,e⟩:=x;exact⟨t,u,v,k _ _ (.inl rfl) e⟩|Bb g u R=>obtain⟨e,q⟩:=x;exact⟨k _ _ (.inl rfl) e,R q⟩|WD B=>have e:h.get? a=some {cls:=.none,data:=.fields B}:=x;show h'.get? a=some {cls:=.none,data:=.fields B};exact k a _ (.inl rfl) e|met f y=>have e:h.get? a=some (W.methodObj (.ref f) (.ref y)):=x;show h'.get? a=some (W.methodObj (.ref f) (.ref y));exact k a _ (.inl rfl) e|ext Z=>obtain⟨p,⟨o,e⟩,st⟩:=x;exact⟨st _ _ p λo q=>k _ _ (.inl rfl) q,⟨o,k _ _ (.inl rfl) e⟩,st⟩
theorem n6.lt(x:n6 P w H h)(e:H a=some o):a<h.objs.size:=(x a o e).lt
theorem n6.fresh(x:n6 P w H h)(e:h.objs.size<=a):H a=none:=by
 cases q:H a with|none=>rfl|some u=>exact absurd (afQ (x.lt q) e) (agp _)
theorem n6.kept(x:n6 P w H h)(k:∀b u,h.get? b=some u->h'.get? b=some u):n6 P w H h':=λa o e=>
 (x a o e).stay (λb u _ q=>k b u q) (λ_ q=>q) λ_ _ q=>q
theorem n6.laid(x:n6 P w H h)(k:∀b u,h.get? b=some u->h'.get? b=some u)(g:h.objs.size<=a)(new:iH P w (fD H a o) h' a o):n6 P w (fD H a o) h':=λb u e=>by
 have d:=x.fresh g
 by_cases f:b=a
 subst f;rw[bh]at e;cases e;exact new;rw[aK f]at e;exact(x b u e).stay (λc v _ q=>k c v q) (λc q=>by rw[aK (bI q d)];exact q) λc i q=>by rw[aK (bI q d)];exact q
end
def Rd(H:Hp)(a:Addr)(u:HO):Prop:=H a=some u\/∃o,H a=some (.Bb o u)
theorem Rd.ok(r:Rd H a u)(x:n6 P w H h):iH P w H h a u:=by rcases r with r|⟨o,r⟩;exact x a u r;obtain⟨_,q⟩:=x a _ r;exact q
def Mut:Option HO->Prop|some (.lst _)=>True|some (.dK _)=>True|some (.dT _)=>True|some (.set _ _)=>True|some (.ins _ _ _)=>True|some (.ext _)=>True|_=>False
section
variable{P:Program}{w:World}{H:Hp}{h h':Heap}{x e:Addr}{o':HO}
theorem n6.write(o:n6 P w H h)(g:Mut (H x))(he:e=x\/H e=some (.own x))(k:∀b u,b≠e->h.get? b=some u->h'.get? b=some u)(m:∃u,h'.get? e=some u)(new:iH P w (fD H x o') h' x o'):n6 P w (fD H x o') h':=λb u q=>by
 have d:∀c y,H c=some (.own y)->c≠x:=λc y r z=>by subst z;rw[r]at g;exact g
 have f:∀c i,H c=some (.tup i)->c≠x:=λc i r z=>by subst z;rw[r]at g;exact g
 by_cases j:b=x
 subst j;rw[bh]at q;cases q;exact new;rw[aK j]at q
 by_cases a:b=e
 have n:H b=some (.own x):=by rcases he with z|z;exact absurd (a.trans z) j;rw[a];exact z
 rw[q]at n;cases n;obtain⟨v,p⟩:=m;exact⟨v,by rw[a];exact p⟩;refine(o b u q).stay (λc v l r=>k c v ?_ r) (λc r=>by rw[aK (d c b r)];exact r) λc i r=>by rw[aK (f c i r)];exact r
 rcases l with rfl|l;exact a;rintro rfl;rcases he with z|z;exact d c b l z;rw[l]at z;cases z;exact j rfl
end
structure Un(fs ex:List Addr)(H H':Hp)(h h':Heap):Prop where
 keep:∀b o,h.get? b=some o->H b=none->b∉fs->b∉ex->h'.get? b=some o
 slot:∀b o,h.get? b=some o->H b=none->b∈fs->b∉ex->∃sl,h'.get? b=some {o with slots:=sl}
 free:∀b o,h.get? b=some o->H b=none->b∉ex->H' b=none
 there:∀b o,h.get? b=some o->b∉ex->∃o',h'.get? b=some o'
 tups:∀b xs,H b=some (.tup xs)->H' b=some (.tup xs)
 vR:∀b o u,H b=some (.Bb o u)->H' b=some (.Bb o u)
 wU:∀b ps,H b=some (.WD ps)->∃more,H' b=some (.WD (ps++more))
section
variable{fs fs' ex ex':List Addr}{H H1 H2:Hp}{h h1 h2 h':Heap}{a x e:Addr}{o:HO}
theorem Un.any(u:Un fs ex H H1 h h1)(q:h.get? b=some c)(n:H b=none)(d:b∉ex):∃g,h1.get? b=some {c with slots:=g}:=by
 by_cases f:b∈fs
 exact u.slot b c q n f d;exact⟨c.slots,u.keep b c q n f d⟩
theorem Un.trans(a:Un fs ex H H1 h h1)(b:Un fs ex H1 H2 h1 h2):Un fs ex H H2 h h2 where
 keep:=λc d q n g f=>b.keep c d (a.keep c d q n g f) (a.free c d q n f) g f
 slot:=λc d q n g f=>by obtain⟨r,e1⟩:=a.slot c d q n g f;obtain⟨j,k⟩:=b.slot c _ e1 (a.free c d q n f) g f;exact⟨j,k⟩
 free:=λc d q n f=>by obtain⟨l,e1⟩:=a.there c d q f;exact b.free c l e1 (a.free c d q n f) f
 there:=λc d q f=>by obtain⟨l,e1⟩:=a.there c d q f;exact b.there c l e1 f
 tups:=λc i q=>b.tups c i (a.tups c i q)
 vR:=λc d i q=>b.vR c d i (a.vR c d i q)
 wU:=λc m q=>by obtain⟨m1,e1⟩:=a.wU c m q;obtain⟨p,k⟩:=b.wU c _ e1;exact⟨m1++p,by rw[k,ahS]⟩
theorem Un.kept(k:∀b u,h.get? b=some u->h'.get? b=some u):Un fs ex H H h h':=
 ⟨λb c q _ _ _=>k b c q,λb c q _ _ _=>⟨c.slots,k b c q⟩,λ_ _ _ n _=>n,λb c q _=>⟨c,k b c q⟩,λ_ _ q=>q,λ_ _ _ q=>q,λ_ d q=>⟨#[],by rw[q];simp⟩⟩
theorem Un.refl:Un fs ex H H h h:=Un.kept λ_ _ q=>q
theorem Un.laid(k:∀b u,h.get? b=some u->h'.get? b=some u)(d:h.objs.size<=a)(c:H a=none):Un fs ex H (fD H a o) h h' where
 keep:=λb u q _ _ _=>k b u q
 slot:=λb u q _ _ _=>⟨u.slots,k b u q⟩
 free:=λb u q n _=>by rw[aK (af4 (afQ (afT q) d))];exact n
 there:=λb u q _=>⟨u,k b u q⟩
 tups:=λb f q=>by rw[aK (bI q c)];exact q
 vR:=λb u f q=>by rw[aK (bI q c)];exact q
 wU:=λb g q=>⟨#[],by rw[aK (bI q c),q];simp⟩
theorem Un.write(d:Mut (H x))(he:e=x\/H e=some (.own x))(k:∀b u,b≠e->h.get? b=some u->h'.get? b=some u)(f:∃u,h'.get? e=some u):Un fs ex H (fD H x o) h h':=by
 have i:∀b,H b=none->b≠x:=λb n z=>by subst z;rw[n]at d;exact d
 have j:∀b,H b=none->b≠e:=λb n z=>by subst z;rcases he with r|r;exact i b n r;rw[n]at r;cases r
 have g:∀b u,H b=some u->¬Mut (some u)->b≠x:=λb u q l z=>by subst z;rw[q]at d;exact l d
 refine⟨λb u q n _ _=>k b u (j b n) q,λb u q n _ _=>⟨u.slots,k b u (j b n) q⟩,λb u q n _=>by rw[aK (i b n)];exact n,λb u q _=>?_,
  λb m q=>by rw[aK (g b _ q λz=>z)];exact q,λb u m q=>by rw[aK (g b _ q λz=>z)];exact q,λb p q=>⟨#[],by rw[aK (g b _ q λz=>z),q];simp⟩⟩
 by_cases c:b=e
 subst c;exact f;exact⟨u,k b u c q⟩
theorem Un.mono(u:Un fs ex H H1 h h1)(hs:∀b∈fs,b∈fs')(f:∀b∈ex,b∈ex'):Un fs' ex' H H1 h h1:=
 ⟨λb d q n g c=>u.keep b d q n (λz=>g (hs b z)) λz=>c (f b z),λ_ _ q n _ c=>u.any q n λz=>c (f _ z),λb d q n c=>u.free b d q n λz=>c (f b z),λb d q c=>u.there b d q λz=>c (f b z),u.tups,u.vR,u.wU⟩
end
def trk(h:Heap)(H:Hp):List Addr:=(List.range h.objs.size).filter λa=>(H a).isSome
def Ej(h:Heap)(H:Hp):Heap:=W.hideAll h (trk h H)
def OP(h)(H:Hp):(Ej h H).objs.size=h.objs.size:=W.hideAll_size _ _
theorem QN(e:h.get? b=some o)(n:H b=none):(Ej h H).get? b=some o:=
 W.hideAll_get _ e λa=>by have q:(H b).isSome=true:=(ahG.mp a).2;rw[n]at q;simp at q
theorem Uq(e:(Ej h H).get? b=some o):h.get? b=some o/\H b=none:=by
 have a:h.get? b=some o:=W.of_hideAll (trk h H) e;refine⟨a,?_⟩;cases q:H b with
 |none=>rfl
 |some x=>have c:b∈trk h H:=ahG.mpr ⟨afG.mpr (afT a),by simp[q]⟩;have z:(Ej h H).get? b=none:=W.hideAll_none (trk h H) c;rw[z]at e;cases e
structure Mod(K:W.Frag)(mg:afs)(base:Heap):Prop where
 Xd:K.In base
 glob:base.Ns mainGlobals mg
 blt:∃mb,base.Ns builtinsNs mb/\∀x:Str,x≠"__name__"->mb x=bootBuiltins x
 nolimit:base.NoLimit
structure Cx where
 prog:Program
 w:World
 K:W.Frag
 mg:afs
 base:Heap
 A:Around
 N:List Str
 By:Shared
 H_0:Hp
 env:Env
 aN:List Env
 stack:List Env
 ex:List Addr
 fn:Str->Bool
 calm:Bool
 pn:List (Addr×Obj)
 xe:afr
def Eh(l:List Env):List Addr:=l.filterMap (·.frame)
abbrev Cx.fs(X:Cx):List Addr:=Eh X.aN
def Av(a:Scope)(x:Str):Prop:=a.names.lookup x=some .local\/a.names.lookup x=some .cell\/a.names.lookup x=some .free
def Loc(a:Scope)(x:Str):Prop:=a.names.lookup x=some .local\/a.names.lookup x=some .cell
def Look(env:Env)(h:Heap)(m:afs)(x:Str)(u:Value):Prop:=
 (env.kindOf x=some .local/\m x=some u)\/((env.kindOf x=some .cell\/env.kindOf x=some .free)/\∃c,env.cells.lookup x=some c/\h.IsCell c (some u))
structure Cx.Ok(X:Cx):Prop where
 mod:Mod X.K X.mg X.base
 kind:X.env.scope.kind=.function
 glob:X.env.globals=mainGlobals
 blt:X.env.builtins=builtinsNs
 above:X.By.heap.objs.size<=X.env.locals
 inj:∀x y c,X.env.cells.lookup x=some c->X.env.cells.lookup y=some c->x=y
 has:∀x,(X.env.kindOf x=some .cell\/X.env.kindOf x=some .free)->∃c,X.env.cells.lookup x=some c
 ZL:∀x c,X.fn x=true->X.env.cells.lookup x=some c->X.By.heap.objs.size<=c
 hd:X.calm=true->X.A.handled=none
 frames:X.A.frames=some X.stack
 stk:X.stack=X.aN\/(X.stack=X.env::X.aN/\X.env.frame=some X.env.locals)
 exf:∀b∈X.ex,b≠X.env.locals/\∀x c,X.env.cells.lookup x=some c->c≠b
 bs:∀b o,X.base.get? b=some o->X.By.heap.get? b=some o/\X.H_0 b=none
 QO:X.base.objs.size<=X.By.heap.objs.size
 OQ:∀b o,X.base.get? b=some o->b∉X.ex
 OR:∀b∈X.ex,b∉X.fs
 yY:X.By.heap.FunFrames X.base X.aN
 WE:∀b∈X.fs,X.H_0 b=none
structure Inv(X:Cx)(aC:List (Addr×Obj))(σ:List (Option V))(H:Hp)(s:Shared):Prop where
 ok:X.Ok
 os:s.os=X.By.os
 bare:AllBare s.gens
 base:Un X.fs X.ex X.H_0 H X.By.heap s.heap
 loc:∃m,s.heap.Ns X.env.locals m/\∀(i:Nat)(x:Str)(v:V),X.N[i]?=some x->σ[i]?=some (some v)->Av X.env.scope x->∃u,RelV v u/\Look X.env s.heap m x u
 cell:∀x c,X.env.cells.lookup x=some c->∃v,s.heap.IsCell c v
 free:H X.env.locals=none
 l0:∀x c,X.env.cells.lookup x=some c->H c=none
 pin:∀p∈X.pn++aC,s.heap.get? p.1=some p.2/\H p.1=none/\p.1≠X.env.locals/\p.1∉X.fs/\∀v,p.2.data≠.cell v
 hok:n6 X.prog X.w H s.heap
 len:σ.length=X.N.length
section
variable{X:Cx}{aC:List (Addr×Obj)}{σ:List (Option V)}{H H':Hp}{s:Shared}{h':Heap}
theorem Cx.Ok.acK(a:X.Ok)(e:X.base.get? b=some o):b∉X.fs:=λc=>by have:=(a.yY.mem c).1;rw[e]at this;cases this
theorem Inv.bs(I:Inv X aC σ H s):∀b o,X.base.get? b=some o->s.heap.get? b=some o/\H b=none:=λb o e=>
 ⟨I.base.keep b o (I.ok.bs b o e).1 (I.ok.bs b o e).2 (I.ok.acK e) (I.ok.OQ b o e),I.base.free b o (I.ok.bs b o e).1 (I.ok.bs b o e).2 (I.ok.OQ b o e)⟩
theorem Inv.bk(I:Inv X aC σ H s):∀b o,X.base.get? b=some o->s.heap.get? b=some o:=λb o e=>(I.bs b o e).1
theorem Inv.mod(I:Inv X aC σ H s):Mod X.K X.mg X.base:=I.ok.mod
theorem Inv.E1(I:Inv X aC σ H s):X.K.In s.heap:=I.ok.mod.Xd.keeps I.bk
theorem Inv.nolimit(I:Inv X aC σ H s):s.heap.NoLimit:=I.ok.mod.nolimit.keeps I.bk
theorem Inv.fr(I:Inv X aC σ H s):∃m,Fr X.base X.env.locals s.heap m:=
 let⟨m,a,_⟩:=I.loc
 ⟨m,a,I.bk,af9 I.ok.QO I.ok.above⟩
theorem Inv.lt(I:Inv X aC σ H s):X.env.locals<s.heap.objs.size:=let⟨_,a,_⟩:=I.loc;a.lt
theorem Inv.sz(I:Inv X aC σ H s):X.By.heap.objs.size<=s.heap.objs.size:=af9 I.ok.above (aiT I.lt)
theorem Inv.acL(I:Inv X aC σ H s)(h:s.heap.objs.size<=a):a∉X.fs:=λb=>by obtain⟨_,o,c,_⟩:=I.ok.yY.mem b;exact absurd (afQ (afT c) (af9 I.sz h)) (agp _)
theorem Inv.cne(I:Inv X aC σ H s):∀x c,X.env.cells.lookup x=some c->c≠X.env.locals:=λx c e z=>by obtain⟨v,o,d,f⟩:=I.cell x c e;obtain⟨m,⟨g,h,i,a,b,_⟩,_⟩:=I.loc;rw[z,a]at d;cases d;rw[b]at f;cases f
theorem Inv.yY(I:Inv X aC σ H s):s.heap.FunFrames X.base X.aN:=by
 have a:∀(l:List Env),(∀b∈Eh l,b∈X.fs)->X.By.heap.FunFrames X.base l->s.heap.FunFrames X.base l:=by
  intro l
  induction l with
  |nil=>intro _ _;trivial
  |cons h r i=>
   intro g j;obtain⟨k,⟨L,o,c,m,n,p⟩,q⟩:=j;have d:L∈X.fs:=g L (by unfold Eh;rw[ahH,c];exact afH);obtain⟨t,e⟩:=I.base.slot L o n (I.ok.WE L d) d λz=>I.ok.OR L z d
   exact⟨k,⟨L,_,c,m,e,p⟩,i (λb f=>g b (by unfold Eh;rw[ahH,c];exact afA _ f)) q⟩
 exact a X.aN (λ_ f=>f) I.ok.yY
theorem Inv.stack(I:Inv X aC σ H s):s.heap.FunFrames X.base X.stack:=by rcases I.ok.stk with e|⟨e,a⟩;rw[e];exact I.yY;rw[e];obtain⟨m,b,_⟩:=I.loc;refine .cons (by rw[I.ok.kind];decide) a b ?_ I.yY;exact Heap.get?_none_of_le (af9 I.ok.QO I.ok.above)
theorem Inv.Gw(I:Inv X aC σ H s):∀b∈Eh X.stack,b∈X.env.locals::X.fs:=λb a=>by rcases I.ok.stk with e|⟨e,c⟩;rw[e]at a;exact afA _ a;rw[e]at a;unfold Eh at a;rw[ahH,c]at a;exact a
theorem Inv.Gx(I:Inv X aC σ H s):∀b∈Eh X.stack,H b=none:=λb a=>by rcases afU.mp (I.Gw b a)with e|a;rw[e];exact I.free;obtain⟨_,o,c,_⟩:=I.ok.yY.mem a;exact I.base.free b o c (I.ok.WE b a) λz=>I.ok.OR b z a
theorem Inv.step{g':Array GenState}{t':Nat}{d'}{ch:List Addr}(I:Inv X aC σ H s)(f:∀b∈ch,(b∈X.ex\/X.By.heap.objs.size<=b)/\b≠X.env.locals/\(∀x c,X.env.cells.lookup x=some c->c≠b)/\∀p∈X.pn++aC,p.1≠b)(keep:∀b o,b≠X.env.locals->b∉X.fs->b∉ch->s.heap.get? b=some o->H b=none->h'.get? b=some o)(slot:∀b o,b≠X.env.locals->b∈X.fs->b∉ch->s.heap.get? b=some o->H b=none->∃C,h'.get? b=some {o with slots:=C}) (free:∀b o,b∉ch->s.heap.get? b=some o->H b=none->H' b=none)(there:∀b o,b∉ch->s.heap.get? b=some o->∃y,h'.get? b=some y)(tups:∀b xs,H b=some (.tup xs)->H' b=some (.tup xs)) (vR:∀b o u,H b=some (.Bb o u)->H' b=some (.Bb o u)) (wU:∀b ps,H b=some (.WD ps)->∃more,H' b=some (.WD (ps++more)))(ns:∀m,s.heap.Ns X.env.locals m->h'.Ns X.env.locals m) (hok:n6 X.prog X.w H' h') (S:AllBare g'):
  Inv X aC σ H' {s with heap:=h',gens:=g',drawn:=d',toks:=t'}:=by
 have A:∀b o,X.By.heap.get? b=some o->b≠X.env.locals:=λb o e=>af4 (afQ (afT e) I.ok.above)
 have h:∀b o,X.By.heap.get? b=some o->b∉X.ex->b∉ch:=λb o e a j=>by rcases(f b j).1 with z|z;exact a z;exact absurd (afQ (afT e) z) (agp _)
 have cellK:∀x c,X.env.cells.lookup x=some c->∀v,s.heap.IsCell c v->h'.IsCell c v:=λx c e v E=>by
  obtain⟨o,t,F⟩:=E;have g:c∉ch:=λz=>(f c z).2.2.1 x c e rfl
  by_cases N:c∈X.fs
  obtain⟨C,q⟩:=slot c o (I.cne x c e) N g t (I.l0 x c e);exact⟨_,q,F⟩;exact⟨o,keep c o (I.cne x c e) N g t (I.l0 x c e),F⟩
 refine⟨I.ok,I.os,S,⟨λb o e n j a=>?_,λb o e n j a=>?_,λb o e n a=>?_,λb o e a=>?_,λb xs e=>tups b xs (I.base.tups b xs e),λb o xs e=>vR b o xs (I.base.vR b o xs e),λb ps e=>?_⟩,?_,λx c e=>?_,?_,λx c e=>?_,λp P=>?_,hok,I.len⟩;exact keep b o (A b o e) j (h b o e a) (I.base.keep b o e n j a) (I.base.free b o e n a);obtain⟨C,e1⟩:=I.base.slot b o e n j a;obtain⟨G,B⟩:=slot b _ (A b o e) j (h b o e a) e1 (I.base.free b o e n a);exact⟨G,B⟩;obtain⟨y,e1⟩:=I.base.there b o e a;exact free b y (h b o e a) e1 (I.base.free b o e n a);obtain⟨y,e1⟩:=I.base.there b o e a;exact there b y (h b o e a) e1;obtain⟨m1,e1⟩:=I.base.wU b ps e;obtain⟨T,B⟩:=wU b _ e1;exact⟨m1++T,by rw[B,ahS]⟩;obtain⟨m,W,Z⟩:=I.loc;refine⟨m,ns m W,λi x v e1 B e3=>?_⟩;obtain⟨u,r,l⟩:=Z i x v e1 B e3;refine⟨u,r,?_⟩;rcases l with l|⟨k,c,e,z⟩;exact .inl l;exact .inr ⟨k,c,e,cellK x c e _ z⟩;obtain⟨v,z⟩:=I.cell x c e;exact⟨v,cellK x c e v z⟩;obtain⟨m,⟨o,_,_,t,_⟩,_⟩:=I.loc;exact free _ o (λz=>(f _ z).2.1 rfl) t I.free;obtain⟨v,o,t,F⟩:=I.cell x c e;exact free c o (λz=>(f c z).2.2.1 x c e rfl) t (I.l0 x c e);obtain⟨e,n,Q,R,d⟩:=I.pin p P;have g:p.1∉ch:=λz=>(f p.1 z).2.2.2 p P rfl
 exact⟨keep p.1 p.2 Q R g e n,free p.1 p.2 g e n,Q,R,d⟩
theorem Inv.un{t'}(I:Inv X aC σ H s)(u:Un X.fs [] H H' s.heap h')(hok:n6 X.prog X.w H' h'):Inv X aC σ H' {s with heap:=h',toks:=t'}:=by
 obtain⟨m,⟨o,k,l,g,r⟩,_⟩:=id I.loc;obtain⟨p,h⟩:=u.any g I.free (by simp);exact I.step (g':=s.gens) (d':=s.drawn) (ch:=[]) (λ_ z=>nomatch z) (λb o _ c _ e n=>u.keep b o e n c (by simp)) (λb o _ c _ e n=>u.slot b o e n c (by simp)) (λb o _ e n=>u.free b o e n (by simp)) (λb o _ e=>u.there b o e (by simp)) u.tups u.vR u.wU (λq i=>by obtain⟨t,d,f,a,j⟩:=i;rw[g]at a;cases a;exact⟨_,d,f,h,j⟩) hok I.bare
theorem Inv.call{g'}{t':Nat}{d'}{ch:List Addr}(I:Inv X aC σ H s)(u:Un (Eh X.stack) ch H H' s.heap h')(hok:n6 X.prog X.w H' h')(k:AllBare g')(d:∀b∈ch,(b∈X.ex\/X.By.heap.objs.size<=b)/\b≠X.env.locals/\(∀x c,X.env.cells.lookup x=some c->c≠b)/\∀p∈X.pn++aC,p.1≠b):
  Inv X aC σ H' {s with heap:=h',gens:=g',drawn:=d',toks:=t'}:=by
 obtain⟨m,⟨o,v,y,j,r⟩,_⟩:=id I.loc;obtain⟨A,g⟩:=u.any j I.free λz=>(d _ z).2.1 rfl
 exact I.step (ch:=ch) d (λb o g l a e n=>u.keep b o e n (λz=>(afU.mp (I.Gw b z)).elim g l) a) (λb o _ _ a e n=>u.any e n a) (λb o a e n=>u.free b o e n a) (λb o a e=>u.there b o e a) u.tups u.vR u.wU (λB q=>by obtain⟨C,h,i,f,t⟩:=q;rw[j]at f;cases f;exact⟨_,h,i,g,t⟩) hok k
theorem Inv.turned{t'}{a}(I:Inv X aC σ H s)(k:∀b o,b≠a->s.heap.get? b=some o->h'.get? b=some o)(h:H a=none)(g:a≠X.env.locals)(i:a∈X.ex\/X.By.heap.objs.size<=a) (j:∀x c,X.env.cells.lookup x=some c->c≠a) (l:∀p∈X.pn++aC,p.1≠a):Inv X aC σ H {s with heap:=h',toks:=t'}:=by
 have f:∀b u,H b=some u->b≠a:=λb u e z=>by rw[z,h]at e;cases e
 refine I.step (g':=s.gens) (d':=s.drawn) (ch:=[a]) (λb t=>?_) (λb o _ _ d e _=>k b o (λz=>d (by simp[z])) e) (λb o _ _ d e _=>⟨o.slots,k b o (λz=>d (by simp[z])) e⟩) (λ_ _ _ _ n=>n)
  (λb o d e=>⟨o,k b o (λz=>d (by simp[z])) e⟩) (λ_ _ e=>e) (λ_ _ _ e=>e) (λb C e=>⟨#[],by rw[e];simp⟩) (λm w=>?_) (λb u e=>?_) I.bare
 have e:b=a:=by simpa using t
 subst e;exact⟨i,g,j,l⟩;obtain⟨o,y,A,B,r⟩:=w;exact⟨o,y,A,k _ o (ahI g) B,r⟩;refine(I.hok b u e).stay (λc v d q=>k c v ?_ q) (λ_ q=>q) λ_ _ q=>q
 rcases d with z|z;rw[z];exact f b u e;exact f c _ z
theorem Inv.tok(I:Inv X aC σ H s)(t):Inv X aC σ H {s with toks:=t}:=I.un (h':=s.heap) (t':=t) Un.refl I.hok
theorem Inv.kept(I:Inv X aC σ H s)(k:∀b u,s.heap.get? b=some u->h'.get? b=some u):Inv X aC σ H {s with heap:=h',toks:=t'}:=I.un (Un.kept k) (I.hok.kept k)
theorem Inv.laid{a:Addr}{o}{t':Nat}(I:Inv X aC σ H s)(k:∀b u,s.heap.get? b=some u->h'.get? b=some u)(c:s.heap.objs.size<=a)(new:iH X.prog X.w (fD H a o) h' a o):
  Inv X aC σ (fD H a o) {s with heap:=h',toks:=t'}:=I.un (Un.laid k c (I.hok.fresh c)) (I.hok.laid k c new)
theorem Inv.write(I:Inv X aC σ H s)(c:Mut (H x))(he:e=x\/H e=some (.own x))(k:∀b u,b≠e->s.heap.get? b=some u->h'.get? b=some u)(a:∃u,h'.get? e=some u)(new:iH X.prog X.w (fD H x o) h' x o):Inv X aC σ (fD H x o) {s with heap:=h',toks:=t'}:=I.un (Un.write c he k a) (I.hok.write c he k a new)
theorem Inv.weak(I:Inv X aC σ H s)(c:a.length=σ.length)(w:∀(i:Nat)v,a[i]?=some (some v)->σ[i]?=some (some v)):Inv X aC a H s:=
 ⟨I.ok,I.os,I.bare,I.base,let⟨m,d,b⟩:=I.loc;⟨m,d,λi x v e1 e f=>b i x v e1 (w i v e) f⟩,I.cell,I.free,I.l0,I.pin,I.hok,c.trans I.len⟩
theorem Inv.Gy(I:Inv X aC σ H s)(h:∀p∈a,s.heap.get? p.1=some p.2/\H p.1=none/\p.1≠X.env.locals/\p.1∉X.fs/\∀v,p.2.data≠.cell v):Inv X a σ H s:=
 ⟨I.ok,I.os,I.bare,I.base,I.loc,I.cell,I.free,I.l0,λp b=>(agt.mp b).elim (λz=>I.pin p (ahh _ z)) (h p),I.hok,I.len⟩
theorem BX{N:List Str}(c:N.Nodup){i j:Nat}{x}(a:N[i]?=some x)(b:N[j]?=some x):i=j:=by obtain⟨e,e1⟩:=agi.mp a;obtain⟨f,d⟩:=agi.mp b;exact(List.getElem_inj c).mp (e1.trans d.symm)
theorem E2{M}{A:Around}{E:afr}{i}{x:Str}{v}{u}{Q}(I:Inv X aC σ H s)(hN:X.N.Nodup)(S:X.N[i]?=some x)(l:Loc X.env.scope x)(r:RelV v u)(h:∀s',Inv X aC (σ.set i (some v)) H s'->(∃a,Heap.SameBut a s.heap s'.heap/\(a=X.env.locals\/X.env.cells.lookup x=some a))->Q () s') (hf:X.fn x=true\/X.env.scope.names.lookup x=some .local:=by walk_at "v"):wpAny M A (storeName X.env x u) Q E s:=by
 obtain⟨m,hn,hl⟩:=id I.loc;have hcls:(X.env.scope.kind==.class||(X.env.scope.kind==.module&&X.env.locals !=X.env.globals))=false:=by rw[I.ok.kind];rfl
 have B:i<σ.length:=by rw[I.len];exact(agi.mp S).1
 have F:=I.cne;have tracked:∀{a:Addr}{h':Heap},(∃o,s.heap.get? a=some o/\H a=none)->Heap.SameBut a s.heap h'->n6 X.prog X.w H h':=λ{a h'}ha f b ob e=>by
  obtain⟨_,_,hfree⟩:=ha;refine(I.hok b ob e).stay (λc w' g q=>(f.2 c ?_).trans q) (λ_ q=>q) λ_ _ q=>q
  rintro rfl;rcases g with rfl|g;rw[hfree]at e;cases e;rw[hfree]at g;cases g
 rcases l with C|C;refine wpAny_storeName_local C hn (λh' vs f=>?_) hcls;obtain⟨oL,_,_,h1,_⟩:=id hn;refine h _ ⟨I.ok,I.os,I.bare,⟨λb o e n G l=>?_,λb o e n G l=>?_,I.base.free,λb o e l=>?_,I.base.tups,I.base.vR,I.base.wU⟩,⟨_,vs,λj y v' e1 t e3=>?_⟩,λy c e=>?_,I.free,I.l0,λp hp=>?_,tracked ⟨oL,h1,I.free⟩ f,by simpa using I.len⟩ ⟨_,f,.inl rfl⟩;exact(f.2 b (af4 (afQ (afT e) I.ok.above))).trans (I.base.keep b o e n G l);obtain⟨sl,e1⟩:=I.base.slot b o e n G l;exact⟨sl,(f.2 b (af4 (afQ (afT e) I.ok.above))).trans e1⟩;obtain⟨o',e1⟩:=I.base.there b o e l;exact⟨o',(f.2 b (af4 (afQ (afT e) I.ok.above))).trans e1⟩
 by_cases P:j=i
 subst P;rw[S]at e1;cases e1;rw[afK B]at t;cases t;exact⟨u,r,.inl ⟨C,by simp⟩⟩;rw[afD (ahI P)]at t;obtain⟨u',r',q⟩:=hl j y v' e1 t e3;refine⟨u',r',?_⟩;rcases q with⟨k,e⟩|⟨k,c,e,z⟩;refine .inl ⟨k,?_⟩;have:y≠x:=λe=>P (BX hN e1 (e▸S))
 simp[this,e];exact .inr ⟨k,c,e,z.sameBut f (F y c e)⟩;obtain⟨w',z⟩:=I.cell y c e;exact⟨w',z.sameBut f (F y c e)⟩;obtain⟨e,n,ne,nf,d⟩:=I.pin p hp;exact⟨(f.2 p.1 ne).trans e,n,ne,nf,d⟩;have R:X.fn x=true:=by rcases hf with z|z;exact z;rw[z]at C;cases C
 obtain⟨c,g⟩:=I.ok.has x (.inl C);obtain⟨w',z⟩:=I.cell x c g;refine wpAny_storeName_cell I.ok.kind C g z (λh' T f=>?_);obtain⟨oc,W,Z⟩:=id z;refine h {s with heap:=h'} ⟨I.ok,I.os,I.bare,⟨λb o e n G l=>?_,λb o e n G l=>?_,I.base.free,λb o e l=>?_,I.base.tups,I.base.vR,I.base.wU⟩,⟨m,hn.sameBut f (ahI (F x c g)),λj y v' e1 t e3=>?_⟩,λy c' e=>?_,I.free,I.l0,λp hp=>?_,tracked ⟨oc,W,I.l0 x c g⟩ f,by simpa using I.len⟩ ⟨c,f,.inr g⟩;exact(f.2 b (af4 (afQ (afT e) (I.ok.ZL x c R g)))).trans (I.base.keep b o e n G l);obtain⟨sl,e1⟩:=I.base.slot b o e n G l;exact⟨sl,(f.2 b (af4 (afQ (afT e) (I.ok.ZL x c R g)))).trans e1⟩;obtain⟨o',e1⟩:=I.base.there b o e l;exact⟨o',(f.2 b (af4 (afQ (afT e) (I.ok.ZL x c R g)))).trans e1⟩
 by_cases P:j=i
 subst P;rw[S]at e1;cases e1;rw[afK B]at t;cases t;exact⟨u,r,.inr ⟨.inl C,c,g,T⟩⟩;rw[afD (ahI P)]at t;obtain⟨u',r',q⟩:=hl j y v' e1 t e3;refine⟨u',r',?_⟩;rcases q with q|⟨k,c',e,z'⟩;exact .inl q;refine .inr ⟨k,c',e,z'.sameBut f ?_⟩;rintro rfl;exact P (BX hN e1 (I.ok.inj _ _ _ e g▸S))
 by_cases ds:c'=c
 subst ds;exact⟨_,T⟩;obtain⟨w2,z2⟩:=I.cell y c' e;exact⟨w2,z2.sameBut f ds⟩;obtain⟨e,n,ne,nf,d⟩:=I.pin p hp;refine⟨(f.2 p.1 ?_).trans e,n,ne,nf,d⟩;intro q;rw[q,W]at e;have q':oc=p.2:=af2 e;exact d w' (by rw[<-q'];exact Z)
theorem BY{M:Model}(I:Inv X aC σ H s)(a:X.N.Nodup)(b:X.N[i]?=some x)(c:Loc X.env.scope x)(r:RelV v u)(h:∀s',Inv X aC (σ.set i (some v)) H s'->Q () s') (d:X.fn x=true\/X.env.scope.names.lookup x=some .local:=by walk_at "v"):wpAny M A (storeName X.env x u) Q E s:=
 E2 I a b c r (λs' e _=>h s' e) d
theorem Inv.QS(I:Inv X aC σ H s)(d:s'.os=s.os)(u:Un (Eh X.stack) ch H H' s.heap s'.heap)(hok:n6 X.prog X.w H' s'.heap)(f:AllBare s'.gens)(a:∀b∈ch,(b∈X.ex\/X.By.heap.objs.size<=b)/\b≠X.env.locals/\(∀x c,X.env.cells.lookup x=some c->c≠b)/\∀p∈X.pn++aC,p.1≠b):Inv X aC σ H' s':=by obtain⟨h',g',d',t',g⟩:=s';have e:g=s.os:=d;subst e;exact I.call (g':=g') (t':=t') (d':=d') u hok f a
end
abbrev XK:=Value->Option Addr->Hp->Prop
abbrev St:=List (Option V)
abbrev VK:=V->Hp->Prop
abbrev TE:=St->Hp->VK->Prop
abbrev TT:=St->Hp->(Bool->Hp->Prop)->Prop
abbrev TA:=St->Hp->(List V->Hp->Prop)->Prop
structure BZ where
 nx:St->Hp->Prop
 rt:VK
 bk:St->Hp->Prop:=λ_ _=>False
 ct:St->Hp->Prop:=λ_ _=>False
abbrev TS:=BZ->St->Hp->Prop
def EP(X:Cx)(aC:List (Addr×Obj))(b:St)(Q:VK)(u:Value)(s':Shared):Prop:=∃v a,Inv X aC b a s'/\RelV v u/\Q v a
def TP(X:Cx)(aC:List (Addr×Obj))(c:St)(Q:Bool->Hp->Prop)(b:Bool)(s':Shared):Prop:=∃a,Inv X aC c a s'/\Q b a
def AP(X:Cx)(aC:List (Addr×Obj))(c:St)(Q:List V->Hp->Prop)(us:List Value)(s':Shared):Prop:=∃a b,Inv X aC c b s'/\bL a us/\Q a b
def SP(X:Cx)(aC:List (Addr×Obj))(D:BZ)(f:Flow)(s':Shared):Prop:=
 match f with| .next=>∃a b,Inv X aC a b s'/\D.nx a b| .brk=>∃a b,Inv X aC a b s'/\D.bk a b| .cont=>∃a b,Inv X aC a b s'/\D.ct a b| .ret u=>∃v a b,Inv X aC a b s'/\RelV v u/\D.rt v b
def PE(X:Cx)(e:Expr)(t:TE):Prop:=
 ∀a s b H(Q:VK),Inv X a b H s->t b H Q->wpAny (model X.prog X.w) X.A (eval e X.env) (EP X a b Q) X.xe s
def PT(X:Cx)(e:Expr)(t:TT):Prop:=
 ∀a s b H(Q:Bool->Hp->Prop),Inv X a b H s->t b H Q->wpAny (model X.prog X.w) X.A (isTrue e X.env (eval e X.env)) (TP X a b Q) X.xe s
def PW(X:Cx)(e:Expr)(t:TT):Prop:=
 ∀whole a s b H(Q:Bool->Hp->Prop),Inv X a b H s->t b H Q->wpAny (model X.prog X.w) X.A (isTrue e X.env whole) (TP X a b Q) X.xe s
theorem PW.pt(h:PW X e t):PT X e t:=h _
def PA(X:Cx)(d:List Expr)(t:TA):Prop:=
 ∀b a s c H(Q:List V->Hp->Prop),Inv X a c H s->t c H Q->wpAny (model X.prog X.w) X.A (spliced (backTo b (starEach d X.env))) (AP X a c Q) X.xe s
def PS(X:Cx)(st:Stmt)(t:TS):Prop:=
 ∀a s b H(D:BZ),Inv X a b H s->t D b H->wpAny (model X.prog X.w) X.A (exec st X.env) (SP X a D) X.xe s
def lS(X:Cx)(st:List Stmt)(t:TS):Prop:=
 ∀a(s:Shared)b H(D:BZ),Inv X a b H s->t D b H->wpAny (model X.prog X.w) X.A (execs st X.env) (SP X a D) X.xe s
def fP{M}(h:wpAny M A t Q E s)(b:∀a s,Q a s->c a s):wpAny M A t c E s:=ahf h b λ_ _ x=>x
section
variable{X:Cx}
theorem acM{a b:Expr}{m n:TE}(p:PE X a m)(q:PE X b n){aC:List (Addr×Obj)}{s:Shared}{c:St}{H:Hp}{R:V->V->Hp->Prop}(I:Inv X aC c H s)(h:m c H λx j=>n c j λy d=>R x y d){o:Type} {Q:o->Shared->Prop} {f:Value->Value->Sem o}(r:∀v u i x y d,Inv X aC c d i->RelV x v->RelV y u->R x y d->wpAny (model X.prog X.w) X.A (f v u) Q X.xe i):
  wpAny (model X.prog X.w) X.A (eval a X.env) (λv e=>wpAny (model X.prog X.w) X.A (eval b X.env) (λu g=>wpAny (model X.prog X.w) X.A (f v u) Q X.xe g) X.xe e) X.xe s:=by
 refine fP (p aC s c H _ I h) λv t k=>?_
 obtain⟨x,j,z,B,C⟩:=k;refine fP (q aC t c j _ z C) λu i l=>?_
 obtain⟨y,d,E,F,G⟩:=l;exact r v u i x y d E B F G
def QT(i:Nat):TE:=λa H Q=>∃v,a[i]?=some (some v)/\Q v H
def tC(v:V):TE:=λ_ H Q=>Q v H
theorem f6(k:X.N[i]?=some x)(n:Av X.env.scope x)(f:(x==("__debug__":Str))=false:=by decide)(g:(x==("__classdict__":Str))=false:=by decide):PE X (.Name x o) (QT i):=by intro d s p H Q I h;obtain⟨v,e,h⟩:=h;obtain⟨m,q,t⟩:=I.loc;obtain⟨u,r,l⟩:=t i x v k e n;have a:EP X d p Q u s:=⟨v,H,I,r,h⟩;rcases l with⟨b,w⟩|⟨b,c,j,hcell⟩;exact wpAny_Name (wpAny_loadName_local I.ok.kind b q w a) f;rcases b with b|b;exact wpAny_Name (wpAny_loadName_cell I.ok.kind b j hcell a) f;exact wpAny_Name (wpAny_loadName_free I.ok.kind b j hcell a g) f
theorem LL{i j a}:PE X (.Constant (.int i) j a) (tC (.int i)):=λ_ _ _ H _ I h=>wpAny_Constant_int ⟨.int i,H,I.tok _,⟨_,rfl⟩,h⟩
def Xe{j a}:PE X (.Constant .none j a) (tC .cK):=λ_ _ _ H _ I h=>Constant_none ⟨.cK,H,I,rfl,h⟩
def Gl(X:Cx)(x:Str):Prop:=X.env.kindOf x=some .globalImplicit
theorem uM(I:Inv X aC e H s)(a:Gl X x)(b:X.mg x=some u)(h:Q u s)(c:(x==("__debug__":Str))=false:=by decide):wpAny (model X.prog X.w) X.A (eval (.Name x d) X.env) Q E s:=
 ahQ I.ok.kind a (Calls.loadGlobal_global (by rw[I.ok.glob];exact I.mod.glob.keeps I.bk) b h) c
theorem yZ(I:Inv X aC j H s)(a:Gl X x)(b:X.mg x=none)(c:bootBuiltins x=some u)(h:Q u s)(d:x≠"__name__":=by decide) (e:(x==("__debug__":Str))=false:=by decide):wpAny (model X.prog X.w) X.A (eval (.Name x f) X.env) Q E s:=by obtain⟨k,g,i⟩:=I.mod.blt;exact ahQ I.ok.kind a (Calls.loadGlobal_builtin (by rw[I.ok.glob];exact I.mod.glob.keeps I.bk) b (by rw[I.ok.blt];exact g.keeps I.bk) ((i x d).trans c) h) e
theorem wV(a:Gl X x)(b:X.mg x=some u)(r:RelV v u)(c:(x==("__debug__":Str))=false:=by decide):PE X (.Name x d) (tC v):=
 λ_ _ _ H _ I h=>uM I a b ⟨v,H,I,r,h⟩ c
def t2I(b c:TE)(k:Int->Int->Hp->Prop):St->Hp->Prop:=λa H=>b a H λx d=>c a d λy e=>∃i j,x=.int i/\y=.int j/\k i j e
variable{a b:Expr}{ta tb:TE}{pos:Pos}
def PC(X:Cx)(op:CmpOp)(a b:Expr)(t:TE):Prop:=
 ∀c s f H Q,Inv X c f H s->t f H Q->
  wpAny (model X.prog X.w) X.A (eval a X.env) (λv d=>wpAny (model X.prog X.w) X.A (eval b X.env) (λu e=>wpAny (model X.prog X.w) X.A (compareOp op v u) (EP X c f Q) X.xe e) X.xe d) X.xe s
theorem Jd(b)(h:op≠.In)(c:op≠.NotIn):behindInMarks op b=false:=by
 have e1:(op==CmpOp.In)=false:=by cases op<;>first|rfl|exact absurd rfl h
 have d:(op==CmpOp.NotIn)=false:=by cases op<;>first|rfl|exact absurd rfl c
 cases b<;>simp[behindInMarks,e1,d]
def OS(p:Int->Int->Bool)(ta tb:TE):TE:=λc H Q=>t2I ta tb (λi j d=>Q (.bl (p i j)) d) c H
abbrev tLt:TE->TE->TE:=OS λi j=>decide (i<j)
abbrev tGt:TE->TE->TE:=OS λi j=>decide (j<i)
abbrev tGe:TE->TE->TE:=OS λi j=>decide (j<=i)
abbrev acN:TE->TE->TE:=OS λi j=>decide (i=j)
abbrev acO:TE->TE->TE:=OS λi j=>!decide (i=j)
theorem B0{op:CmpOp}{p:Int->Int->Bool}(d:PE X a ta)(e:PE X b tb)(rule:∀(i j:Int)(t u:Tok)(Q:afr)(s:Shared),Q (.bool (p i j)) s->wpAny (model X.prog X.w) X.A (compareOp op (.int i t) (.int j u)) Q X.xe s):PC X op a b (OS p ta tb):=by
 intro c s o H Q I h;refine acM d e I h λv u f x y g k l m q=>?_
 obtain⟨i,j,rfl,rfl,q⟩:=q;obtain⟨t,rfl⟩:=l;obtain⟨n,rfl⟩:=m;exact rule i j t n _ f ⟨.bl _,g,k,rfl,q⟩
def WG(c:PE X a ta)(d:PE X b tb):PC X .Lt a b (tLt ta tb):=B0 c d λ_ _ _ _ _ _ h=>lt_int h
def aad(c:PE X a ta)(d:PE X b tb):PC X .Gt a b (tGt ta tb):=B0 c d λ_ _ _ _ _ _ h=>gt_int h
def WH(c:PE X a ta)(d:PE X b tb):PC X .GtE a b (tGe ta tb):=B0 c d λ_ _ _ _ _ _ h=>ge_int h
def QU(c:PE X a ta)(d:PE X b tb):PC X .Eq a b (acN ta tb):=B0 c d λ_ _ _ _ _ _ h=>eq_int (by rw[aij];exact h)
theorem QV(c:PE X a ta)(d:PE X b tb):PC X .NotEq a b (acO ta tb):=B0 c d λ_ _ _ _ _ _ h=>ne_int (by rw[bne,aij];exact h)
def acP(ta:TE):TE:=λc H Q=>ta c H λx d=>Q (.bl (decide (x=.cK))) d
theorem RelV.QW(r:RelV x v):(v==Value.none)=decide (x=.cK):=by
 cases x with
 |cK=>cases r;rfl
 |bl _=>cases r;rfl
 |int _=>obtain⟨t,rfl⟩:=r;rfl
 |str _=>obtain⟨t,rfl⟩:=r;rfl
 |Up _=>obtain⟨t,rfl⟩:=r;rfl
 |Z8 _=>obtain⟨t,rfl⟩:=r;rfl
 |ref _=>cases r;rfl
 |ty _=>cases r;rfl
theorem Xf{j pos'}(e:PE X a ta):PC X .Is a (.Constant .none j pos') (acP ta):=by
 intro c s f H Q I h;refine fP (e c s f H _ I h) λv m d=>?_
 obtain⟨x,g,i,k,l⟩:=d;exact Constant_none (is_none_gen ⟨.bl _,g,i,by rw[k.QW];rfl,l⟩)
def tB(t:TE):TT:=λd H Q=>t d H λx e=>∃c,x=.bl c/\Q c e
theorem Gz(h:PC X op a b t)(d:behindInMarks op b=false:=by first|exact Jd _ (by decide) (by decide)|rfl):PE X (.Compare a [op] [b] pos) t:=λc s e H Q I hw=>wpAny_Compare1 (h c s e H Q I hw) d
theorem za(h:PC X op a b t)(f:behindInMarks op b=false:=by first|exact Jd _ (by decide) (by decide)|rfl):PT X (.Compare a [op] [b] pos) (tB t):=by intro e s g H Q I hw;refine wpAny_isTrue_Compare1 (fP (h e s g H _ I hw) λv n f=>fP f λu o i=>fP i λc p⟨x,j,k,l,m⟩=>?_) f;obtain⟨d,rfl,q⟩:=m;cases l;exact agT ⟨j,k,q⟩
theorem Xg(h:PE X e t)(he:∀whole,isTrue e X.env whole=(do let v<-whole;standAt e.pos;holding [v] (truthy v)):=by intro _;rfl):PT X e (tB t):=by intro c s f H Q I hw;refine isTrue_plain (fP (h c s f H _ I hw) λv l⟨x,g,i,j,k⟩=>?_) (he _);obtain⟨d,rfl,q⟩:=k;cases j;exact agT ⟨g,i,q⟩
variable{tA tB':TT}{rest:List Expr}
def acQ(t u:TT):TT:=λd H Q=>t d H λc e=>if c=true then u d e Q else Q false e
def tOr(t u:TT):TT:=λd H Q=>t d H λc e=>if c=true then Q true e else u d e Q
def acR(t:TT):TT:=λd H Q=>t d H λc e=>Q (!c) e
theorem pw_and1(f:PT X a tA):PW X (.BoolOp .And [a] pos) tA:=by
 intro i d s g H Q I h;refine isTrue_and (fP (f d s g H Q I h) λc j e=>?_);cases c with|true=>exact isTrue_and_nil e|false=>exact e
theorem pw_or1(f:PT X a tA):PW X (.BoolOp .Or [a] pos) tA:=by
 intro i d s g H Q I h;refine isTrue_or (fP (f d s g H Q I h) λc j e=>?_);cases c with|false=>exact isTrue_or_nil e|true=>exact e
theorem pw_and(j:PT X a tA)(k:PW X (.BoolOp .And (b::rest) pos) tB'):PW X (.BoolOp .And (a::b::rest) pos) (acQ tA tB'):=by
 intro l d s e H Q I h;refine isTrue_and (fP (j d s e H _ I h) λc m⟨f,g,i⟩=>?_);cases c with|true=>exact k l d m e f Q g i|false=>exact⟨f,g,i⟩
theorem pw_or(j:PT X a tA)(k:PW X (.BoolOp .Or (b::rest) pos) tB'):PW X (.BoolOp .Or (a::b::rest) pos) (tOr tA tB'):=by
 intro l d s e H Q I h;refine isTrue_or (fP (j d s e H _ I h) λc m⟨f,g,i⟩=>?_);cases c with|true=>exact⟨f,g,i⟩|false=>exact k l d m e f Q g i
theorem Xh(e:PT X a tA):PT X (.UnaryOp .Not a pos) (acR tA):=by intro d s f H Q I h;exact isTrue_not (e d s f H (λc g=>Q (!c) g) I h)
def aae(ta tb:TE):TE:=λd H Q=>ta d H λx e=>∃c,x=.bl c/\if c=true then tb d e Q else Q (.bl false) e
def acS(ta tb:TE):TE:=λd H Q=>ta d H λx e=>∃c,x=.bl c/\if c=true then Q (.bl true) e else tb d e Q
def Xi{op}(h:PE X a t):PE X (.BoolOp op [a] pos) t:=λc s d H Q I hw=>BoolOp_one (h c s d H Q I hw)
theorem Xj(j:PE X a ta)(k:PE X (.BoolOp .And (b::rest) pos) tb):PE X (.BoolOp .And (a::b::rest) pos) (aae ta tb):=by
 intro d s f H Q I h;refine BoolOp_and (fP (j d s f H _ I h) λv l⟨x,g,i,m,e⟩=>?_);obtain⟨c,rfl,e⟩:=e;cases m;refine agT ?_;cases c with|true=>exact k d l f g Q i e|false=>exact⟨.bl false,g,i,rfl,e⟩
theorem aaf(j:PE X a ta)(k:PE X (.BoolOp .Or (b::rest) pos) tb):PE X (.BoolOp .Or (a::b::rest) pos) (acS ta tb):=by
 intro d s f H Q I h;refine BoolOp_or (fP (j d s f H _ I h) λv l⟨x,g,i,m,e⟩=>?_);obtain⟨c,rfl,e⟩:=e;cases m;refine agT ?_;cases c with|false=>exact k d l f g Q i e|true=>exact⟨.bl true,g,i,rfl,e⟩
def tIf(t:TT)(ta tb:TE):TE:=λd H Q=>t d H λc e=>if c=true then ta d e Q else tb d e Q
theorem QX(l:PT X c tA)(m:PE X a ta)(n:PE X b tb):PE X (.IfExp c a b pos) (tIf tA ta tb):=by
 intro e s f H Q I h;refine wpAny_IfExp (fP (l e s f H _ I h) λd g⟨i,j,k⟩=>?_);cases d with|true=>exact m e g f i Q j k|false=>exact n e g f i Q j k
end
def jl(K:W.Frag)(H:Hp)(a:Addr)(xs:List V):Prop:=
 Rd H a (.lst xs)\/
  ∃(o:Obj)(b:Array Value)(n:Nat),K.lookup a=some o/\o.cls=.type "list"/\o.dict=none/\o.data=.seq b n/\b.size<=sizeLine/\bL xs b.toList
def kH(K:W.Frag)(H:Hp)(a:Addr)(xs:List V):Prop:=
 Rd H a (.tup xs)\/
  ∃(o:Obj)(b:Array Value)(n:Nat),K.lookup a=some o/\o.cls=.type "tuple"/\o.data=.seq b n/\b.size<=sizeLine/\bL xs b.toList
def acT:Value->Option V| .none=>some .cK| .bool b=>some (.bl b)| .int i _=>some (.int i)| .str x _=>some (.str x)| .bytes b _=>some (.Up b)| .float b _=>some (.Z8 b)| .ref a=>some (.ref a)| .type n=>some (.ty n)|_=>none
theorem RelV.abs(r:RelV x u):acT u=some x:=by
 cases x with
 |cK=>cases r;rfl
 |bl _=>cases r;rfl
 |int _=>obtain⟨t,rfl⟩:=r;rfl
 |str _=>obtain⟨t,rfl⟩:=r;rfl
 |Up _=>obtain⟨t,rfl⟩:=r;rfl
 |Z8 _=>obtain⟨t,rfl⟩:=r;rfl
 |ref _=>cases r;rfl
 |ty _=>cases r;rfl
theorem RelV.inj(r:RelV x u)(q:RelV y u):x=y:=af2 (r.abs.symm.trans q.abs)
theorem bL.inj:∀{xs a:List V}{us:List Value},bL xs us->bL a us->xs=a|_,_,_,.nil,.nil=>rfl|_,_,_,.cons r t,.cons b c=>by rw[r.inj b,bL.inj t c]
section
variable{X:Cx}{aC:List (Addr×Obj)}{σ:St}{H:Hp}{s:Shared}{a:Addr}{xs ys:List V}
theorem jl.of{K}(h:H a=some (.lst xs)):jl K H a xs:=.inl (.inl h)
theorem kH.of{K}(h:H a=some (.tup xs)):kH K H a xs:=.inl (.inl h)
theorem Inv.list(I:Inv X aC σ H s)(h:jl X.K H a xs):∃b,bL xs b/\PlainL s.heap a b.toArray/\xs.length<=sizeLine:=by
 rcases h with h|⟨o,b,n,c,d,f,g,i,r⟩;obtain⟨z,b,n,r,e⟩:=h.ok I.hok;exact⟨b,r,⟨_,n,e,rfl,rfl,rfl⟩,z⟩;refine⟨b.toList,r,⟨o,n,I.E1 a o c,d,f,by simpa using g⟩,?_⟩;have e:=r.length;simp only[Array.length_toList]at e
 lia
theorem Inv.tuple(I:Inv X aC σ H s)(h:kH X.K H a xs):∃b,bL xs b/\IsTup s.heap a b.toArray/\xs.length<=sizeLine:=by
 rcases h with h|⟨o,b,n,c,d,f,g,r⟩;obtain⟨z,b,r,p⟩:=h.ok I.hok;exact⟨b,r,p,z⟩;refine⟨b.toList,r,⟨o,I.E1 a o c,d,n,by simpa using f⟩,?_⟩;have e:=r.length;simp only[Array.length_toList]at e
 lia
theorem Inv.wW(I:Inv X aC σ H s)(h:jl X.K H a xs)(h':jl X.K H a ys):xs=ys:=by
 obtain⟨b,r,⟨o,n,e,_,_,d⟩,_⟩:=I.list h;obtain⟨its',g,⟨j,k,c,_,_,f⟩,_⟩:=I.list h';rw[e]at c;cases c;rw[d]at f;injection f with i _;have:b=its':=by simpa using agg Array.toList i
 subst this;exact r.inj g
end
abbrev Cx.cI(X:Cx)(E:afr):Cx:={X with xe:=E}
theorem Cx.Ok.cI{X:Cx}(a:X.Ok)(E):(X.cI E).Ok:=
 ⟨a.mod,a.kind,a.glob,a.blt,a.above,a.inj,a.has,a.ZL,a.hd,a.frames,a.stk,a.exf,a.bs,a.QO,a.OQ,a.OR,a.yY,a.WE⟩
theorem Cx.Ok.sD{X:Cx}{E}(a:(X.cI E).Ok):X.Ok:=
 ⟨a.mod,a.kind,a.glob,a.blt,a.above,a.inj,a.has,a.ZL,a.hd,a.frames,a.stk,a.exf,a.bs,a.QO,a.OQ,a.OR,a.yY,a.WE⟩
section
variable{X:Cx}{aC:List (Addr×Obj)}{σ:St}{H:Hp}{s:Shared}{E:afr}
theorem Inv.cI(I:Inv X aC σ H s)(E):Inv (X.cI E) aC σ H s:=⟨I.ok.cI E,I.os,I.bare,I.base,I.loc,I.cell,I.free,I.l0,I.pin,I.hok,I.len⟩
theorem Inv.sD(I:Inv (X.cI E) aC σ H s):Inv X aC σ H s:=⟨I.ok.sD,I.os,I.bare,I.base,I.loc,I.cell,I.free,I.l0,I.pin,I.hok,I.len⟩
end
section
variable{X:Cx}{st:Stmt}{rest:List Stmt}{t u:TS}{e:Expr}{te:TE}{pos:Pos}
def aag:TS:=λD a H=>D.nx a H
def acU(t u:TS):TS:=λD a H=>t {D with nx:=u D} a H
def Ur:lS X [] aag:=λ_ _ a H _ I h=>ahJ ⟨a,H,I,h⟩
theorem mT(c:PS X st t)(d:lS X rest u):lS X (st::rest) (acU t u):=by
 intro a s g H D I h;refine aia (fP (c a s g H {D with nx:=u D} I h) λf i q=>?_);cases f with|next=>obtain⟨b,j,k,q⟩:=q;exact d a i b j D k q|ret v=>exact q|brk=>exact q|cont=>exact q
theorem mj(b:PS X st t):lS X [st] t:=by
 intro a s c H D I h;refine aia (fP (b a s c H D I h) λf d q=>?_);cases f with|next=>exact ahJ q|ret v=>exact q|brk=>exact q|cont=>exact q
def Xk:TS:=λD a H=>D.bk a H
def aah:TS:=λD a H=>D.ct a H
def QY:PS X (.Break pos) Xk:=λ_ _ a H _ I h=>wpAny_Break ⟨a,H,I,h⟩
def Je:PS X (.Continue pos) aah:=λ_ _ a H _ I h=>wpAny_Continue ⟨a,H,I,h⟩
theorem Inv.quiet(I:Inv X aC a H s):interactive X.env=false:=by simp[interactive,I.ok.kind]
def aai(te:TE):TS:=λD a H=>te a H λ_ b=>D.nx a b
theorem uN(he:PE X e te)(hs:swapsWith e none pos.line X.env=pure false:=by rfl):PS X (.Expr e pos) (aai te):=by intro a s b H D I h;exact wpAny_Expr_any (fP (he a s b H _ I h) λv g⟨x,c,d,i,f⟩=>⟨b,c,d,f⟩) I.quiet hs
def aaj(te:TE):TS:=λD a H=>te a H D.rt
theorem vS(he:PE X e te):PS X (.Return (some e) pos) (aaj te):=by intro a s b H D I h;exact wpAny_Return_some (fP (he a s b H _ I h) λv i⟨x,c,d,f,g⟩=>⟨x,b,c,d,f,g⟩)
def aak:TS:=λD _ H=>D.rt .cK H
def Us:PS X (.Return none pos) aak:=λ_ _ a H _ I h=>wpAny_Return_none ⟨.cK,a,H,I,rfl,h⟩
def acV(c:TT)(t u:TS):TS:=λD a H=>c a H λb d=>if b=true then t D a d else u D a d
theorem aal(m:PT X c n)(o:lS X a t)(p:lS X b u):PS X (.If c a b pos) (acV n t u):=by
 intro f s g H D I h;refine wpAny_If (fP (m f s g H _ I h) λd i⟨j,k,l⟩=>?_);cases d with|true=>exact o f i g j D k l|false=>exact p f i g j D k l
end
abbrev TG:=V->St->Hp->(St->Hp->Prop)->Prop
abbrev ZM:=List V->St->Hp->(St->Hp->Prop)->Prop
def PG(X:Cx)(target:Expr)(t:TG):Prop:=
 ∀a s c H v u Q,Inv X a c H s->RelV v u->t v c H Q->
  wpAny (model X.prog X.w) X.A (assign target X.env u) (λ_ e=>∃b d,Inv X a b d e/\Q b d) X.xe s
def ZN(X:Cx)(g:List Expr)(t:ZM):Prop:=
 ∀a s c H d e Q,Inv X a c H s->bL d e->t d c H Q->
  wpAny (model X.prog X.w) X.A (assignInOrder ((assignEach g X.env).map (·.2)) e) (λ_ h=>∃b f,Inv X a b f h/\Q b f) X.xe s
abbrev aam:=V->V->V->Hp->(Hp->Prop)->Prop
def aan(X:Cx)(t:aam):Prop:=
 ∀a s b H o i v c d u Q,Inv X a b H s->RelV o c->RelV i d->RelV v u->t o i v H Q->
  wpAny (model X.prog X.w) X.A (setItem c d u) (λ_ f=>∃e,Inv X a b e f/\Q e) X.xe s
abbrev TIp:=V->V->Hp->VK->Prop
def PIp(X:Cx)(op:Operator)(t:TIp):Prop:=
 ∀a s b H x y v u Q,Inv X a b H s->RelV x v->RelV y u->t x y H Q->
  wpAny (model X.prog X.w) X.A (inplaceOp op v u) (EP X a b Q) X.xe s
section
variable{X:Cx}{pos:Pos}
def vt(i:Nat):TG:=λv a H Q=>Q (a.set i (some v)) H
theorem Nj(b:X.N.Nodup)(c:X.N[i]?=some x)(d:Loc X.env.scope x)(e:X.fn x=true\/X.env.scope.names.lookup x=some .local:=by walk_at "v"):PG X (.Name x pos) (vt i):=by intro a s g H v u Q I r h;exact wpAny_assign_Name (BY I b c d r (λj f=>⟨_,H,f,h⟩) e)
def aao:ZM:=λa b H Q=>a=[]/\Q b H
def WI(t:TG)(u:ZM):ZM:=λb c H Q=>∃v r,b=v::r/\t v c H λa d=>u r a d Q
theorem Ut:ZN X [] aao:=by intro a s b H c d Q I r h;obtain⟨e,h⟩:=h;subst e;cases r;exact assignInOrder_nil ⟨b,H,I,h⟩
theorem QZ(d:PG X e t)(f:ZN X b u)(hs:(assignEach (e::b) X.env).map (·.2)=assign e X.env::(assignEach b X.env).map (·.2):=by rfl):ZN X (e::b) (WI t u):=by
 intro a s g H n o Q I r h;obtain⟨v,p,e1,h⟩:=h;subst e1;cases r with|cons r i=>rw[hs];refine assignInOrder_cons (fP (d a s g H _ _ _ I r h) λ_ j⟨c,k,l,m⟩=>?_);exact f a j c k _ _ Q l i m
def aap(K:W.Frag)(n:Nat)(t:ZM):TG:=λv c H Q=>∃a b,v=.ref a/\kH K H a b/\b.length=n/\t b c H Q
theorem Xl(j:X.calm=true)(h:ZN X d t)(l:(assignEach d X.env).length=n:=by rfl) (f:(assignEach d X.env).findIdx? (·.1)=none:=by rfl):PG X (.Tuple d k pos) (aap X.K n t):=by
 intro c s g H v u Q I r hw;obtain⟨a,m,e1,p,q,hw⟩:=hw;subst e1;cases r;obtain⟨w,i,x,B⟩:=I.tuple p;refine assign_Tuple_tuple (I.ok.hd j) x (by simp[l,<-q,i.length]) f λy z=>?_
 have A:Inv X c g H {s with heap:=y}:=I.kept (t':=s.toks) λb o e=>z b o (af4 (afT e)) e
 exact h c _ g H m _ Q A (by simpa using i) hw
def acX(b c:TE)(t:aam):TG:=λv a H Q=>b a H λo d=>c a d λi e=>t o i v e λf=>Q a f
theorem Q0(e:PE X o f)(g:PE X i j)(hs:aan X t)(k:∀v,assign (.Subscript o i pos) X.env v=(do
   let b<-holding [v] (eval o X.env)
   let c<-holding [v,b] (eval i X.env)
   standAt pos
   holding [v,b,c] (setItem b c v)
   release [v,b,c] []):=by intro _;rfl):PG X (.Subscript o i pos) (acX f j t):=by
 intro a s d H v u Q I r h;rw[k];refine af1 (aiC (fP (e a s d H _ I h) λb l zz=>?_));obtain⟨x,m,n,p,q⟩:=zz;refine af1 (aiC (fP (g a l d m _ n q) λc w zz=>?_));obtain⟨y,z,A,B,C⟩:=zz;refine af1 (aiD (af1 (aiC (fP (hs a w d z x y v b c u _ A p B r C) λ_ N⟨E,F,G⟩=>?_))));exact wpAny_release ⟨d,E,F,G⟩
def OT(b:TE)(g:TG):TS:=λD a H=>b a H λx c=>g x a c D.nx
theorem Q3(he:PE X e d)(f:PG X b g)(hs:swapsWithSole [b] e pos.line X.env=pure false:=by rfl)(hw:swappedStores [b] e X.env=pure none:=by rfl)(i:(assignEach [b] X.env).map (·.2)=[assign b X.env]:=by rfl):PS X (.Assign [b] e pos) (OT d g):=by intro a s c H D I h;refine wpAny_Assign_stores (fP (he a s c H _ I h) λv j⟨x,k,l,m,n⟩=>?_) hs hw;rw[i];exact fP (f a j c k x v _ l m n) λ_ o q=>q
theorem vU(b:X.N.Nodup)(c:X.N[i]?=some x)(d:Loc X.env.scope x)(he:PE X e f)(hs:swapsWith e (some (.Name x pos')) pos.line X.env=pure false:=by rfl)(g:X.fn x=true\/X.env.scope.names.lookup x=some .local:=by walk_at "v"):
  PS X (.Assign [.Name x pos'] e pos) (OT f (vt i)):=by
 intro a s j H D I h;refine wpAny_Assign_Name (fP (he a s j H _ I h) λv p⟨y,k,l,m,n⟩=>?_) hs;exact BY l b c d m (λq o=>⟨_,k,o,n⟩) g
def acY(i:Nat)(b:TE)(c:TIp):TS:=λD a H=>∃x,a[i]?=some (some x)/\b a H λy d=>c x y d λz e=>D.nx (a.set i (some z)) e
theorem Xm(B:X.N.Nodup)(p:X.N[i]?=some x)(g:Loc X.env.scope x)(he:PE X e C)(E:PIp X op F)(G:X.fn x=true\/X.env.scope.names.lookup x=some .local:=by walk_at "v"):
  PS X (.AugAssign (.Name x pos') op e pos) (acY i C F):=by
 intro a s q H D I h;obtain⟨v,e1,h⟩:=h;obtain⟨m,P,Q⟩:=I.loc;have j:Av X.env.scope x:=by rcases g with k|k;exact .inl k;exact .inr (.inl k)
 obtain⟨u,r,l⟩:=Q i x v p e1 j;refine wpAny_AugAssign_Name ?_;have t:wpAny (model X.prog X.w) X.A (eval e X.env) (λw d=>wpAny (model X.prog X.w) X.A (inplaceOp op u w) (λr f=>wpAny (model X.prog X.w) X.A (storeName X.env x r) (λ_=>SP X a D .next) X.xe f) X.xe d) X.xe s:=by
  refine fP (he a s q H _ I h) λw R n=>?_
  obtain⟨y,S,T,W,Z⟩:=n;refine fP (E a R q S v y u w _ T r W Z) λz s2 o=>?_
  obtain⟨zv,H2,I2,r2,q2⟩:=o;exact BY I2 B p g r2 (λs3 I3=>⟨_,H2,I3,q2⟩) G
 rcases l with⟨b,hm⟩|⟨b,c,hc,hcell⟩;exact wpAny_loadName_local I.ok.kind b P hm t;rcases b with b|b;exact wpAny_loadName_cell I.ok.kind b hc hcell t;rcases g with k|k;have:X.env.scope.names.lookup x=some .free:=b;rw[k]at this;cases this;have:X.env.scope.names.lookup x=some .free:=b;rw[k]at this;cases this
def ipI(f:Int->Int->Int):TIp:=λx y H Q=>∃i j,x=.int i/\y=.int j/\Q (.int (f i j)) H
theorem Xn:PIp X .Add (ipI λi j=>i+j):=by intro a s e H x y v u Q I b c h;obtain⟨i,j,e1,d,q⟩:=h;subst e1;subst d;obtain⟨t,rfl⟩:=b;obtain⟨f,rfl⟩:=c;exact iadd_int ⟨.int _,H,I.tok _,⟨_,rfl⟩,q⟩
def Xo(c:TT)(h:TS):TS:=λD a H=>∃W:Nat->St->Hp->Prop,(∃m,W m a H)/\∀m a H,W m a H->
 c a H λb e=>if b=true then∃N,(∀d f,N d f->∃g,g<m/\W g d f)/\h {D with nx:=N,ct:=N,bk:=D.nx} a e else D.nx a e
theorem Jf(r:PassesOwn (model X.prog X.w) X.A X.env X.xe)(B:PT X c C)(E:lS X body F):PS X (.While c body [] pos) (Xo C F):=by
 intro a s G H D I h;obtain⟨W,⟨m0,P⟩,turn⟩:=h;refine wpAny_While (codeAny_whileLoop (λn Q=>∃g t,Inv X a g t Q/\W n g t) ?_ m0 ⟨G,H,I,P⟩);rintro n R ⟨e,u,S,T⟩;refine agU r (fP (B a R e u _ S (turn n e u T)) λb Z⟨x,y,j⟩=>?_);cases b with
 |true=>
  obtain⟨N,z,j⟩:=j;rw[afz rfl];refine agU r (fP (E a Z e x _ y j) λf s3 k=>?_);cases f with|next=>obtain⟨d,i,l,m⟩:=k;obtain⟨o,p,q⟩:=z d i m;exact⟨o,p,d,i,l,q⟩|cont=>obtain⟨d,i,l,m⟩:=k;obtain⟨o,p,q⟩:=z d i m;exact⟨o,p,d,i,l,q⟩|brk=>exact k|ret v=>exact k
 |false=>rw[afy afJ];exact ahJ ⟨e,x,y,j⟩
end
structure It where
 go:Nat->Hp->Prop
 yld:Nat->Hp->V->Hp->Prop
 stop:Nat->Hp->Prop
def Bc(X:Cx)(aC:List (Addr×Obj))(H:Hp)(b:Addr):Prop:=
 H b=none/\b≠X.env.locals/\b∉X.fs/\(b∈X.ex\/X.By.heap.objs.size<=b)/\(∀x c,X.env.cells.lookup x=some c->c≠b)/\∀p∈X.pn++aC,p.1≠b
theorem Inv.OU(I:Inv X aC h H s)(a:s.heap.objs.size<=b)(d:f b=none):Bc X aC f b:=by refine⟨d,aik (afQ I.lt a),I.acL a,.inr (af9 I.sz a),λx c e z=>?_,λp g z=>?_⟩;obtain⟨v,q⟩:=I.cell x c e;exact absurd (afQ q.lt (by rw[z];exact a)) (agp _);exact absurd (afQ (afT (I.pin p g).1) (by rw[z];exact a)) (agp _)
structure Q4(P:Program)(w:World)(K:W.Frag)(tg:Expr)(Jq:It)(fp:List Addr)(it:Addr)(tn:Nat->Heap->Prop):Prop where
 mem:it∈fp
 obj:∀i h,tn i h->∀b∈fp,∃o,h.get? b=some o/\∀v,o.data≠.cell v
 keep:∀i h h',tn i h->(∀b∈fp,∀o,h.get? b=some o->h'.get? b=some o)->tn i h'
 item:∀(X:Cx),X.prog=P->X.w=w->X.K=K->X.calm=true->∀(i:Nat)(aC:List (Addr×Obj))(s:Shared)(σ:St)(H:Hp)(E:afr),Inv X aC σ H s->(∀b∈fp,Bc X aC H b)->tn i s.heap->Jq.go i H->
  wpAny (model P w) X.A (pyNext (.ref it)) (λr s1=>∃u,r=some u/\
   wpAny (model P w) X.A (letOwnedTupleGo tg (.ref it) u) (λ_ s2=>∃x H',Inv X aC σ H' s2/\RelV x u/\Jq.yld i H x H'/\tn (i+1) s2.heap/\∀b∈fp,H' b=none) E s1) E s
 done:∀(X:Cx),X.prog=P->X.w=w->X.K=K->X.calm=true->∀(i:Nat)(aC:List (Addr×Obj))(s:Shared)(σ:St)(H:Hp)(E:afr),Inv X aC σ H s->(∀b∈fp,Bc X aC H b)->tn i s.heap->Jq.stop i H->
  wpAny (model P w) X.A (pyNext (.ref it)) (λr s1=>r=none/\Inv X aC σ H s1) E s
 self:∀(A:Around)(i:Nat)(s:Shared)(Q:afr)(E:afr),tn i s.heap->Q (.ref it) s->wpAny (model P w) A (pyIter (.ref it)) Q E s
abbrev TI:=St->Hp->(It->Hp->Prop)->Prop
def PIE(X:Cx)(aC:List (Addr×Obj))(i:St)(j:Expr)(R:It->Hp->Prop)(a:Value)(d:Shared):Prop:=
 ∃(e:Addr)(f:List Addr)(g:Nat->Heap->Prop)(h:It)(c:Hp),a=.ref e/\Inv X aC i c d/\Q4 X.prog X.w X.K j h f e g/\g 0 d.heap/\(∀b∈f,Bc X aC c b)/\R h c
def PI(X:Cx)(c iter:Expr)(d:TI):Prop:=
 ∀a(s:Shared)b H R,Inv X a b H s->d b H R->
  wpAny (model X.prog X.w) X.A (eval iter X.env) (λv e=>wpAny (model X.prog X.w) X.A (pyIter v) (PIE X a b c R) X.xe e) X.xe s
theorem WJ{M}(b:s.heap.get? c=some o)(d:o.cls=.type n)(e:o.data=.fields vs)(f:["enumerate","zip","dict_itemiterator","dict_reverseitemiterator","odict_iterator","itertools.zip_longest","itertools.pairwise"].contains n=false) (a:Q () s):wpAny M A (letOwnedTupleGo g (.ref c) u) Q E s:=by
 unfold letOwnedTupleGo;cases g<;>first
  |exact agv a
  |(cases u<;>first
    |exact agv a
    |(refine af1 (wpAny_load b ?_)
      rw[d,e];show wpAny M A (if(["enumerate","zip","dict_itemiterator","dict_reverseitemiterator","odict_iterator","itertools.zip_longest","itertools.pairwise"].contains n&&vs[0]?==some (rawInt _))=true then _ else _) Q E s;rw[afy (by intro h;rw[f,ahz]at h;cases h)];exact agv a))
def Itl(K:W.Frag)(a:Addr):It:=
 ⟨λi H=>∃b x,jl K H a b/\b[i]?=some x,λi H x c=>c=H/\∀b,jl K H a b->b[i]?=some x,λi H=>∃b,jl K H a b/\b.length<=i⟩
def Itr(lo:Int)(n:Nat):It:=⟨λi _=>i<n,λi H x a=>a=H/\x=.int (lo+i),λi _=>n<=i⟩
theorem OV{K}(a g:Addr):Q4 P w K tg (Itl K a) [g] g (λi h=>h.IsListIter g a i)where
 mem:=by simp
 obj:=λi h st b j=>by
  have e:b=g:=by simpa using j
  subst e;obtain⟨o,e,c,d⟩:=st;exact⟨o,e,λv z=>by rw[d]at z;cases z⟩
 keep:=λi h m st k=>st.at λo e=>k g (by simp) o e
 item:=by
  intro X r hw t S i f s T H E I n st y;subst r hw t;obtain⟨W,x,q,A⟩:=y;obtain⟨B,C,p,Z⟩:=I.list q;obtain⟨u,hu,ru⟩:=C.get A;obtain⟨F,G,f2,N,Q,R⟩:=n g (by simp);refine wpAny_pyNext_list_item st p.isList (x:=u) (by simpa using hu) λm l sb=>?_
  have I1:Inv X f T H {s with heap:=m}:=I.turned (t':=s.toks) (λb o j e=>(sb.2 b j).trans e) F G N Q R;obtain⟨o,e,c,d⟩:=id l;exact⟨u,rfl,WJ (s:={s with heap:=m}) e c d (by decide) ⟨x,H,I1,ru,⟨rfl,λys hy=>by rw[I.wW hy q];exact A⟩,l,λb j=>(n b j).1⟩⟩
 done:=by intro X r hw t S i f s T H E I n st y;subst r hw t;obtain⟨W,q,A⟩:=y;obtain⟨B,C,p,Z⟩:=I.list q;obtain⟨F,G,f2,N,Q,R⟩:=n g (by simp);have hl:=C.length;exact wpAny_pyNext_list_end (I.ok.hd S) st p.isList (by simp;lia) λm eb=>⟨rfl,I.turned (t':=s.toks) (λb o j e=>eb b o j e) F G N Q R⟩
 self:=λ_ _ _ _ _ st h=>wpAny_pyIter_listiter st h
theorem LM{K}(a)(lo:Int)(n:Nat):Q4 P w K T (Itr lo n) [a] a (λi h=>IsRangeIter h a (lo+(i:Nat)*1) ((n:Int)-(i:Nat)) 1)where
 mem:=by simp
 obj:=λi h st b d=>by
  have e:b=a:=by simpa using d
  subst e;exact⟨_,st,λv z=>by have F:Data.fields _=Data.cell v:=z;cases F⟩
 keep:=λi h g st k=>k a (by simp) _ st
 item:=by
  intro X l hw m p i c s B H E I j st q;subst l hw m;obtain⟨r,u,G,x,y,A⟩:=j a (by simp);have W:=Walks.range (prog:=X.prog) (w:=X.w) (I.ok.hd p) a lo 1 n;refine W.item i s _ _ q st λv g C N f Q=>?_
  obtain⟨t,rfl⟩:=N;have R:Inv X c B H {s with heap:=g,toks:=C}:=I.turned (λb o d e=>Q b o (by simpa using d) e) r u x y A;refine⟨_,rfl,WJ (s:={s with heap:=g,toks:=C}) (n:="range_iterator") f rfl rfl (by decide) ⟨.int (lo+i),H,R,⟨t,?_⟩,⟨rfl,rfl⟩,f,λb d=>(j b d).1⟩⟩;rw[ah5]
 done:=by intro X l hw m p i c s B H E I j st q;subst l hw m;obtain⟨r,u,G,x,y,A⟩:=j a (by simp);exact wpAny_pyNext_range_end (I.ok.hd p) st (by have:n<=i:=q;lia) λg S=>⟨rfl,I.turned (t':=s.toks) (λb o d e=>S b o d e) r u x y A⟩
 self:=λ_ _ _ _ _ st h=>wpAny_pyIter_rangeiter st h
section
variable{X:Cx}{tg:Expr}
def aar(K:W.Frag)(tl:TE):TI:=λc H R=>tl c H λx b=>∃a,x=.ref a/\(∃d,jl K b a d)/\R (Itl K a) b
theorem Uu(i:PE X l tl):PI X tg l (aar X.K tl):=by
 intro c s j H R I h;refine fP (i c s j H _ I h) λv d g=>?_
 obtain⟨x,k,f,m,n⟩:=g;obtain⟨a,e,⟨w,r⟩,q⟩:=n;subst e;cases m;obtain⟨t,y,p,z⟩:=f.list r;refine wpAny_pyIter_list p.isList ?_;refine⟨d.heap.objs.size,[d.heap.objs.size],_,_,k,rfl,f.kept (t':=d.toks) λb o e=>afP _ e,OV a _,⟨_,af8 _ rfl,rfl,rfl⟩,λb u=>?_,q⟩;have e:b=d.heap.objs.size:=by simpa using u
 subst e;exact f.OU (afI _) (f.hok.fresh (afI _))
theorem Jg{aC:List (Addr×Obj)}{c:St}{H:Hp}{s}{R:It->Hp->Prop}{E}{lo a:Int}{t u v:Tok}{d}(I:Inv X aC c H s)(g:-(2^62)<=lo)(h:lo<2^62)(i:-(2^62)<=a)(j:a<2^62)(q:R (Itr lo (a-lo).toNat) H):wpAny (model X.prog X.w) X.A (pyIter (.ref s.heap.objs.size)) (PIE X aC c tg R) E {s with heap:=s.heap.push {cls:=.type "range",data:=.fields #[.int lo t,.int a u,.int 1 v]},toks:=d}:=by
 refine wpAny_pyIter_range (IsRange.new ..) (small_one g h i j) ?_;have f:Inv X aC c H {s with heap:=s.heap.push {cls:=.type "range",data:=.fields #[.int lo t,.int a u,.int 1 v]},toks:=d}:=I.kept λb o e=>afP _ e
 refine⟨(s.heap.push {cls:=.type "range",data:=.fields #[.int lo t,.int a u,.int 1 v]}).objs.size,[(s.heap.push {cls:=.type "range",data:=.fields #[.int lo t,.int a u,.int 1 v]}).objs.size],_,_,H,rfl,
  f.kept (t':=d) λb o e=>afP _ e,LM _ lo (a-lo).toNat,?_,λb k=>?_,q⟩
 have e1:lo+((0:Nat):Int)*1=lo:=by simp
 have l:(((a-lo).toNat:Nat):Int)-((0:Nat):Int)=Builtin.Range.rangeSize lo a 1:=by rw[rangeSize_one];split<;>lia
 show IsRangeIter _ _ (lo+((0:Nat):Int)*1) ((((a-lo).toNat:Nat):Int)-((0:Nat):Int)) 1;rw[e1,l];exact af8 _ rfl;have e:b=(s.heap.push {cls:=.type "range",data:=.fields #[.int lo t,.int a u,.int 1 v]}).objs.size:=by simpa using k
 subst e;exact f.OU (afI _) (f.hok.fresh (afI _))
def aas(a:TA):TI:=λb H R=>a b H λc d=>∃j,c=[.int j]/\-(2^62)<=j/\j<2^62/\R (Itr 0 j.toNat) d
def aat(a:TA):TI:=λb H R=>a b H λc d=>∃i j,c=[.int i,.int j]/\(-(2^62)<=i/\i<2^62/\-(2^62)<=j/\j<2^62)/\R (Itr i (j-i).toNat) d
theorem OW{a}{f:TA}{p b}(g:Gl X "range")(i:X.mg "range"=none)(k:PA X [a] f)(hs:starEach [a] X.env=[(false,eval a X.env)]:=by rfl):PI X tg (.Call (.Name "range" p) [a] [] b) (aas f):=by
 intro c s l H R I h;refine Call_ (yZ I g i boot_range (agx (fP (k b c s l H _ I h) λv w⟨x,y,m,n,d⟩=>?_) hs rfl));obtain⟨j,e,d,o,q⟩:=d;subst e;cases n with
 |cons r u=>cases u;obtain⟨t,rfl⟩:=r;exact call_range_1 (Jg m (by lia) (by lia) d o (by simpa using q))
theorem OX(l:Gl X "range")(m:X.mg "range"=none)(n:PA X [a,b] o)(hs:starEach [a,b] X.env=[(false,eval a X.env),(false,eval b X.env)]:=by rfl)(c:starEach [b] X.env=[(false,eval b X.env)]:=by rfl):
  PI X tg (.Call (.Name "range" p) [a,b] [] f) (aat o):=by
 intro d s u H R I h;refine Call_ (yZ I l m boot_range (agx (fP (n f d s u H _ I h) λB C⟨E,F,v,w,g⟩=>?_) (by rw[hs,c]) (by rw[c];rfl)));obtain⟨i,j,e,⟨g,x,y,z⟩,q⟩:=g;subst e;cases w with
 |cons r k=>
  cases k with
  |cons A k=>cases k;obtain⟨t,rfl⟩:=r;obtain⟨G,rfl⟩:=A;exact call_range_2 (Jg v g x y z q)
def ac0(h:TI)(g:TG)(j:TS):TS:=λD a H=>h a H λd k=>∃W:Nat->Nat->St->Hp->Prop,(∃m,W 0 m a k)/\∀i m a H,W i m a H->
 (d.stop i H/\D.nx a H)\/(d.go i H/\∃N,(∀b c,N b c->∃f,f<m/\W (i+1) f b c)/\∀x c,d.yld i H x c->g x a c λe l=>j {D with nx:=N,ct:=N,bk:=D.nx} e l)
def B3(a:List Addr)(h:Heap):List (Addr×Obj):=a.filterMap λb=>(h.get? b).map λo=>(b,o)
def vV(a:b∈c)(e:h.get? b=some o):(b,o)∈B3 c h:=aiE.mpr ⟨b,a,by rw[e];rfl⟩
theorem OY(a:p∈B3 c h):p.1∈c/\h.get? p.1=some p.2:=by
 obtain⟨b,d,e⟩:=aiE.mp a;cases q:h.get? b with
 |none=>rw[q]at e;cases e
 |some o=>rw[q]at e;have f:(b,o)=p:=af2 e;subst f;exact⟨d,q⟩
theorem Inv.pinned(I:Inv X aC g H s)(h:∀b∈a,Bc X aC H b)(i:∀b∈a,∃o,s.heap.get? b=some o/\∀v,o.data≠.cell v):Inv X (aC++B3 a s.heap) g H s:=
 I.Gy λp j=>(agt.mp j).elim (λz=>I.pin p (agl _ z)) λz=>by obtain⟨c,e⟩:=OY z;obtain⟨k,l,m,_⟩:=h p.1 c;obtain⟨o,f,d⟩:=i p.1 c;rw[e]at f;cases f;exact⟨e,k,l,m,d⟩
theorem Inv.wX(I:Inv X (aC++pl) a H s):Inv X aC a H s:=I.Gy λp b=>I.pin p (agl _ (ahh _ b))
theorem Xp(B:PassesOwn (model X.prog X.w) X.A X.env X.xe)(hc:X.calm=true)(hi:PI X tg iter wi)(hg:PG X tg g)(j:lS X body tb)(hs:∀x,foldedSetIterable iter X.env x=pure x:=by intro _;rfl):PS X (.For tg iter body [] ok) (ac0 wi g tb):=by
 intro a s σ H D I h;refine wpAny_For (fP (hi a s σ H _ I h) λv s1 h1=>fP h1 λvs s2 h2=>?_) hs;obtain⟨it,C,tn,Jq,H2,e,I2,T,Q,f2,W,⟨m0,w0⟩,turn⟩:=h2;subst e;have stat:∀{t:Hp},(∀b∈C,t b=none)->∀b∈C,Bc X a t b:=λhn b j=>⟨hn b j,(f2 b j).2⟩
 refine codeAny_forLoop_any (λn s'=>∃i k t,Inv X a k t s'/\tn i s'.heap/\(∀b∈C,t b=none)/\W i n k t) ?_ m0 ⟨0,σ,H2,I2,Q,λb j=>(f2 b j).1,w0⟩;rintro n s3 ⟨i,l,P,I3,E,F,w3⟩;rcases turn i n l P w3 with⟨stop,qn⟩|⟨go,N,hN,step⟩;refine agU B (fP (T.done X rfl rfl rfl hc i a s3 l P X.xe I3 (stat F) E stop) λr s4⟨R,I4⟩=>?_);subst R;exact ahJ ⟨l,P,I4,qn⟩
 ·refine agU B (fP (T.item X rfl rfl rfl hc i a s3 l P X.xe I3 (stat F) E go) λr s4⟨u,R,h4⟩=>?_);subst R;refine agU B (fP h4 λ_ s5 zz=>?_);obtain⟨x,H5,I5,r5,y5,z,S⟩:=zz;have Z:=I5.pinned (stat S) (T.obj _ _ z);refine agU B (fP (hg _ s5 l H5 x u _ Z r5 (step x H5 y5)) λ_ s6 zz=>?_);obtain⟨ds,H6,I6,q6⟩:=zz;refine agU B (fP (j _ s6 ds H6 _ I6 q6) λf s7 y=>?_);have again:∀{c:St}{p:Hp},Inv X (a++B3 C s5.heap) c p s7->N c p->∃m,m<n/\∃i k t,Inv X a k t s7/\tn i s7.heap/\(∀b∈C,t b=none)/\W i m k t:=λ{c p}q G=>by
   obtain⟨m',hm,w7⟩:=hN c p G;refine⟨m',hm,i+1,c,p,q.wX,T.keep _ _ _ z λb j o e=>(q.pin (b,o) (agl _ (agl _ (vV j e)))).1,λb j=>?_,w7⟩;obtain⟨o,e,d⟩:=T.obj _ _ z b j;exact(q.pin (b,o) (agl _ (agl _ (vV j e)))).2.1
  cases f with|next=>obtain⟨c,p,q,G⟩:=y;exact again q G|cont=>obtain⟨c,p,q,G⟩:=y;exact again q G|brk=>obtain⟨c,p,q,y⟩:=y;exact⟨c,p,q.wX,y⟩|ret v=>obtain⟨x7,c,p,q,r7,y⟩:=y;exact⟨x7,c,p,q.wX,r7,y⟩
end
abbrev R2:=V->V->Hp->VK->Prop
def Jh(X:Cx)(f:Value->Value->Sem Value)(r:R2):Prop:=
 ∀a s b H x y v u Q,Inv X a b H s->RelV x v->RelV y u->r x y H Q->
  wpAny (model X.prog X.w) X.A (f v u) (EP X a b Q) X.xe s
def UnR(X:Cx)(f:Value->Sem Value)(r:V->Hp->VK->Prop):Prop:=
 ∀a s b H x v Q,Inv X a b H s->RelV x v->r x H Q->
  wpAny (model X.prog X.w) X.A (f v) (EP X a b Q) X.xe s
def rR(X:Cx)(f:Value)(r:List V->Hp->VK->Prop):Prop:=
 ∀a s b H c d Q,Inv X a b H s->bL c d->r c H Q->
  wpAny (model X.prog X.w) X.A (call f d) (EP X a b Q) X.xe s
def Xq(r:R2)(b c:TE):TE:=λa H Q=>b a H λx d=>c a d λy e=>r x y e Q
def tUn(r:V->Hp->VK->Prop)(a:TE):TE:=λb H Q=>a b H λx c=>r x c Q
def rI(C:Int->Int->Prop)(g:Int->Int->V):R2:=λx y H Q=>∃i j,x=.int i/\y=.int j/\C i j/\Q (g i j) H
def Xr(g:Int->Int->V):R2:=λx y H Q=>∃i j,x=.int i/\y=.int j/\Q (g i j) H
def rU(g:Int->V):V->Hp->VK->Prop:=λx H Q=>∃i,x=.int i/\Q (g i) H
section
variable{X:Cx}{a b c:Expr}{ta tb tc:TE}{pos:Pos}
theorem Xs(n:PE X a ta)(o:PE X b tb){aC}{s}{d}{H}{R:V->V->Hp->Prop}(I:Inv X aC d H s)(h:ta d H λx k=>tb d k λy e=>R x y e) {Q} {f:Value->Value->Sem Value}(p:∀v u j x y e,Inv X aC d e j->RelV x v->RelV y u->R x y e->wpAny (model X.prog X.w) X.A (f v u) Q X.xe j):
  wpAny (model X.prog X.w) X.A (eval a X.env) (λv g=>wpAny (model X.prog X.w) X.A (eval b X.env) (λu i=>wpAny (model X.prog X.w) X.A (f v u) Q X.xe i) X.xe g) X.xe s:=by
 refine fP (n aC s d H _ I h) λv q l=>?_
 obtain⟨x,k,r,t,z⟩:=l;refine fP (o aC q d k _ r z) λu j m=>?_
 obtain⟨y,e,B,C,E⟩:=m;exact p v u j x y e B t C E
theorem Q5{op}{r}(e:Jh X (binaryOp op) r)(f:PE X a ta)(g:PE X b tb):PE X (.BinOp a op b pos) (Xq r ta tb):=by intro d s i H Q I h;exact wpAny_BinOp (Xs f g I h λv u j x y k l m n q=>e d j i k x y v u Q l m n q)
theorem WK(f:UnR X (unaryOp op) r)(g:PE X a ta):PE X (.UnaryOp op a pos) (tUn r ta):=by intro d s e H Q I h;exact UnaryOp_ (fP (g d s e H _ I h) λv i⟨x,j,k,l,m⟩=>f d i e j x v Q k l m)
theorem opI{f}{C}{g:Int->Int->Int}(rule:∀(i j:Int)(t u:Tok)(s:Shared)(Q:afr)(E:afr),C i j->Q (.int (g i j) s.toks) {s with toks:=s.toks+1}->wpAny (model X.prog X.w) X.A (f (.int i t) (.int j u)) Q E s):
  Jh X f (rI C λi j=>.int (g i j)):=by
 intro d s n H x y v u Q I e k h;obtain⟨i,j,rfl,rfl,l,q⟩:=h;obtain⟨t,rfl⟩:=e;obtain⟨m,rfl⟩:=k;exact rule i j t m s _ _ l ⟨.int (g i j),H,I.tok _,⟨_,rfl⟩,q⟩
theorem aau{f}{g:Int->Int->Int}(rule:∀(i j:Int)(t u:Tok)(s:Shared)(Q:afr)(E:afr),Q (.int (g i j) s.toks) {s with toks:=s.toks+1}->wpAny (model X.prog X.w) X.A (f (.int i t) (.int j u)) Q E s):
  Jh X f (Xr λi j=>.int (g i j)):=by
 intro d s m H x y v u Q I e k h;obtain⟨i,j,rfl,rfl,q⟩:=h;obtain⟨t,rfl⟩:=e;obtain⟨l,rfl⟩:=k;exact rule i j t l s _ _ ⟨.int (g i j),H,I.tok _,⟨_,rfl⟩,q⟩
def Xu:Jh X (binaryOp .Add) (Xr λi j=>.int (i+j)):=aau λ_ _ _ _ _ _ _ q=>add_int q
def Xv:Jh X (binaryOp .Sub) (Xr λi j=>.int (i-j)):=aau λ_ _ _ _ _ _ _ q=>sub_int q
def Uv:Jh X (binaryOp .Mod) (rI (λ_ j=>j≠0) λi j=>.int (i.fmod j)):=opI λ_ _ _ _ _ _ _ d q=>mod_int' d q
theorem unI{f:Value->Sem Value}{g:Int->Int}(rule:∀(i:Int)(t:Tok)(s:Shared)(Q:afr)(E:afr),Q (.int (g i) s.toks) {s with toks:=s.toks+1}->wpAny (model X.prog X.w) X.A (f (.int i t)) Q E s):
  UnR X f (rU λi=>.int (g i)):=by
 intro d s j H x v Q I e h;obtain⟨i,rfl,q⟩:=h;obtain⟨t,rfl⟩:=e;exact rule i t s _ _ ⟨.int (g i),H,I.tok _,⟨_,rfl⟩,q⟩
def Q6:UnR X (unaryOp .USub) (rU λi=>.int (-i)):=unI λ_ _ _ _ _ q=>neg_int q
theorem Q7(b)(h:op≠.In:=by decide)(d:op≠.NotIn:=by decide):behindInMarks op b=false:=by
 have e1:(op==CmpOp.In)=false:=by cases op<;>first|rfl|exact absurd rfl h
 have e:(op==CmpOp.NotIn)=false:=by cases op<;>first|rfl|exact absurd rfl d
 cases b<;>simp[behindInMarks,e1,e]
theorem Uw{op}{r}(e:Jh X (compareOp op) r)(f:PE X a ta)(g:PE X b tb)(i:behindInMarks op b=false):PE X (.Compare a [op] [b] pos) (Xq r ta tb):=by intro d s j H Q I h;exact wpAny_Compare1 (Xs f g I h λv u k x y l m n o q=>e d k j l x y v u Q m n o q) i
def aav(t:TE):TT:=λd H Q=>t d H λx e=>∃k,x=.bl k/\Q k e
theorem Nk(g:Jh X (compareOp op) r)(i:PE X a ta)(j:PE X b tb)(l:behindInMarks op b=false):PT X (.Compare a [op] [b] pos) (aav (Xq r ta tb)):=by
 intro d s f H Q I h;refine wpAny_isTrue_Compare1 (fP (i d s f H _ I h) λv m⟨x,n,o,p,q⟩=>fP (j d m f n _ o q) λu t⟨y,w,A,B,C⟩=>
  fP (g d t f w x y v u _ A p B C) λc P⟨z,E,F,G,k,e,N⟩=>?_) l
 subst e;cases G;exact agT ⟨E,F,N⟩
def GA:(sizeLine:Nat)<2^63:=by rw[aiB];decide
theorem Ji(r:bL [x] us):∃u,us=[u]/\RelV x u:=by
 cases r with
 |cons d e=>cases e;exact⟨_,rfl,d⟩
theorem Q8:rR X (.builtin "abs") (λxs H Q=>∃i,xs=[.int i]/\Q (.int (if i<0 then-i else i)) H):=by intro d s e H xs f Q I r h;obtain⟨i,rfl,q⟩:=h;obtain⟨u,rfl,t,rfl⟩:=Ji r;exact call_abs_int λu g=>⟨.int (if i<0 then-i else i),H,I.tok _,⟨_,rfl⟩,q⟩
end
structure LN(h:Heap)(x dx C:Addr)(mA:afs):Prop where
 obj:h.get? x=some (W.instObj C dx)
 ns:h.Ns1 dx mA
 ne:dx≠x
theorem OZ{h:Heap}{b}{c}(n:h.Ns1 b c):∃d,h.get? b=some d/\∀name,W.lookIn name d=some (c name):=by
 obtain⟨o,f,p,g,i,j,_,k⟩:=n;refine⟨o,g,λname=>?_⟩;have e:=k name;unfold nsFind findBy at e;rw[<-aiF]at e;unfold W.lookIn;rw[i];dsimp only;split;rename_i y q;rw[q]at e;exact agg some e;rename_i q;rw[q]at e;have a:f.toList.any (·.refKey)=false:=by rw[agb];intro y l;obtain⟨z,t,hkey⟩:=j y (Array.mem_toList_iff.mp l);simp[DictEntry.refKey,hkey]
 have m:¬f.toList.any (·.refKey)=true:=by rw[a];exact afJ
 rw[afy m];exact agg some e
theorem LN.look(I:LN h x b C c):∃a,W.InstAt h x (W.instObj C b) C (some a)/\∀name,W.lookIn name a=some (c name):=
 let⟨a,d,e⟩:=OZ I.ns
 ⟨a,⟨I.obj,rfl,rfl,d⟩,e⟩
section
variable{prog:Program}{w:World}{A:Around}{E:afr}{s:Shared}{K:W.Frag}{x dx C f:Addr}{mA:afs}{name:Str}{v:Value}
theorem Ux(X:K.In s.heap)(I:LN s.heap x dx C mA)(b:W.plainGet K C name=true)(c:W.hasDictIn K C=true)(d:W.findIn K (.ref C) name=some none) (e:mA name=some v) (a:W.handedIn v=true) (h:Q v {s with toks:=s.toks+1}):
  wpAny (model prog w) A (getAttr (.ref x) name expr) Q E s:=by
 obtain⟨j,g,i⟩:=I.look;exact W.get_value X g (aiG b).1 (W.findObj_own c d rfl (by rw[i,e])) a h
theorem Q9(X:K.In s.heap)(I:LN s.heap x dx C mA)(a:W.plainGet K C name=true)(b:W.findIn K (.ref C) name=some (some (.ref f))) (c:W.isFn K (.ref f)=true) (d:mA name=none) (h:Q (.ref f,[.ref x]) s):
  wpAny (model prog w) A (getMethod (.ref x) name pl) Q E s:=by
 obtain⟨e,g,i⟩:=I.look;exact W.method_fn X g (aiG a).1 (aiG a).2 b (ah1.mp c) (by show(W.lookIn name e).map (·.isSome)=some false;rw[i,d];rfl) h
theorem Uy(X:K.In s.heap)(I:LN s.heap x dx C mA)(hs:W.findIn K (.ref C) "__setattr__"=some (some (.builtin "object.__setattr__"))) (l:W.plainOver K C=true) (m:W.takerIn K C name=some none) (n:W.hasDictIn K C=true)(hw:PySem.Within mA ns) (hsz:ns.length<=sizeLine)(h:∀h',LN h' x dx C (λy=>if y=name then some v else mA y)->Heap.SameBut dx s.heap h'->Q () {s with heap:=h',toks:=s.toks+2}):
  wpAny (model prog w) A (setAttr (.ref x) name v) Q E s:=by
 obtain⟨u,k,z⟩:=I.look;refine W.set_plain X k hs (W.osa_open (s:={s with toks:=s.toks+1}) (r:=none) X k l m λb=>?_);obtain⟨B,o,e⟩:=W.any_some n;have p:s.heap.get? x=some ⟨.ref C,some dx,.plain, #[]⟩:=I.obj;refine af1 (agv (af1 (af1 (wpAny_loadPart p (af1 (W.Looks.here (s:={s with toks:=s.toks+1}) (W.looks_clsIn X o) ?_))))));rw[e];refine agv (a:=some dx) (af1 (agv (af1 ?_)));refine wpAny_nsSet1 (s:={s with toks:=s.toks+1}) I.ns λh' c d=>?_
 obtain⟨oD,q,t,g,i,j⟩:=c.count (PySem.Within.cons name v hw);refine af1 (wpAny_lookBehind g (by rw[i];exact pastItsLine_dict (af9 j (by rw[af5];lia))) ?_);exact agv (h _ ⟨(d.2 _ (ahI I.ne)).trans I.obj,c,I.ne⟩ d)
theorem Ra(X:K.In s.heap)(b:W.makesIn K C=true)(c:W.findIn K (.ref C) "__init__"=some (some (.ref f))) (e:W.typeIn K (.ref f)=some (.type "function"))(h:codeAny (model prog w) (A.under (.builtin "type.__call__" ⟨.ref C::vs,a⟩)) (.call (.ref f) ⟨.ref (s.heap.objs.size+1)::vs,a⟩) (W.InitBack (s.heap.objs.size+1) R) {s with heap:=(s.heap.push W.emptyDict).push (W.instObj C s.heap.objs.size)}):
  codeAny (model prog w) A (.call (.ref C) ⟨vs,a⟩) R s:=by
 obtain⟨i,g,d,t,os⟩:=s;exact W.make_core (W.makes_of X b) (W.looks_findIn X c) (λself=>W.bind_fn X self e) (.inl rfl) h
end
def nW(f:Str)(v:V):List (Str×V)->List (Str×V)
 |[]=>[(f,v)]
 |(g,x)::r=>if g=f then(g,v)::r else(g,x)::nW f v r
theorem Aw(f g)(v):∀fs:List (Str×V),(nW f v fs).lookup g=if g=f then some v else fs.lookup g
 |[]=>by
  show List.lookup g [(f,v)]=_
  by_cases h:g=f
  have a:(g==f)=true:=ah1.mpr h;simp only[List.lookup,a,if_pos h];have a:(g==f)=false:=agq.mpr h;simp only[List.lookup,a,if_neg h]
 |(k,x)::r=>by
  have c:=Aw f g v r;rw[show nW f v ((k,x)::r)=(if k=f then(k,v)::r else(k,x)::nW f v r)from rfl]
  by_cases b:k=f
  rw[afz b]
  by_cases h:g=k
  have a:(g==k)=true:=ah1.mpr h;simp only[List.lookup,a,if_pos (h.trans b)];have a:(g==k)=false:=agq.mpr h;simp only[List.lookup,a,if_neg (λe:g=f=>h (e.trans b.symm))];rw[afy b]
  by_cases h:g=k
  have a:(g==k)=true:=ah1.mpr h;simp only[List.lookup,a,if_neg (λe:g=f=>b (h.symm.trans e))];have a:(g==k)=false:=agq.mpr h;simp only[List.lookup,a];exact c
theorem zb(f)(v):∀fs:List (Str×V),f∈(nW f v fs).map (·.1)/\∀g,g∈fs.map (·.1)->g∈(nW f v fs).map (·.1)
 |[]=>⟨by simp[nW],λg h=>by simp at h⟩
 |(k,x)::r=>by
  obtain⟨b,c⟩:=zb f v r;rw[show nW f v ((k,x)::r)=(if k=f then(k,v)::r else(k,x)::nW f v r)from rfl]
  by_cases a:k=f
  rw[afz a];subst a;exact⟨by simp,λg h=>by simpa using h⟩;rw[afy a];refine⟨?_,λg h=>?_⟩;rw[afR];exact afA _ b;rw[afR]at h|-;rcases afU.mp h with e|e;exact afU.mpr (.inl e);exact afA _ (c g e)
theorem Ax(f)(v):∀fs:List (Str×V),(nW f v fs).length<=fs.length+1
 |[]=>by simp[nW]
 |(k,x)::r=>by
  have b:=Ax f v r;rw[show nW f v ((k,x)::r)=(if k=f then(k,v)::r else(k,x)::nW f v r)from rfl]
  by_cases a:k=f
  rw[afz a,af5,af5];lia;rw[afy a,af5,af5];lia
theorem Ei.some_of(r:Ei (some v) o):∃u,o=some u/\RelV v u:=by
 cases o with|none=>exact(show False from r).elim|some u=>exact⟨u,rfl,r⟩
theorem Ei.none_of(r:Ei none o):o=none:=by
 cases o with|none=>rfl|some u=>exact(show False from r).elim
theorem O0(r:RelV v u):W.handedIn u=true:=by
 cases v with
 |cK=>cases (show u=Value.none from r);rfl
 |bl b=>cases (show u=Value.bool b from r);rfl
 |int i=>obtain⟨t,e⟩:=(show∃t,u=Value.int i t from r);cases e;rfl
 |str x=>obtain⟨t,e⟩:=(show∃t,u=Value.str x t from r);cases e;rfl
 |Up b=>obtain⟨t,e⟩:=(show∃t,u=Value.bytes b t from r);cases e;rfl
 |Z8 b=>obtain⟨t,e⟩:=(show∃t,u=Value.float b t from r);cases e;rfl
 |ref a=>cases (show u=Value.ref a from r);rfl
 |ty n=>cases (show u=Value.type n from r);rfl
section
variable{P:Program}{w:World}{H H':Hp}{h h':Heap}{a C dx:Addr}{fs fs':List (Str×V)}
theorem GC(c:n6 P w H h)(e:H a=some (.ins C dx fs)):∃b,LN h a dx C b/\(∀f,Ei (fs.lookup f) (b f))/\PySem.Within b (fs.map (·.1))/\fs.length<=1000/\H dx=some (.own a):=by obtain⟨d,z,g,i,b,n,r,q⟩:=(show iH P w H h a (.ins C dx fs)from c a _ e);exact⟨b,⟨i,n,g⟩,r,q,z,d⟩
end
structure vj(K:W.Frag)(C:Addr):Prop where
 pg:W.plainGet K C Str.empty=true
 hd:W.hasDictIn K C=true
 po:W.plainOver K C=true
 sa:W.findIn K (.ref C) "__setattr__"=some (some (.builtin "object.__setattr__"))
theorem vj.get{K}(c:vj K C)(f):W.plainGet K C f=true:=c.pg
def aZ(K:W.Frag)(C:Addr)(f:Str):Prop:=W.findIn K (.ref C) f=some none
theorem aZ.aaw{K}(n:aZ K C f):W.takerIn K C f=some none:=by unfold W.takerIn;rw[show W.findIn K (.ref C) f=some none from n];rfl
structure Bd(K:W.Frag)(C:Addr)(m:Str)(f:Addr):Prop where
 at_:W.findIn K (.ref C) m=some (some (.ref f))
 fn:W.isFn K (.ref f)=true
 kp:W.keepIn K (.ref f)=true
section
variable{X:Cx}{aC:List (Addr×Obj)}{σ:St}{H:Hp}{s:Shared}{a C dx:Addr}{fs:List (Str×V)}{f:Str}{v:V}{A:Around}{E:afr}
theorem B4(I:Inv X aC σ H s)(e:H a=some (.ins C dx fs))(c:vj X.K C)(n:aZ X.K C f)(l:fs.lookup f=some v)(h:∀u s',Inv X aC σ H s'->RelV v u->Q u s'):wpAny (model X.prog X.w) A (getAttr (.ref a) f b) Q E s:=by obtain⟨g,i,r,_,_,_⟩:=GC I.hok e;obtain⟨u,j,d⟩:=Ei.some_of (v:=v) (o:=g f) (by rw[<-l];exact r f);exact Ux I.E1 i (c.get f) c.hd n j (O0 d) (h u _ (I.tok _) d)
theorem vW(I:Inv X aC σ H s)(e:H a=some (.ins C dx fs))(c:vj X.K C)(k:Bd X.K C m g)(l:fs.lookup m=none)(h:Q (.ref g,[.ref a]) s):wpAny (model X.prog X.w) A (getMethod (.ref a) m pl) Q E s:=by obtain⟨b,d,r,_,_,_⟩:=GC I.hok e;have i:b m=none:=Ei.none_of (by rw[<-l];exact r m);exact Q9 I.E1 d (c.get m) k.at_ k.fn i h
theorem B5(I:Inv X aC σ H s)(e:H a=some (.ins C dx fs))(c:vj X.K C)(n:aZ X.K C f)(R:fs.length<1000)(m:RelV y u)(h:∀s',Inv X aC σ (fD H a (.ins C dx (nW f y fs))) s'->Q () s'):wpAny (model X.prog X.w) A (setAttr (.ref a) f u) Q E s:=by
 obtain⟨j,d,r,k,_,l⟩:=GC I.hok e;have p:(fs.map (·.1)).length<=sizeLine:=by rw[afB,aiB];lia
 refine Uy I.E1 d c.sa c.po n.aaw c.hd k p λt i B=>h _ ?_
 have F:∃o,t.get? dx=some o:=let⟨o,_,_,G,_⟩:=i.ns;⟨o,G⟩;refine I.write (x:=a) (e:=dx) (by rw[e];exact True.intro) (.inr l) (λb q N z=>(B.2 b N).trans z) F ?_;refine⟨by rw[aK d.ne];exact l,?_,d.ne,i.obj,_,i.ns,λg=>?_,λg P=>?_⟩;have:=Ax f y fs;lia;show Ei ((nW f y fs).lookup g) (if g=f then some u else j g);rw[Aw]
 by_cases q:g=f
 rw[afz q,afz q];exact m;rw[afy q,afy q];exact r g
 by_cases q:g=f
 rw[q];exact(zb f y fs).1;refine(zb f y fs).2 g (k g λz=>P ?_);show(if g=f then some u else j g)=none;rw[afy q];exact z
theorem Inv.made(I:Inv X aC σ H s):Inv X aC σ (fD (fD H s.heap.objs.size (.own (s.heap.objs.size+1))) (s.heap.objs.size+1) (.ins C s.heap.objs.size [])) {s with heap:=(s.heap.push W.emptyDict).push (W.instObj C s.heap.objs.size)}:=by
 have e1:(s.heap.push W.emptyDict).get? s.heap.objs.size=some W.emptyDict:=af8 s.heap rfl;have d:((s.heap.push W.emptyDict).push (W.instObj C s.heap.objs.size)).get? (s.heap.objs.size+1)=some (W.instObj C s.heap.objs.size):=by
  have:=af8 (s.heap.push W.emptyDict) (o:=W.instObj C s.heap.objs.size) rfl
  rwa [ags]at this
 have g:(s.heap.push W.emptyDict).Ns s.heap.objs.size (λ_=>none):=⟨W.emptyDict, #[],_,e1,rfl,(λe h=>absurd h (by simp)),λ_=>rfl⟩;have i:=I.laid (a:=s.heap.objs.size) (o:=.own (s.heap.objs.size+1)) (h':=s.heap.push W.emptyDict) (t':=s.toks) (λb u q=>afP _ q) (afI _) ⟨_,e1⟩;refine i.laid (a:=s.heap.objs.size+1) (o:=.ins C s.heap.objs.size []) (t':=s.toks) (λb u q=>afP _ q) (ahc (ags _ _)) ?_;have c:s.heap.objs.size≠s.heap.objs.size+1:=af4 (agc _);refine⟨by rw[aK c,bh],agQ _,c,d,λ_=>none,(Heap.Ns1.of_empty g).at λo q=>afP _ q,λ_=>True.intro,λy j=>absurd rfl j⟩
theorem Uz(c:attributeBase e f env (eval e env)=eval e env)(h:wpAny (model prog w) A (eval e env) (λo b=>wpAny (model prog w) A (getAttr o f true) Q E b) E s):wpAny (model prog w) A (eval (.Attribute e f d) env) Q E s:=
 Attribute_any_ h (by rw[arm_eval_Attribute,c])
end
def ac2(K:W.Frag)(d:TE)(f:Str):TE:=λe H Q=>d e H λx b=>∃a C g c v,x=.ref a/\b a=some (.ins C g c)/\vj K C/\aZ K C f/\c.lookup f=some v/\Q v b
def ac3(K:W.Frag)(g h:TE)(f:Str):TS:=λD b H=>h b H λy i=>g b i λx d=>∃a C e c,x=.ref a/\d a=some (.ins C e c)/\vj K C/\aZ K C f/\c.length<1000/\
 D.nx b (fD d a (.ins C e (nW f y c)))
def aax(X:Cx)(op:Operator)(O:V->V->Hp->VK->Prop):Prop:=
 ∀a s b H x y u v Q,Inv X a b H s->RelV x u->RelV y v->O x y H Q->wpAny (model X.prog X.w) X.A (inplaceOp op u v) (EP X a b Q) X.xe s
def UA(K:W.Frag)(i j:TE)(O:V->V->Hp->VK->Prop)(f:Str):TS:=λD d H=>i d H λx e=>∃a C k g v,x=.ref a/\e a=some (.ins C k g)/\vj K C/\aZ K C f/\g.lookup f=some v/\
 j d e λy l=>O v y l λz h=>∃c b,h a=some (.ins C c b)/\b.length<1000/\D.nx d (fD h a (.ins C c (nW f z b)))
section
variable{X:Cx}{o e value:Expr}{f:Str}{pos pos' aay:Pos}{ta tv:TE}
theorem LO(he:PE X e ta)(d:attributeBase e f X.env (eval e X.env)=eval e X.env):PE X (.Attribute e f pos) (ac2 X.K ta f):=by intro b s g H Q I h;refine Uz d (fP (he b s g H _ I h) λu w zz=>?_);obtain⟨x,i,j,k,a,C,y,z,v,m,p,c,n,l,q⟩:=zz;subst m;obtain rfl:u=Value.ref a:=k;exact B4 j p c n l λA B r t=>⟨v,i,r,t,q⟩
theorem Rb(g:PE X o ta)(i:PE X value tv)(hs:swapsWith value (some (.Attribute o f pos')) pos.line X.env=pure false):PS X (.Assign [.Attribute o f pos'] value pos) (ac3 X.K ta tv f):=by intro b s d H D I h;refine plainObj_wpAny_Assign_Attribute (fP (i b s d H _ I h) λu j⟨y,k,m,p,q⟩=>fP (g b j d k _ m q) λr E zz=>?_) hs;obtain⟨x,F,t,v,a,C,G,N,w,z,c,n,l,A⟩:=zz;subst w;obtain rfl:r=Value.ref a:=v;exact B5 t z c n l p λP B=>⟨d,_,B,A⟩
theorem O1(k:PE X o ta)(m:PE X value tv)(g:aax X op O):PS X (.AugAssign (.Attribute o f aay) op value pos) (UA X.K ta tv O f):=by
 intro b s d H D I h;refine wpAny_AugAssign_AttributeAny (fP (k b s d H _ I h) λp s1 zz=>?_);obtain⟨x,r,t,w,a,C,dx,fs,v,A,B,c,n,l,q⟩:=zz;subst A;obtain rfl:p=Value.ref a:=w;refine B4 t B c n l λu E F G=>fP (m b E d r _ F q) λN P⟨y,Q,R,S,T⟩=>fP (g b P d Q v y u N _ R G S T) λw4 s4 i=>?_
 obtain⟨z,H3,W,Z,ds,ok,j,l',q4⟩:=i;exact B5 W j c n l' Z λs5 I5=>⟨d,_,I5,q4⟩
def ac4:V->V->Hp->VK->Prop:=λx y H Q=>∃i j,x=.int i/\y=.int j/\Q (.int (i+j)) H
theorem Xw:aax X .Add ac4:=by rintro a s g H x y u v Q I c d ⟨i,j,rfl,rfl,q⟩;obtain⟨t,rfl⟩:=(show∃t,u=Value.int i t from c);obtain⟨b,rfl⟩:=(show∃b,v=Value.int j b from d);exact PyProof.Rows.iadd_int ⟨.int (i+j),H,I.tok _,⟨_,rfl⟩,q⟩
theorem WL(he:PE X e t)(I:Inv X aC i H s)(h:t i H λx j=>∃a C n fs g,x=.ref a/\j a=some (.ins C n fs)/\vj X.K C/\Bd X.K C m g/\fs.lookup m=none/\
   ∀d,Inv X aC i j d->wpAny (model X.prog X.w) X.A (callWith pos (.ref g) [.ref a] (backTo pos (starEach args X.env)) (backToKw pos (keywordEach [] X.env))) Q X.xe d)
  (v:eval (.Call (.Attribute e m b) args [] pos) X.env=(do
   let p<-eval e X.env
   standAt b.atName
   let(f,first)<-holding [p] (getMethod p m pl)
   callWith pos f first (backTo pos (starEach args X.env)) (backToKw pos (keywordEach [] X.env)))):
  wpAny (model X.prog X.w) X.A (eval (.Call (.Attribute e m b) args [] pos) X.env) Q X.xe s:=by
 refine ail (pl:=pl) (fP (he aC s i H _ I h) λu d zz=>?_) v;obtain⟨x,j,r,y,a,C,n,fs,g,z,B,c,k,l,q⟩:=zz;subst z;obtain rfl:u=Value.ref a:=y;exact vW r B c k l (q d r)
end
section
variable{X:Cx}{aC:List (Addr×Obj)}{σ:St}{H:Hp}{s:Shared}{A:Around}{E:afr}{Q:afr}{c:Value}{b:Bool}
end
structure cG(k:Nat)(A:Around):Prop where
 hd:A.handled=none
 dp:A.depth+3*k+5<recursionLimit
 un:A.units+16*k+200<cLine
theorem cG.mono(r:cG k A)(h:j<=k):cG j A:=⟨r.hd,by have:=r.dp;lia,by have:=r.un;lia⟩
theorem cG.deeper(r:cG (k+1) A)(env:Env):cG k (A.deeper env):=
 ⟨r.hd,by have:=r.dp;show A.depth+1+3*k+5<_;lia,by have:=r.un;show A.units+3+16*k+200<_;lia⟩
theorem LP{A:Around}{C}{us}{a}:(A.under (.builtin "type.__call__" ⟨.ref C::us,a⟩)).depth=A.depth+1:=by
 first|rfl|simp[Around.under,Code.weight,Code.isCreation,Code.isGuard,Code.isCaller,Code.frames,Code.isFrame,guardIds]
theorem LQ{A:Around}{C}{us}{a}:(A.under (.builtin "type.__call__" ⟨.ref C::us,a⟩)).units=A.units+1:=by
 first|rfl|simp[Around.under,Code.cUnits,Code.frames,Code.isFrame]
theorem cG.make(r:cG (k+1) A)(C:Addr)(us)(a):cG k (A.under (.builtin "type.__call__" ⟨.ref C::us,a⟩)):=
 ⟨r.hd,by have:=r.dp;rw[LP];lia,by have:=r.un;rw[LQ];lia⟩
theorem cG.depth(r:cG k A):A.depth<recursionLimit:=by have:=r.dp;lia
theorem cG.units(r:cG k A):A.units+64<cLine:=by have:=r.un;lia
def Rc:TA:=λ_ H Q=>Q [] H
def E3(b:TE)(c:TA):TA:=λa H Q=>b a H λx d=>c a d λe f=>Q (x::e) f
section
variable{X:Cx}{e:Expr}{es:List Expr}{te:TE}{t:TA}{pos:Pos}
def qy:PA X [] Rc:=λ_ _ _ _ H Q I h=>Calls.spliced_nil ⟨[],H,I,.nil,h⟩
theorem iA(c:PE X e te)(d:PA X es t)(hs:starEach (e::es) X.env=(false,eval e X.env)::starEach es X.env:=by rfl):PA X (e::es) (E3 te t):=by intro pos a s b H Q I h;rw[hs];show wpAny _ _ (spliced ((false,eval e X.env)::backTo pos (starEach es X.env))) _ _ s;refine Calls.spliced_cons (fP (c a s b H _ I h) λu f⟨x,g,i,j,k⟩=>?_);exact fP (d pos a f b g _ i k) λq r⟨l,m,n,o,p⟩=>⟨x::l,m,n,.cons j o,p⟩
def ac5(t:TA):TE:=λc H Q=>t c H λa b=>a.length<=sizeLine/\∀p,b p=none->Q (.ref p) (fD b p (.tup a))
def ac6(t:TA):TE:=λc H Q=>t c H λa b=>a.length<=sizeLine/\∀p,b p=none->Q (.ref p) (fD b p (.lst a))
theorem Xx{g}(h:PA X es t):PE X (.Tuple es g pos) (ac5 t):=by intro a s i H Q I j;refine wpAny_Tuple_spliced (fP (h pos a s i H _ I j) λk c⟨l,d,f,r,z,q⟩=>⟨by rw[<-r.length];exact z,?_⟩);have m:d c.heap.objs.size=none:=f.hok.fresh (afI _);refine⟨.ref c.heap.objs.size,fD d c.heap.objs.size (.tup l),f.laid (t':=c.toks) (λb u e=>afP _ e) (afI _) ?_,rfl,q _ m⟩;exact⟨z,k,r,⟨_,af8 _ rfl,rfl,_,rfl⟩⟩
theorem LR(h:PA X es t):PE X (.List es pos) (ac6 t):=by intro a s g H Q I i;refine wpAny_List_spliced (fP (h pos a s g H _ I i) λj c⟨k,d,f,r,z,q⟩=>⟨by rw[<-r.length];exact z,?_⟩);have l:d c.heap.objs.size=none:=f.hok.fresh (afI _);refine⟨.ref c.heap.objs.size,fD d c.heap.objs.size (.lst k),f.laid (t':=c.toks) (λb u e=>afP _ e) (afI _) ?_,rfl,q _ l⟩;exact⟨z,j,0,r,af8 _ rfl⟩
end
abbrev Sp:=List V->Hp->VK->XK->Prop
abbrev QD:=List Env->Hp->Shared->XK->afr
structure LS(P:Program)(w:World)(K:W.Frag)(mg:afs)(base:Heap)(A:Around)(aN:List Env)(s:Shared)(H:Hp):Prop where
 frames:A.frames=some aN
 mod:Mod K mg base
 bs:∀b o,base.get? b=some o->s.heap.get? b=some o/\H b=none
 QO:base.objs.size<=s.heap.objs.size
 yY:s.heap.FunFrames base aN
 WE:∀b∈Eh aN,H b=none
 hok:n6 P w H s.heap
 bare:AllBare s.gens
def CE(aN:List Env)(P:Program)(w:World)(H:Hp)(s:Shared)(Q:VK)(u:Value)(s':Shared):Prop:=
 ∃v a,s'.os=s.os/\AllBare s'.gens/\Un (Eh aN) [] H a s.heap s'.heap/\n6 P w a s'.heap/\RelV v u/\Q v a
def CR(CX:QD)(aN:List Env)(P:Program)(w:World)(H:Hp)(s:Shared)(Q:VK)(E:XK)(r:Result)(s':Shared):Prop:=
 match r with| .ok (.ret u)=>CE aN P w H s Q u s'| .ok _=>False| .error e=>CX aN H s E e s'
structure eH(P:Program)(w:World)(K:W.Frag)(mg:afs)(base:Heap)(CX:QD)(k:Nat)(f:Addr)(fd:FuncData)(ps:List Str)(sp:Sp):Prop where
 len:∀vs H Q E,sp vs H Q E->vs.length=ps.length
 run:∀(A:Around)(aN:List Env)(s:Shared)(H:Hp)(args:Args)(us:List Value)(vs:List V)(Q:VK)(E:XK),cG k A->LS P w K mg base A aN s H->BindsTo s fd args (ps.zip us)->bL vs us->sp vs H Q E->
  codeAny (model P w) A (.call (.ref f) args) (CR CX aN P w H s Q E) s
theorem LS.make{K}(e:LS P w K mg base A aN s H)(C)(us)(a):
  LS P w K mg base (A.under (.builtin "type.__call__" ⟨.ref C::us,a⟩)) aN s H:=⟨by first|exact e.frames|(simpa[Around.under,Code.envs,Code.isFrame,pushEnvs]using e.frames),e.mod,e.bs,e.QO,e.yY,e.WE,e.hok,e.bare⟩
section
variable{X:Cx}{aC:List (Addr×Obj)}{σ:St}{H:Hp}{s s':Shared}
theorem Inv.aaz(I:Inv X aC σ H s):LS X.prog X.w X.K X.mg X.base X.A X.stack s H:=
 ⟨I.ok.frames,I.ok.mod,I.bs,af9 I.ok.QO I.sz,I.stack,I.Gx,I.hok,I.bare⟩
theorem Inv.Ay(I:Inv X aC σ H s)(h:CE X.stack X.prog X.w H s Q u s'):EP X aC σ Q u s':=by obtain⟨v,c,os,bare,un,hok,r,q⟩:=h;obtain⟨e,g,d,t,a⟩:=s';obtain rfl:a=s.os:=os;exact⟨v,c,I.call (h':=e) (g':=g) (d':=d) (t':=t) (ch:=[]) un hok bare (λb z=>absurd z (by simp)),r,q⟩
end
def WM(sp:Sp)(a:List V)(E:XK)(t:TA):TE:=λb H Q=>t b H λc d=>sp (c++a) d Q E
def WN(C:Addr)(m:Str)(sp:Sp)(b:List V)(E:XK)(f:TE)(t:TA):TE:=λc H Q=>f c H λx d=>∃a g e,x=.ref a/\d a=some (.ins C g e)/\e.lookup m=none/\
 t c d λh i=>sp (x::(h++b)) i Q E
def WO(C:Addr)(sp:Sp)(b:List V)(E:XK)(t:TA):TE:=λd H Q=>t d H λe c=>∀x a,c x=none->c a=none->a≠x->
 sp (.ref x::(e++b)) (fD (fD c a (.own x)) x (.ins C a [])) (λv f=>v=.cK/\Q (.ref x) f) E
def Binds(K:W.Frag)(b:FuncData)(ps:List Str)(ds:List Value):Prop:=
 ∀s a,K.In s.heap->(a++ds).length=ps.length->BindsTo s b ⟨a,[]⟩ (ps.zip (a++ds))
theorem Binds.all{K:W.Frag}(h:∀us:List Value,us.length=ps.length->bindArgs b ⟨us,[]⟩=pure (ps.zip us)):Binds K b ps []:=λs us _ a=>by rw[agh]at a|-;exact .of_eq (h us a)
def qz(CX:QD)(X:Cx)(E:XK):Prop:=∀a c H s e b,Inv X a c H s->CX X.stack H s E e b->X.xe e b
section
variable{X:Cx}{CX:QD}{k:Nat}{f C:Addr}{fd:FuncData}{ps:List Str}{sp:Sp}{Jj:List V}{ds:List Value}{E:XK}{x m:Str}{p pos wY:Pos}{e o:Expr}{es:List Expr}{ta:TE}{t:TA}
theorem GD(F:eH X.prog X.w X.K X.mg X.base CX k f fd ps sp)(d:cG k X.A)(g:Binds X.K fd ps ds)(i:bL Jj ds)(j:qz CX X E)(I:Inv X aC b H s) (r:bL vs us) (h:sp (vs++Jj) H Q E):wpAny (model X.prog X.w) X.A (call (.ref f) us) (EP X aC b Q) X.xe s:=by
 have c:bL (vs++Jj) (us++ds):=r.append i;have l:(us++ds).length=ps.length:=by rw[<-c.length];exact F.len _ _ _ _ h
 refine wpAny_call (aim (F.run X.A X.stack s H ⟨us,[]⟩ (us++ds) (vs++Jj) Q E d I.aaz (g s us I.E1 l) c h) λr n a=>?_);cases r with
 |error e=>exact j aC b H s e n I a
 |ok q=>
  cases q with|ret u=>exact I.Ay a|next=>exact False.elim a|brk=>exact False.elim a|cont=>exact False.elim a
theorem BA(F:eH X.prog X.w X.K X.mg X.base CX k f fd ps sp)(d:cG k X.A)(g:Gl X x)(i:X.mg x=some (.ref f))(j:W.keepIn X.K (.ref f)=true)(l:Binds X.K fd ps ds)(n:bL Jj ds)(u:qz CX X E)(v:PA X (e::es) t) (b:(x==("__debug__":Str))=false:=by decide) (he:starEach (e::es) X.env=(false,eval e X.env)::starEach es X.env:=by rfl) (kI:(backTo pos (starEach es X.env)).any (·.1)=false:=by rfl):
  PE X (.Call (.Name x p) (e::es) [] pos) (WM sp Jj E t):=by
 intro a s y H Q I h;refine agO (uM I g i ?_ b);refine ain (h₀:=X.base) I.ok.mod.Xd j (fP (v pos a s y H _ I h) λz B⟨G,N,c,r,q⟩=>⟨c.E1,?_⟩) he kI;exact GD F d l n u c r q
theorem wZ(he:PE X o ta)(c:vj X.K C)(g:Bd X.K C m f)(F:eH X.prog X.w X.K X.mg X.base CX k f fd ps sp)(y:cG k X.A)(z:Binds X.K fd ps ds)(B:bL Jj ds)(G:qz CX X E)(N:PA X (e::es) t)(d:starEach (e::es) X.env=(false,eval e X.env)::starEach es X.env:=by rfl) (kI:(backTo pos (starEach es X.env)).any (·.1)=false:=by rfl)(P:eval (.Call (.Attribute o m wY) (e::es) [] pos) X.env=(do
   let i<-eval o X.env
   standAt wY.atName
   let(f,first)<-holding [i] (getMethod i m pl)
   callWith pos f first (backTo pos (starEach (e::es) X.env)) (backToKw pos (keywordEach [] X.env))):=by rfl):
  PE X (.Call (.Attribute o m wY) (e::es) [] pos) (WN C m sp Jj E ta t):=by
 intro b s j H Q I h;refine ail (pl:=pl) (fP (he b s j H _ I h) λu R zz=>?_) P;obtain⟨x,S,n,T,a,dx,fs,Z,ea,l,q⟩:=zz;subst Z;obtain rfl:u=Value.ref a:=T;refine vW n ea c g l ?_;refine ain (first:=[.ref a]) (h₀:=X.base) I.ok.mod.Xd g.kp (fP (N pos b R j S _ n q) λus s2⟨vs,H2,v,r,q2⟩=>⟨v.E1,?_⟩) d kI;exact GD (us:=.ref a::us) (vs:=.ref a::vs) F y z B G v (.cons rfl r) q2
theorem Jk(he:PE X o ta)(c:vj X.K C)(g:Bd X.K C m f)(F:eH X.prog X.w X.K X.mg X.base CX k f fd ps sp)(j:cG k X.A)(n:Binds X.K fd ps ds)(r:bL Jj ds)(v:qz CX X E)(y:eval (.Call (.Attribute o m wY) [] [] pos) X.env=(do
   let i<-eval o X.env
   standAt wY.atName
   let(f,first)<-holding [i] (getMethod i m pl)
   callWith pos f first (backTo pos (starEach [] X.env)) (backToKw pos (keywordEach [] X.env))):=by rfl):
  PE X (.Call (.Attribute o m wY) [] [] pos) (WN C m sp Jj E ta Rc):=by
 intro b s z H Q I h;refine ail (pl:=pl) (fP (he b s z H _ I h) λu P zz=>?_) y;obtain⟨x,R,d,B,a,S,T,G,N,l,q⟩:=zz;subst G;obtain rfl:u=Value.ref a:=B;refine vW d N c g l ?_;exact W.callWith_K0 (first:=[.ref a]) d.E1 g.kp (GD (us:=[.ref a]) (vs:=[.ref a]) F j n r v d (.cons rfl .nil) q)
structure Mk(K:W.Frag)(C f:Addr):Prop where
 makes:W.makesIn K C=true
 init:W.findIn K (.ref C) "__init__"=some (some (.ref f))
 fn:W.isFn K (.ref f)=true
 kp:W.keepIn K (.ref C)=true
theorem Jl(M:Mk X.K C f)(F:eH X.prog X.w X.K X.mg X.base CX k f fd ps sp)(j:cG (k+1) X.A)(l:Binds X.K fd ps ds)(n:bL Jj ds)(q:qz CX X E) (I:Inv X aC d H s) (r:bL vs us)(h:∀x b,H x=none->H b=none->b≠x->sp (.ref x::(vs++Jj)) (fD (fD H b (.own x)) x (.ins C b [])) (λv y=>v=.cK/\Q (.ref x) y) E):
  wpAny (model X.prog X.w) X.A (call (.ref C) us) (EP X aC d Q) X.xe s:=by
 have g:=h (s.heap.objs.size+1) s.heap.objs.size (I.hok.fresh (Nat.le_succ _)) (I.hok.fresh (afI _)) (af4 (agc _));have c:=Inv.made (C:=C) I;have i:bL (V.ref (s.heap.objs.size+1)::(vs++Jj)) (Value.ref (s.heap.objs.size+1)::(us++ds)):=.cons rfl (r.append n);have z:(Value.ref (s.heap.objs.size+1)::us++ds).length=ps.length:=by have e:=i.length;rw[F.len _ _ _ _ g]at e;exact e.symm
 refine wpAny_call (Ra (f:=f) I.E1 M.makes M.init (ah1.mp M.fn) (aim (F.run _ X.stack _ _ ⟨Value.ref (s.heap.objs.size+1)::us,[]⟩ (Value.ref (s.heap.objs.size+1)::(us++ds)) _ _ E (j.make C us [])
  (c.aaz.make C us []) (l _ (Value.ref (s.heap.objs.size+1)::us) c.E1 z) i g) λr B a=>?_))
 cases r with
 |error e=>exact q aC d _ _ e B c a
 |ok G=>
  cases G with|ret u=>obtain⟨v,N,P,R,ev,S⟩:=c.Ay a;subst ev;exact⟨R,⟨V.ref (s.heap.objs.size+1),N,P,rfl,S⟩⟩|next=>exact False.elim a|brk=>exact False.elim a|cont=>exact False.elim a
theorem Nl(M:Mk X.K C f)(F:eH X.prog X.w X.K X.mg X.base CX k f fd ps sp)(d:cG (k+1) X.A)(g:Gl X x)(i:X.mg x=some (.ref C))(j:Binds X.K fd ps ds)(l:bL Jj ds)(n:qz CX X E)(u:PA X (e::es) t) (b:(x==("__debug__":Str))=false:=by decide) (he:starEach (e::es) X.env=(false,eval e X.env)::starEach es X.env:=by rfl) (kI:(backTo pos (starEach es X.env)).any (·.1)=false:=by rfl):
  PE X (.Call (.Name x p) (e::es) [] pos) (WO C sp Jj E t):=by
 intro a s v H Q I h;refine agO (uM I g i ?_ b);refine ain (h₀:=X.base) I.ok.mod.Xd M.kp (fP (u pos a s v H _ I h) λy z⟨B,G,c,r,q⟩=>⟨c.E1,?_⟩) he kI;exact Jl M F d j l n c r q
theorem Rf(M:Mk X.K C f)(F:eH X.prog X.w X.K X.mg X.base CX k f fd ps sp)(c:cG (k+1) X.A)(d:Gl X x)(g:X.mg x=some (.ref C))(i:Binds X.K fd ps ds)(j:bL Jj ds)(l:qz CX X E)(a:(x==("__debug__":Str))=false:=by decide):PE X (.Call (.Name x p) [] [] pos) (WO C sp Jj E Rc):=by intro b s n H Q I h;refine agO (uM I d g ?_ a);exact W.callWith_K0 I.E1 M.kp (Jl (us:=[]) M F c i j l I .nil h)
end
section
variable{X:Cx}{CX:QD}{k:Nat}{f C:Addr}{fd:FuncData}{ps ks:List Str}{sp:Sp}{E:XK}{x m:Str}{p pos wY kpos:Pos}{e o:Expr}{es:List Expr}{kws:List Keyword}{te ta:TE}{t tk:TA}{nm:Option Str}
variable{g:List Value->List Value->List Value}{gV:List V->List V->List V}
end
structure fj(N P:List Str)(sc:Scope):Prop where
 kind:sc.kind=.function
 co:sc.isCoroutine=false
 gen:sc.isGenerator=false
 nd:N.Nodup
 pre:N.take P.length=P
 par:∀x∈P,sc.names.lookup x=some .local\/sc.names.lookup x=some .cell
 Xy:∀y∈sc.names,y.2≠.free
theorem E4{kindOf}{x}:∀{binds:List (Str×Value)}{m:afs},(∀v,(x,v)∉binds)->bindL kindOf binds m x=m x
 |[],_,_=>rfl
 |(n,v)::r,m,h=>by
  unfold bindL;rw[E4 λw hw=>h w (afA _ hw)];split;have:x≠n:=by rintro rfl;exact h v afH
  simp[this];rfl
theorem E5{kindOf}{x}:∀{binds:List (Str×Value)}{m:afs},(∀v,(x,v)∉binds)->bindC kindOf binds m x=m x
 |[],_,_=>rfl
 |(n,v)::r,m,h=>by
  unfold bindC;rw[E5 λw hw=>h w (afA _ hw)];split;rfl;have:x≠n:=by rintro rfl;exact h v afH
  simp[this]
theorem E6{kindOf}{x}{v}:∀{P:List Str}{vs:List Value}{i:Nat}{m:afs},P.Nodup->P[i]?=some x->vs[i]?=some v->kindOf x=some .local->
  bindL kindOf (P.zip vs) m x=some v
 |[],_,_,_,_,h,_,_=>by simp at h
 |_::_,[],_,_,_,_,h,_=>by simp at h
 |p::P,w::vs,0,m,c,a,b,d=>by simp at a b;subst a;subst b;show bindL kindOf ((p,w)::P.zip vs) m p=_;unfold bindL;rw[E4 λv e=>(agV.mp c).1 (ahK e).1,afz d];simp
 |p::P,w::vs,i+1,m,c,a,b,d=>by show bindL kindOf ((p,w)::P.zip vs) m x=_;unfold bindL;exact E6 (i:=i) (agV.mp c).2 (by simpa using a) (by simpa using b) d
theorem E7{kindOf}{x}{v}:∀{P:List Str}{vs:List Value}{i:Nat}{m:afs},P.Nodup->P[i]?=some x->vs[i]?=some v->kindOf x≠some .local->
  bindC kindOf (P.zip vs) m x=some v
 |[],_,_,_,_,h,_,_=>by simp at h
 |_::_,[],_,_,_,_,h,_=>by simp at h
 |p::P,w::vs,0,m,c,a,b,d=>by simp at a b;subst a;subst b;show bindC kindOf ((p,w)::P.zip vs) m p=_;unfold bindC;rw[E5 λv e=>(agV.mp c).1 (ahK e).1,afy d];simp
 |p::P,w::vs,i+1,m,c,a,b,d=>by show bindC kindOf ((p,w)::P.zip vs) m x=_;unfold bindC;exact E7 (i:=i) (agV.mp c).2 (by simpa using a) (by simpa using b) d
def start(N:List Str)(vs:List V):St:=vs.map some++List.replicate (N.length-vs.length) none
def mq(CX:QD)(P:Program)(w:World)(K:W.Frag)(mg:afs)(base:Heap)(N:List Str)(a:Str)(scope:Scope)(f:Addr)(c:Value)(A:Around)(aN:List Env)(s:Shared)(H:Hp)(E:XK):Cx where
 prog:=P
 w:=w
 K:=K
 mg:=mg
 base:=base
 A:=A.deeper (envOfC a scope s.heap.objs.size f c)
 N:=N
 By:=s
 H_0:=H
 env:=envOfC a scope s.heap.objs.size f c
 aN:=aN
 stack:=envOfC a scope s.heap.objs.size f c::aN
 ex:=[]
 calm:=true
 fn:=λ_=>true
 pn:=[]
 xe:=λe d=>wpAny (model P w) (A.deeper (envOfC a scope s.heap.objs.size f c)) (leaving (envOfC a scope s.heap.objs.size f c) e) (λ_ b=>CX aN H s E e b) (λg b=>CX aN H s E g b) d
theorem Jm{a:Scope}{n}{x}(h:a.names.lookup x=some .cell):∃c,(cellsFrom n a.names []).lookup x=some c:=by have q:=aib a.names n [] (.inl h);exact Option.isSome_iff_exists.mp q
theorem E8{CX:QD}{P}{w}{K}{mg:afs}{base:Heap}{N ps:List Str}{d:Str}{scope:Scope}{f:Addr}{t}{A}{aN}{s F}{H:Hp}{E:XK}{us}{vs}(S:fj N ps scope) (Q:A.handled=none) (e0:LS P w K mg base A aN s H) (X:vs.length=ps.length) (r:bL vs us)(x:InCallC s s.heap.objs.size (bindL (envOfC d scope s.heap.objs.size f t).kindOf (ps.zip us) λ_=>none) (cellsFrom (s.heap.objs.size+1) scope.names []) (bindC (envOfC d scope s.heap.objs.size f t).kindOf (ps.zip us) λ_=>none) F):
  Inv (mq CX P w K mg base N d scope f t A aN s H E) [] (start N vs) H F:=by
 have R:ps.length<=N.length:=by have:=agg List.length S.pre;rw[ag3]at this;lia
 obtain⟨B,Z,rfl,G⟩:=x.done;have j:∀b:Addr,b∉(mq CX P w K mg base N d scope f t A aN s H E).ex:=λb z=>absurd (show b∈([]:List Addr)from z) (by simp)
 refine⟨⟨e0.mod,S.kind,rfl,rfl,afI _,λy z c B g=>?_,λy l=>?_,λy c _ h=>?_,λ_=>Q,Around.frames_deeper e0.frames,.inr ⟨rfl,rfl⟩,λb z=>absurd z (j b),e0.bs,e0.QO,λb _ _=>j b,λb z=>absurd z (j b),e0.yY,e0.WE⟩,
  rfl,e0.bare,Un.kept G,⟨_,x.toInCall.ns,λi y v B g h3=>?_⟩,λy c h=>⟨_,x.cell y c h⟩,e0.hok.fresh (afI _),λy c h=>?_,λp m=>absurd (show p∈([]:List (Addr×Obj))from m) (by simp),e0.hok.kept G,?_⟩
 exact name_of_addr x.apart (af3 B) (af3 g);have l:scope.names.lookup y=some .cell\/scope.names.lookup y=some .free:=l;rcases l with l|l;exact Jm l;exact absurd rfl (S.Xy _ (af3 l));exact aiT (x.above y c (af3 h));have C:i<vs.length:=by
  unfold start at g
  by_cases C:i<vs.length
  exact C;rw[agK (by simpa using C)]at g;rw[ahs]at g;split at g<;>cases g
 have T:vs[i]?=some v:=by
  unfold start at g;rw[agj (by simpa using C),afF]at g;cases e:vs[i]? with
  |none=>rw[e]at g;cases g
  |some a=>rw[e]at g;cases g;rfl
 obtain⟨u,I,W⟩:=r.get T;have m:ps[i]?=some y:=by rw[<-S.pre,List.getElem?_take_of_lt (by lia)];exact B
 have o:ps.Nodup:=by rw[<-S.pre];exact S.nd.sublist (List.take_sublist _ _)
 refine⟨u,W,?_⟩;rcases S.par y (ahi m)with k|k;exact .inl ⟨k,E6 o m I k⟩;obtain⟨c,e⟩:=Jm (n:=s.heap.objs.size+1) k;refine .inr ⟨.inl k,c,e,?_⟩;have q:=x.cell y c e;rw[E7 o m I (by show scope.names.lookup y≠_;rw[k];decide)]at q;exact q;exact e0.hok.fresh (aiT (x.above y c (af3 h)));unfold start;show _=N.length;rw[afM,afB,ahA]
 lia
theorem aaA{CX:QD}{P}{w}{K}{mg}{base}{k:Nat}{f}{name a:Str}{params}{body}{scope}{R kV l T c ct oc}{an od}{z} {N ps} {sp:Sp} (lk:K.lookup f=some ⟨oc,od,.func (W.fnOf name a params body scope R kV l T an c ct),z⟩) (B:W.codeIn K c a=true) (S:fj N ps scope)(len:∀vs H Q E,sp vs H Q E->vs.length=ps.length)(i:∀(A:Around)(aN:List Env)(s:Shared)(H:Hp)(vs:List V)(Q:VK)(E:XK),cG k (A.deeper (envOfC a scope s.heap.objs.size f c))->sp vs H Q E->
   ∃t,lS (mq CX P w K mg base N a scope f c A aN s H E) body t/\t {nx:=λ_ g=>Q .cK g,rt:=Q} (start N vs) H):
  eH P w K mg base CX (k+1) f (W.fnOf name a params body scope R kV l T an c ct) ps sp:=by
 refine⟨len,λA aN s H args us vs Q E C e0 hb r m=>?_⟩;have hl:=len _ _ _ _ m;have X:K.In s.heap:=e0.mod.Xd.keeps λb o e=>(e0.bs b o e).1
 have F:s.heap.NoLimit:=e0.mod.nolimit.keeps λb o e=>(e0.bs b o e).1
 have hkind:∀y∈ps.zip us,scope.names.lookup y.1=some .local\/(scope.names.lookup y.1=some .cell/\((cellsFrom (s.heap.objs.size+1) scope.names []).lookup y.1).isSome=true):=λ⟨n,v⟩hy=>by rcases S.par n (ahK hy).1 with q|q;exact .inl q;exact .inr ⟨q,aib _ _ _ (.inl q)⟩
 refine codeAny_call_function C.depth (X _ _ lk) rfl S.co S.gen rfl (W.codeRec_of X B) (hb _ _ _ _ ?_);refine ahR S.kind hkind λds he Z x=>?_
 subst he;refine⟨F.keeps x.toInCall.keep,codeAny_func ?_⟩;obtain⟨t,ht,hq⟩:=i A aN s H vs Q E (C.deeper _) m;have I:Inv (mq CX P w K mg base N a scope f c A aN s H E) [] (start N vs) H Z:=E8 S C.hd e0 hl r x;refine ahf (ht [] Z (start N vs) H _ I hq) (λfl s' j=>?_) λe s' j=>j
 have p:∀{d:St}{g:Hp}{v:V}{u:Value},Inv (mq CX P w K mg base N a scope f c A aN s H E) [] d g s'->RelV v u->Q v g->CE aN P w H s Q u s':=
  λ{d g v u}h G q=>⟨v,g,h.os,h.bare,h.base,h.hok,G,q⟩
 cases fl with|ret u=>obtain⟨v,d,g,h,G,q⟩:=j;exact p h G q|next=>obtain⟨d,g,h,q⟩:=j;exact p (v:=V.cK) (u:=Value.none) h rfl q|brk=>obtain⟨_,_,_,q⟩:=j;exact False.elim q|cont=>obtain⟨_,_,_,q⟩:=j;exact False.elim q
section
variable{X:Cx}{x:Str}{p pos:Pos}{e:Expr}{es:List Expr}{t:TA}{id T:String}{r:List V->Hp->VK->Prop}
def tCB(r:List V->Hp->VK->Prop)(t:TA):TE:=λa H Q=>t a H λb c=>r b c Q
theorem Rg(d:rR X (.builtin id) r)(f:Gl X x)(g:X.mg x=none)(i:bootBuiltins x=some (.builtin id))(j:PA X (e::es) t)(k:x≠"__name__":=by decide)(b:(x==("__debug__":Str))=false:=by decide)(he:starEach (e::es) X.env=(false,eval e X.env)::starEach es X.env:=by rfl) (kI:(backTo pos (starEach es X.env)).any (·.1)=false:=by rfl):PE X (.Call (.Name x p) (e::es) [] pos) (tCB r t):=by intro a s c H Q I h;refine agO (yZ I f g i ?_ k b);exact PyProof.Rows.callWith_builtin1 (fP (j pos a s c H _ I h) λl m⟨n,o,q,u,v⟩=>d a m c o n l Q q u v) he kI
theorem zc(d:rR X (.type T) r)(f:Gl X x)(g:X.mg x=none)(i:bootBuiltins x=some (.type T))(j:PA X (e::es) t)(k:x≠"__name__":=by decide)(b:(x==("__debug__":Str))=false:=by decide)(he:starEach (e::es) X.env=(false,eval e X.env)::starEach es X.env:=by rfl) (kI:(backTo pos (starEach es X.env)).any (·.1)=false:=by rfl):PE X (.Call (.Name x p) (e::es) [] pos) (tCB r t):=by intro a s c H Q I h;refine agO (yZ I f g i ?_ k b);exact agx (fP (j pos a s c H _ I h) λl m⟨n,o,q,u,v⟩=>d a m c o n l Q q u v) he kI
end
end L2
namespace HT
open PySem PyProof.Rows
section
open PySem.SeqAt
open PySem.AutoSeq1 (wpAny_loadPart')
open PySem.MeetsSeq PySem.MeetsSeq2 PySem.MeetsSeq3
end
section
variable{prog:Program}{w:World}{A:Around}{E:afr}{s:Shared}
theorem UB(r:IsTup s.heap t vs.toArray)(u:IsTup s.heap b a.toArray)(j:vs≠[])(v:a=[]->Q (.ref t) s) (x:a≠[]->Q (.ref s.heap.objs.size) {s with heap:=s.heap.push {cls:=.type "tuple",data:=.seq (vs++a).toArray}})(hsz:vs.length+a.length<=sizeLine):wpAny (model prog w) A (binaryOp .Add (.ref t) (.ref b)) Q E s:=by
 obtain⟨⟨cls,k,data,l⟩,i,m,n,o⟩:=id r;obtain⟨⟨p,d,data2,f⟩,c,g,q,h⟩:=id u;simp only at m o g h;subst m o g h;have e:vs.toArray++a.toArray=(vs++a).toArray:=by simp
 by_cases hw:a=[]
 exact concat_meets ⟨_,i,rfl⟩ ⟨_,c,rfl⟩ noFill_tuple_add seq_tuple_add aif ah6 (ah2 _ _)
  (tuple_addW1 t b vs.toArray a.toArray n q k d l f (by simpa using j) (by simp[hw])) ⟨i,c,v hw⟩
 refine concat_meets ⟨_,i,rfl⟩ ⟨_,c,rfl⟩ noFill_tuple_add seq_tuple_add aif ah6 (ah2 _ _)
  (tuple_addW2 t b vs.toArray a.toArray n q k d l f (by simpa using j) (by simpa using hw) (by rw[List.size_toArray,List.size_toArray];exact hsz)) ⟨i,c,?_⟩
 rw[e];exact x hw
def E9(n d:Nat):Option Int->Nat
 |none=>d
 |some v=>if v<0 then(v+(n:Int)).toNat else min v.toNat n
def Jo(n d):E9 n d none=d:=rfl
theorem n8(n d k:Nat):E9 n d (some (k:Int))=min k n:=by show(if(k:Int)<0 then((k:Int)+(n:Int)).toNat else min (k:Int).toNat n)=min k n;rw[afy (by lia),agd]
end
end HT
namespace L2
open PySem PySem.Spec PyProof.Rows
abbrev TO:=St->Hp->(Option Int->Hp->Prop)->Prop
def PO(X:Cx)(e:Option Expr)(t:TO):Prop:=
 ∀a s b H Q,Inv X a b H s->t b H Q->
  wpAny (model X.prog X.w) X.A (evalPart e X.env) (λu d=>∃o c,Inv X a b c d/\IsPart u o/\Q o c) X.xe s
def UC:TO:=λ_ H Q=>Q none H
def aaB(t:TE):TO:=λa H Q=>t a H λx b=>∃i,x=.int i/\Q (some i) b
section
variable{X:Cx}{e:Expr}{te:TE}{lo hi:Option Expr}{tl th:TO}{pos p2:Pos}
def UD:PO X none UC:=by intro a s b H Q I h;rw[evalPart_none];exact agv ⟨none,H,I,.none,h⟩
theorem UE(h:PE X e te):PO X (some e) (aaB te):=by
 intro a s c H Q I hw;rw[evalPart_some];refine fP (h a s c H _ I hw) λu k b=>?_
 obtain⟨x,d,f,g,j⟩:=b;obtain⟨i,rfl,q⟩:=j;obtain⟨t,rfl⟩:=g;exact⟨some i,d,f,.int i t,q⟩
def SlR(X:Cx)(r:V->Option Int->Option Int->Hp->VK->Prop):Prop:=
 ∀a s b H x v vl c lo hi d Q,Inv X a b H s->RelV x v->s.heap.IsSliceOf d vl c .none->IsPart vl lo->IsPart c hi->r x lo hi H Q->
  ∃T id,typeLookup (.type T) "__getitem__"=pure (some (.builtin id))/\s.TypeIs v T/\wpAny (model X.prog X.w) X.A (getItem v (.ref d)) (EP X a b Q) X.xe s
def tSl(r:V->Option Int->Option Int->Hp->VK->Prop)(te:TE)(tl th:TO):TE:=λa H Q=>te a H λx b=>tl a b λl c=>th a c λu d=>r x l u d Q
theorem Jp(i:SlR X r)(he:PE X e te)(j:PO X lo tl)(k:PO X hi th):PE X (.Subscript e (.Slice lo hi none p2) pos) (tSl r te tl th):=by
 intro a s d H Q I h;refine Subscript_ (fP (he a s d H _ I h) λv m zz=>?_);obtain⟨x,n,o,p,t⟩:=zz;refine wpAny_Slice (fP (j a m d n _ o t) λvl y⟨l,z,B,C,E⟩=>fP (k a y d z _ B E) λf c zz=>?_);obtain⟨u,g,F,G,N⟩:=zz;rw[evalPart_none];refine agv ?_;have P:Inv X a d g {c with heap:=c.heap.push {cls:=.type "slice",data:=.fields #[vl,f,.none]}}:=F.kept (t':=c.toks) λb Z q=>afP _ q
 obtain⟨T,id,R,S,W⟩:=i a {c with heap:=c.heap.push {cls:=.type "slice",data:=.fields #[vl,f,.none]}} d g x v vl f l u c.heap.objs.size Q P p (Heap.IsSliceOf.new ..) C G N;show wpAny (model X.prog X.w) X.A (subscriptTail e (.Slice lo hi none p2) v (.ref c.heap.objs.size)) (EP X a d Q) X.xe {c with heap:=c.heap.push {cls:=.type "slice",data:=.fields #[vl,f,.none]}};exact tail_any (ops:=[.ref c.heap.objs.size,v]) S R W (by with_unfolding_all rfl)
def Jr(xs:List V)(lo hi:Option Int):List V:=(xs.drop (HT.E9 xs.length 0 lo)).take (HT.E9 xs.length xs.length hi-HT.E9 xs.length 0 lo)
def Js(xs:List V)(lo hi):(Jr xs lo hi).length<=xs.length:=by unfold Jr;rw[ag3,ag4];omega
def aaC(K:W.Frag):R2:=λx y H Q=>∃a b d c,x=.ref a/\y=.ref b/\kH K H a d/\kH K H b c/\d≠[]/\d.length+c.length<=sizeLine/\
 (c=[]->Q (.ref a) H)/\(c≠[]->∀p,H p=none->Q (.ref p) (fD H p (.tup (d++c))))
theorem bL.GG(r:bL xs us):us=[]↔xs=[]:=by
 cases r with|nil=>simp|cons _ _=>simp
theorem UG:Jh X (binaryOp .Add) (aaC X.K):=by intro f s C H x y v u Q I i j h;obtain⟨a,b,k,l,rfl,rfl,m,n,p,g,r,t⟩:=h;cases i;cases j;obtain⟨A,d,B,_⟩:=I.tuple m;obtain⟨sr,c,p2,_⟩:=I.tuple n;refine HT.UB B p2 (λz=>p (d.GG.mp z)) (λz=>⟨.ref a,H,I,rfl,r (c.GG.mp z)⟩) (λz=>?_) (by rw[<-d.length,<-c.length];exact g);refine⟨.ref s.heap.objs.size,_,I.laid (t':=s.toks) (o:=.tup (k++l)) (λb E q=>afP _ q) (afI _) ?_,rfl,t (λw=>z (c.GG.mpr w)) _ (I.hok.fresh (afI _))⟩;exact⟨by rw[afM];exact g,_,d.append c,IsTup.new _ _⟩
end
def B6(n:Nat)(i:Int):Option Nat:=if 0<=i then(if i<n then some i.toNat else none)else if-(n:Int)<=i then some (i+n).toNat else none
def Jt(xs:List a)(i:Int):Option a:=(B6 xs.length i).bind λj=>xs[j]?
theorem Nm(h:B6 n i=some j):seqIndex? i n=some j/\j<n/\-(n:Int)<=i/\i<n:=by
 unfold B6 at h
 by_cases b:0<=i
 rw[afz b]at h
 by_cases a:i<n
 rw[afz a]at h;have e:i.toNat=j:=af2 h;exact⟨by rw[seqIndex_of b a,e],by lia,by lia,a⟩;rw[afy a]at h;cases h;rw[afy b]at h
 by_cases a:-(n:Int)<=i
 rw[afz a]at h;have e:(i+n).toNat=j:=af2 h;exact⟨by rw[seqIndex_neg (by lia) a,e],by lia,a,by lia⟩;rw[afy a]at h;cases h
theorem Nn(h:Jt xs i=some v):∃j,seqIndex? i xs.length=some j/\xs[j]?=some v/\j<xs.length/\-(xs.length:Int)<=i/\i<xs.length:=by
 unfold Jt at h;cases e:B6 xs.length i with
 |none=>rw[e]at h;cases h
 |some j=>rw[e]at h;obtain⟨a,b,c,d⟩:=Nm e;exact⟨j,a,h,b,c,d⟩
theorem UH{a:Type}{xs:List a}{j:Nat}{v}(h:xs[j]?=some v):Jt xs (j:Int)=some v:=by
 have b:j<xs.length:=(agi.mp h).1;have e:B6 xs.length (j:Int)=some j:=by unfold B6;rw[afz (by lia),afz (by lia)];simp
 unfold Jt;rw[e];exact h
def uO(b:Expr):Prop:=∀o i,subscripted b false o i=operate [o,i] (getItem o i)
def Xz(X:Cx)(r:R2):Prop:=
 ∀value slice a s b H x y v u Q,Inv X a b H s->RelV x v->RelV y u->r x y H Q->
  subscripted slice false v u=operate [v,u] (getItem v u)->wpAny (model X.prog X.w) X.A (subscriptTail value slice v u) (EP X a b Q) X.xe s
def WQ(X:Cx)(id:String)(r:V->List V->Hp->VK->Prop):Prop:=
 ∀a s b H x c v d Q,Inv X a b H s->RelV x v->bL c d->r x c H Q->
  wpAny (model X.prog X.w) X.A (call (.builtin id) (v::d)) (EP X a b Q) X.xe s
section
variable{X:Cx}{a b:Expr}{ta tb:TE}{pos:Pos}
theorem Xz.or(h:Xz X r)(h':Xz X r'):Xz X (λx y H Q=>r x y H Q\/r' x y H Q):=by intro value slice c s d H x y v u Q I e f q g;rcases q with q|q;exact h value slice c s d H x y v u Q I e f q g;exact h' value slice c s d H x y v u Q I e f q g
theorem WQ.or{id}{r r':V->List V->Hp->VK->Prop}(h:WQ X id r)(h':WQ X id r'):WQ X id (λx xs H Q=>r x xs H Q\/r' x xs H Q):=by intro c s d H x xs v e Q I f g q;rcases q with q|q;exact h c s d H x xs v e Q I f g q;exact h' c s d H x xs v e Q I f g q
theorem Ju(d:Xz X r)(e:PE X a ta)(f:PE X b tb)(hs:uO b):PE X (.Subscript a b pos) (Xq r ta tb):=by intro c s g H Q I h;exact Subscript_ (Xs e f I h λv u i x y j k l m q=>d a b c i g j x y v u Q k l m q (hs _ _))
def XA(K:W.Frag):R2:=λx y H Q=>∃p c i v,x=.ref p/\y=.int i/\jl K H p c/\Jt c i=some v/\Q v H
def XC(K:W.Frag):R2:=λx y H Q=>∃p c i v,x=.ref p/\y=.int i/\kH K H p c/\Jt c i=some v/\Q v H
theorem Np:Xz X (XA X.K):=by
 intro value slice c s m H x y v u Q I B C h n;obtain⟨p,T,i,z,rfl,rfl,E,F,q⟩:=h;cases B;obtain⟨t,rfl⟩:=C;obtain⟨f,r,g,W⟩:=I.list E;obtain⟨j,e,G,Z,N,P⟩:=Nn F;obtain⟨w,o,k⟩:=r.get G;have R:=r.length;have hn:=GA;have d:EP X c m Q w s:=⟨z,H,I,k,q⟩
 by_cases A:0<=i
 have l:i.toNat=j:=by rw[seqIndex_of A P]at e;exact af2 e
 exact item_listR g.isList A (by lia) (by rw[l];simpa using o) d n;have l:(i+(f.toArray.size:Int)).toNat=j:=by rw[seqIndex_neg (by lia) N]at e;rw[afX,<-R];exact af2 e
 exact subscriptTail_builtinR (x:=w) g.isList.typeIs slot_list_getitem.lookup
  (wpAny_getItem_list_neg (Q:=λr S=>r=w/\EP X c m Q r S) g.isList (by lia) (by rw[afX]<;>lia) (by lia) (by rw[l];simpa using o) ⟨rfl,d⟩) n
theorem GH:Xz X (XC X.K):=by
 intro value slice c s f H x y v u Q I k l h m;obtain⟨p,N,i,z,rfl,rfl,n,o,q⟩:=h;cases k;obtain⟨t,rfl⟩:=l;obtain⟨A,r,g,P⟩:=I.tuple n;obtain⟨j,B,C,R,S,T⟩:=Nn o;obtain⟨w,E,d⟩:=r.get C;have F:=r.length;have W:=GA;have e:EP X c f Q w s:=⟨z,H,I,d,q⟩;exact subscriptTail_builtinR (x:=w) g.typeIs slot_tuple_getitem.lookup
  (getItem_tuple (j:=j) (Q:=λr G=>r=w/\EP X c f Q r G) g (by lia) (by lia) (by rw[afX,<-F];exact B) (by simpa using E) ⟨rfl,e⟩) m
theorem LU(c:List Value)(n j)(u):Obj.mapSeq (·.setIfInBounds j u) {cls:=.type "list",data:=.seq c.toArray n}={cls:=.type "list",data:=.seq (c.set j u).toArray n}:=by simp[Obj.mapSeq]
theorem Inv.lst(I:Inv X aC d H s)(h:H p=some (.lst xs)):
  ∃(c:List Value)(n:Nat),bL xs c/\s.heap.get? p=some {cls:=.type "list",data:=.seq c.toArray n}/\xs.length<=sizeLine:=by
 obtain⟨z,c,n,r,e⟩:=I.hok p _ h;exact⟨c,n,r,e,z⟩
theorem Inv.XD{aC}{g}{H}{s}{p}{xs d}{c its':List Value}{n n'}{f}(I:Inv X aC g H s)(h:H p=some (.lst xs))(j:s.heap.get? p=some {cls:=.type "list",data:=.seq c.toArray n}) (i:f {cls:=.type "list",data:=.seq c.toArray n}={cls:=.type "list",data:=.seq its'.toArray n'}) (r:bL d its') (hz:d.length<=sizeLine) (t):
  Inv X aC g (fD H p (.lst d)) {s with heap:=s.heap.update p f,toks:=t}:=by
 have e:(s.heap.update p f).get? p=some {cls:=.type "list",data:=.seq its'.toArray n'}:=by rw[ahB f j (by rw[i]<;>rfl),i]
 refine I.write (x:=p) (e:=p) (by rw[h];trivial) (.inl rfl) (λb u k q=>(agD _ _ (ahI k)).trans q) ⟨_,e⟩ ?_;exact⟨hz,its',n',r,e⟩
def aaD:V->V->V->Hp->(Hp->Prop)->Prop:=λo i v H Q=>∃p c k j,o=.ref p/\i=.int k/\H p=some (.lst c)/\B6 c.length k=some j/\Q (fD H p (.lst (c.set j v)))
theorem Jv:aan X aaD:=by
 intro c s A H o i v P R u Q I B C E h;obtain⟨p,F,k,j,rfl,rfl,m,G,q⟩:=h;cases B;obtain⟨t,rfl⟩:=C;obtain⟨d,n,r,f,N⟩:=I.lst m;obtain⟨e,S,w,x⟩:=Nm G;have g:=r.length;have T:=GA;have y:Inv X c A (fD H p (.lst (F.set j v))) {s with heap:=s.heap.update p (Obj.mapSeq (·.setIfInBounds j u))}:=
  I.XD m f (LU d n j u) (r.set E j) (by rw[afZ];exact N) s.toks
 by_cases z:0<=k
 have l:k.toNat=j:=by rw[seqIndex_of z x]at e;exact af2 e
 exact W.ki_setAt f z (by lia) (by rw[afX,<-g];exact x) (by rw[l];exact⟨_,y,q⟩);have l:(k+(d.toArray.size:Int)).toNat=j:=by rw[seqIndex_neg (by lia) w]at e;rw[afX,<-g];exact af2 e
 exact W.ki_setBack f (by lia) (by rw[afX,<-g];exact w) (by lia) (by rw[l];exact⟨_,y,q⟩)
theorem GI(lo c)(n):(sliceBounds lo c none n).1=((HT.E9 n 0 lo:Nat):Int)/\(sliceBounds lo c none n).2.1=((HT.E9 n n c:Nat):Int)/\(sliceBounds lo c none n).2.2=1:=by
 refine⟨?_,?_,rfl⟩;cases lo with
 |none=>simp[sliceBounds,HT.E9]
 |some i=>
  simp only[sliceBounds,HT.E9,Option.getD_none,show(1:Int)>0 by decide,if_true]
  by_cases h:i<0
  simp only[h,if_true]<;>lia;simp only[h,if_false]<;>lia
 cases c with
 |none=>simp[sliceBounds,HT.E9]
 |some i=>
  simp only[sliceBounds,HT.E9,Option.getD_none,show(1:Int)>0 by decide,if_true]
  by_cases h:i<0
  simp only[h,if_true]<;>lia;simp only[h,if_false]<;>lia
theorem Ek(c:List Value)(lo d):slicePick c.toArray lo d none=((c.drop (HT.E9 c.length 0 lo)).take (HT.E9 c.length c.length d-HT.E9 c.length 0 lo)).toArray:=by obtain⟨e,f,g⟩:=GI lo d c.toArray.size;unfold slicePick;rw[e,f,g];simp only[sliceRange_one,pick_run,List.size_toArray]<;>rfl
def ac7(K:W.Frag):V->Option Int->Option Int->Hp->VK->Prop:=λx lo d H Q=>∃a c,x=.ref a/\jl K H a c/\∀p,H p=none->Q (.ref p) (fD H p (.lst (Jr c lo d)))
theorem Nq:SlR X (ac7 X.K):=by intro f s t H x v vl u lo e w Q I i j k l h;obtain⟨a,c,rfl,m,q⟩:=h;cases i;obtain⟨n,r,g,p⟩:=I.list m;have d:=r.length;refine⟨"list",_,slot_list_getitem.lookup,g.isList.typeIs,?_⟩;refine wpAny_getItem_list_slice g.isList j k l .none (by simp) ?_ (by rw[List.size_toArray]<;>lia);rw[Ek,<-d];refine⟨.ref s.heap.objs.size,_,I.laid (t':=s.toks) (o:=.lst (Jr c lo e)) (λb y q=>afP _ q) (afI _) ?_,rfl,q _ (I.hok.fresh (afI _))⟩;exact⟨af9 (Js c lo e) p,_,0,(r.drop (HT.E9 c.length 0 lo)).take (HT.E9 c.length c.length e-HT.E9 c.length 0 lo),af8 _ rfl⟩
def w6:V->Bool| .cK=>true| .bl _=>true| .int _=>true| .str _=>true|_=>false
def WR:V->V->Bool| .cK,.cK=>true| .bl a,.bl b=>a==b| .bl a,.int b=>(if a then 1 else 0)==b| .int a,.bl b=>a==(if b then 1 else 0)| .int a,.int b=>a==b| .str a,.str b=>a==b|_,_=>false
theorem XE(e:RelV y u)(c:RelV x v)(g:w6 y=true)(f:w6 x=true):SeqAt.EqAt A s u v (WR y x):=by
 cases y with
 |cK=>
  cases e;cases x with
  |cK=>cases c;exact SeqAt.EqAt.same _
  |bl b=>cases c;exact SeqAt.EqAt.none_bool b
  |int b=>obtain⟨t,rfl⟩:=c;exact SeqAt.EqAt.none_int b t
  |str b=>obtain⟨t,rfl⟩:=c;exact SeqAt.EqAt.none_str b t
  |_=>exact absurd (show false=true from f) afJ
 |bl a=>
  cases e;cases x with
  |cK=>cases c;exact SeqAt.EqAt.bool_none a
  |bl b=>cases c;exact SeqAt.EqAt.bool_bool a b
  |int b=>obtain⟨t,rfl⟩:=c;exact SeqAt.EqAt.bool_int a b t
  |str b=>obtain⟨t,rfl⟩:=c;exact SeqAt.EqAt.bool_str a b t
  |_=>exact absurd (show false=true from f) afJ
 |int a=>
  obtain⟨d,rfl⟩:=e;cases x with
  |cK=>cases c;exact SeqAt.EqAt.int_none a d
  |bl b=>cases c;exact SeqAt.EqAt.int_bool a d b
  |int b=>obtain⟨t,rfl⟩:=c;exact SeqAt.EqAt.int_int a d b t
  |str b=>obtain⟨t,rfl⟩:=c;exact SeqAt.EqAt.int_str a d b t
  |_=>exact absurd (show false=true from f) afJ
 |str a=>
  obtain⟨d,rfl⟩:=e;cases x with
  |cK=>cases c;exact SeqAt.EqAt.str_none a d
  |bl b=>cases c;exact SeqAt.EqAt.str_bool a d b
  |int b=>obtain⟨t,rfl⟩:=c;exact SeqAt.EqAt.str_int a d b t
  |str b=>obtain⟨t,rfl⟩:=c;exact SeqAt.EqAt.str_str a d b t
  |_=>exact absurd (show false=true from f) afJ
 |_=>exact absurd (show false=true from g) afJ
def UI(x:V)(u:Value):Bool:=match u with| .none=>WR .cK x| .bool b=>WR (.bl b) x| .int i _=>WR (.int i) x| .str z _=>WR (.str z) x|_=>false
theorem Rh(r:RelV y u)(f:w6 y=true):UI x u=WR y x:=by
 cases y with
 |cK=>cases r;rfl
 |bl b=>cases r;rfl
 |int i=>obtain⟨t,rfl⟩:=r;rfl
 |str z=>obtain⟨t,rfl⟩:=r;rfl
 |_=>exact absurd (show false=true from f) afJ
theorem GJ:∀{xs:List V}{us:List Value},bL xs us->xs.all w6=true->us.any (UI x)=xs.any λy=>WR y x|_,_,.nil,_=>rfl|y::xs,u::us,.cons r t,f=>by rw[ah7,afL]at f;rw[agZ,agZ,Rh r f.1,GJ t f.2]
theorem B7(d:RelV x v)(e:w6 x=true):∀{xs:List V}{us:List Value},bL xs us->xs.all w6=true->∀u∈us,SeqAt.EqAt A s u v (UI x u)
 |_,_,.nil,_=>λu c=>by cases c
 |y::xs,u::us,.cons r t,f=>λg c=>by rw[ah7,afL]at f;rcases afU.mp c with rfl|c;rw[Rh r f.1];exact XE r d f.1 e;exact B7 d e t f.2 g c
def inV(x:V)(xs:List V):Bool:=xs.any λy=>WR y x
def rIn(K:W.Frag)(neg:Bool):R2:=λx y H Q=>∃p c,y=.ref p/\(jl K H p c\/kH K H p c)/\w6 x=true/\c.all w6=true/\Q (.bl (if neg then !inV x c else inV x c)) H
theorem GK:Jh X (compareOp .NotIn) (rIn X.K true):=by intro g s m H x y v u Q I i k h;obtain⟨p,n,rfl,d,j,e,q⟩:=h;cases k;rcases d with d|d;obtain⟨c,r,f,l⟩:=I.list d;refine SeqAt.notIn_listAt (UI x) f.isList (λw hw=>B7 i j r e w (by simpa using hw)) ⟨.bl _,H,I,rfl,?_⟩;rw[show c.toArray.any (UI x)=c.any (UI x)by simp,GJ r e];exact q;obtain⟨c,r,f,l⟩:=I.tuple d;refine SeqAt.notIn_tupleAt (UI x) f (λw hw=>B7 i j r e w (by simpa using hw)) ⟨.bl _,H,I,rfl,?_⟩;rw[show c.toArray.any (UI x)=c.any (UI x)by simp,GJ r e];exact q
theorem GL:rR X (.builtin "len") (λxs H Q=>∃p d,xs=[.ref p]/\(jl X.K H p d\/kH X.K H p d)/\Q (.int d.length) H):=by intro j s m H xs n Q I r h;obtain⟨p,d,rfl,e,q⟩:=h;obtain⟨u,rfl,k⟩:=Ji r;cases k;have o:=GA;rcases e with e|e;obtain⟨f,g,i,l⟩:=I.list e;have c:=g.length;exact Calls.call_len_list i.isList (by simp only[List.size_toArray]<;>lia) ⟨.int d.length,H,I.tok _,⟨s.toks+1,by rw[afX,c]⟩,q⟩;obtain⟨f,g,i,l⟩:=I.tuple e;have c:=g.length;exact len_tuple i (by simp only[List.size_toArray]<;>lia) ⟨.int d.length,H,I.tok _,⟨s.toks+1,by rw[afX,c]⟩,q⟩
theorem GN:rR X (.type "list") (λxs H Q=>∃p f,xs=[.ref p]/\(jl X.K H p f\/kH X.K H p f)/\∀l,H l=none->Q (.ref l) (fD H l (.lst f))):=by
 intro j s E H xs G Q I r h;obtain⟨p,f,rfl,k,q⟩:=h;obtain⟨u,rfl,F⟩:=Ji r;cases F;have m:∀c,bL f c->f.length<=sizeLine->∀d g,(∀b C,s.heap.get? b=some C->d.get? b=some C)->
   d.get? s.heap.objs.size=some {cls:=.type "list",dict:=none,data:=.seq c.toArray g,slots:= #[]}->EP X j E Q (.ref s.heap.objs.size) {s with heap:=d}:=λc i t d g v e=>
  ⟨.ref s.heap.objs.size,_,I.laid (t':=s.toks) v (afI _) (show iH X.prog X.w _ d _ (.lst f)from⟨t,c,g,i,e⟩),rfl,q _ (I.hok.fresh (afI _))⟩
 rcases k with k|k;obtain⟨c,i,y,t⟩:=I.list k;have x:=i.length;obtain⟨o,z,A,n,B⟩:=y.isList;exact call_list_seq p (.inl rfl) z A B (λd g v e=>m c i t d g v e) (by simp only[List.size_toArray]<;>lia);obtain⟨c,i,y,t⟩:=I.tuple k;have x:=i.length;obtain⟨o,z,A,n,B⟩:=y;exact call_list_seq p (.inr rfl) z A B (λd g v e=>m c i t d g v e) (by simp only[List.size_toArray]<;>lia)
def tyV(K:W.Frag)(T:String)(x:V)(H:Hp):Prop:=match x with
 | .str _=>T="str"
 | .int _=>T="int"
 | .ref p=>(T="list"/\∃d,jl K H p d)\/(T="tuple"/\∃o,K.lookup p=some o/\o.cls=.type "tuple"/\o.dict=none)\/
   (T="dict"/\((∃c,H p=some (.dK c))\/∃c,H p=some (.dT c)))\/(T="set"/\∃S n,H p=some (.set S n))
 |_=>False
theorem Ri(I:Inv X aC y H s)(r:RelV x v)(g:tyV X.K T x H):
  s.TypeIs v T/\∀a,v=.ref a->∃l,s.heap.get? a=some l/\l.dict=none:=by
 cases x with
 |str z=>obtain⟨t,rfl⟩:=r;cases (show T="str" from g);exact⟨typeIs_str s z t,λ_ e=>nomatch e⟩
 |int i=>obtain⟨t,rfl⟩:=r;cases (show T="int" from g);exact⟨typeIs_int s i t,λ_ e=>nomatch e⟩
 |ref p=>
  cases r;rcases g with⟨rfl,A,q⟩|⟨rfl,o,d,u,h⟩|⟨rfl,d⟩|⟨rfl,S,n,d⟩;obtain⟨w,_,m,_⟩:=I.list q;refine⟨m.isList.typeIs,λa e=>?_⟩;cases e;obtain⟨o,n,e,c,h,_⟩:=m;exact⟨o,e,h⟩;refine⟨⟨o,I.E1 p o d,u⟩,λa e=>?_⟩;cases e;exact⟨o,I.E1 _ o d,h⟩;have z:∃o,s.heap.get? p=some o/\o.ExactDict:=by rcases d with⟨j,d⟩|⟨j,d⟩;obtain⟨_,_,_,_,o,_,_,e,f,_⟩:=I.hok p _ d;exact⟨o,e,f⟩;obtain⟨_,_,_,_,o,_,_,e,f,_⟩:=I.hok p _ d;exact⟨o,e,f⟩
  obtain⟨o,e,f⟩:=z;refine⟨⟨o,e,f.1⟩,λa k=>?_⟩;cases k;exact⟨o,e,f.2.1⟩;obtain⟨o,_,_,_,e,f,_⟩:=I.hok p _ d;refine⟨⟨o,e,f.1⟩,λa k=>?_⟩;cases k;exact⟨o,e,f.2.1⟩
 |_=>exact False.elim g
def ac9(K:W.Frag)(T:String)(r:V->List V->Hp->VK->Prop)(d:TE):TE:=λe H Q=>d e H λx c=>tyV K T x c/\r x [] c Q
def tBM(K:W.Frag)(T:String)(r:V->List V->Hp->VK->Prop)(e:TE)(t:TA):TE:=λc H Q=>e c H λx d=>tyV K T x d/\t c d λf g=>r x f g Q
variable{o e:Expr}{es:List Expr}{to:TE}{t:TA}{name:Str}{wY B8:Pos}{T id:String}{r:V->List V->Hp->VK->Prop}
theorem XF(j:PlainAttrs T)(slot:Slot T name id)(d:typeOf (.builtin id)=pure (.type "method_descriptor"))(k:WQ X id r)(l:PE X o to)(l5:attributeBase o name X.env (eval o X.env)=eval o X.env:=by rfl) (n9:(wY.endLine==B8.line)=true:=by rfl):PE X (.Call (.Attribute o name wY) [] [] B8) (ac9 X.K T r to):=by intro c s f H Q I h;refine wpAny_Call_method0_late l5 n9 (fP (l c s f H _ I h) λv m⟨x,n,g,i,p,q⟩=>?_);obtain⟨u,w⟩:=Ri g i p;exact⟨T,id,j,slot,d,u,w,aih rfl (PySem.evalArgs_none (k c m f n x [] v [] Q g i .nil q))⟩
theorem Rj(k:PlainAttrs T)(slot:Slot T name id)(d:typeOf (.builtin id)=pure (.type "method_descriptor"))(l:WQ X id r)(m:PE X o to)(n:PA X (e::es) t)(l5:attributeBase o name X.env (eval o X.env)=eval o X.env:=by rfl)(hfew:((backTo B8 (starEach (e::es) X.env)).all (λx=>!x.1)&&(backToKw B8 (keywordEach [] X.env)).all (λx=>x.1.isSome)
   &&decide ((e::es).length+([]:List Keyword).length+(if([]:List Keyword).isEmpty then 0 else 1)<30))=true:=by rfl)
  (n9:(wY.endLine==B8.line)=true:=by rfl) (hs:starEach (e::es) X.env=(false,eval e X.env)::starEach es X.env:=by rfl) (hplain:(backTo B8 (starEach es X.env)).any (·.1)=false:=by rfl):
  PE X (.Call (.Attribute o name wY) (e::es) [] B8) (tBM X.K T r to t):=by
 intro c s f H Q I h;refine wpAny_Call_method_late l5 hfew n9 rfl (fP (m c s f H _ I h) λv p⟨x,q,g,i,u,w⟩=>?_);obtain⟨y,z⟩:=Ri g i u;refine⟨T,id,k,slot,d,y,z,?_⟩;have j:=n B8 c p f q _ g w;rw[hs]at j|-;refine aih (by show(false||(backTo B8 (starEach es X.env)).any (·.1))=false;rw[hplain]<;>rfl) (Calls.evalArgs_plain ?_);exact fP j λA B⟨C,E,F,G,N⟩=>l c B f E x C v A Q F i G N
end
def MtM(X:Cx)(id:String)(r:V->List V->Hp->VK->Prop):Prop:=
 ∀a s b H x c v d Q,Inv X a b H s->RelV x v->bL c d->r x c H Q->
  wpAny (model X.prog X.w) X.A (call (.builtin id) (v::d)) (EP X a b Q) X.xe s
theorem bL.one:∀{x:V}{us:List Value},bL [x] us->∃u,us=[u]/\RelV x u|_,_,.cons r .nil=>⟨_,rfl,r⟩
theorem bL.rep(h:bL xs us):∀k,bL (List.replicate k xs).flatten (List.replicate k us).flatten|0=>.nil|k+1=>by rw[agE,agE,agW,agW];exact bL.append h (bL.rep h k)
theorem foldl_rep(a:List Value):∀k bY,
  List.foldl (λb c=>b++c) bY.toArray (List.replicate k a.toArray)=(bY++(List.replicate k a).flatten).toArray
 |0,bY=>by simp
 |k+1,bY=>by
  have e:bY.toArray++a.toArray=(bY++a).toArray:=by simp
  have d:(bY++a)++(List.replicate k a).flatten=bY++(List.replicate (k+1) a).flatten:=by rw[agE,agW,agX]
  rw[<-d,<-foldl_rep a k (bY++a),<-e,agE,ahL]
section
variable{X:Cx}{aC:List (Addr×Obj)}{σ:St}{H:Hp}{s:Shared}{l b:Addr}{xs ys zs:List V}
theorem Inv.XG{a its':List Value}{n}{f}{t'}(I:Inv X aC σ H s)(c:H l=some (.lst xs))(e:s.heap.get? l=some {cls:=.type "list",data:=.seq a.toArray n}) (d:f a.toArray=its'.toArray) (g:bL ys its') (hz:ys.length<=sizeLine):
  Inv X aC σ (fD H l (.lst ys)) {s with heap:=s.heap.update l (Obj.mapSeq f),toks:=t'}:=by
 have q:=PySem.IsL.update e f;rw[d]at q;refine I.write (x:=l) (e:=l) (by rw[c];exact trivial) (.inl rfl) (λj u h i=>(agD s.heap (Obj.mapSeq f) (ahI h)).trans i) ⟨_,q⟩ ?_;exact⟨hz,its',_,g,q⟩
theorem Inv.aaF(I:Inv X aC σ H s)(c:bL ys a)(hz:ys.length<=sizeLine):
  Inv X aC σ (fD H s.heap.objs.size (.lst ys)) {s with heap:=s.heap.push {cls:=.type "list",data:=.seq a.toArray},toks:=t'}:=
 I.laid (λ_ _ q=>afP _ q) (afI _) ⟨hz,a,0,c,af8 _ rfl⟩
theorem Inv.fresh(I:Inv X aC σ H s):H s.heap.objs.size=none:=I.hok.fresh (afI _)
theorem Inv.LV(I:Inv X aC σ H s)(c:H l=some (.lst xs)):xs.length<=sizeLine/\∃(a:List Value)(n:Nat),bL xs a/\xs.length=a.length/\s.heap.get? l=some {cls:=.type "list",data:=.seq a.toArray n}:=by obtain⟨z,a,n,r,e⟩:=I.hok l _ c;exact⟨z,a,n,r,r.length,e⟩
def B9{n}(h:n<=sizeLine):Builtin.List.listTooLong n=false:=by unfold Builtin.List.listTooLong;exact aga (by lia)
end
section
variable{X:Cx}
def UJ:V->List V->Hp->VK->Prop:=λx b H Q=>∃l a y,x=.ref l/\b=[y]/\H l=some (.lst a)/\a.length<sizeLine/\Q .cK (fD H l (.lst (a++[y])))
theorem Fb:MtM X "list.append" UJ:=by
 intro b s i H x j v k Q I d f h;obtain⟨l,m,y,rfl,rfl,c,o,q⟩:=h;cases d;obtain⟨u,rfl,g⟩:=f.one;obtain⟨z,a,n,r,p,e⟩:=I.LV c;refine aix F.slot_list_append ⟨_,e,rfl⟩ F.entry_list_append (F.args_list_append_2 _ _) (PySem.list_append l a.toArray n u (by rw[afX];lia)) ⟨e,?_⟩;refine⟨.cK,_,I.XG (its':=a++[u]) c e (by simp) (r.append (.cons g .nil)) ?_,rfl,q⟩;rw[afM,agr]
 lia
def UK:V->List V->Hp->VK->Prop:=λx d H Q=>∃l b a c,x=.ref l/\d=[.ref b]/\H l=some (.lst a)/\H b=some (.lst c)/\a.length+c.length<=sizeLine/\Q .cK (fD H l (.lst (a++c)))
theorem O2:MtM X "list.extend" UK:=by
 intro f s y H x A v B Q I i j h;obtain⟨l,b,C,E,rfl,rfl,g,k,G,q⟩:=h;cases i;obtain⟨u,rfl,m⟩:=j.one;cases m;obtain⟨z,a,n,r,N,e⟩:=I.LV g;obtain⟨P,sr,o,p,t,w⟩:=I.LV k;have d:a.toArray.size+sr.toArray.size<=sizeLine:=by rw[afX,afX];lia
 have c:¬(!a.toArray.isEmpty&&Builtin.List.listTooLong (a.toArray.size+sr.toArray.size))=true:=by rw[B9 d,Bool.and_false];exact afJ
 refine aix F.slot_list_extend ⟨_,e,rfl⟩ F.entry_list_extend (F.args_list_extend_2 _ _)
  (AutoSeq1.list_extend_list_list_0 l a.toArray n b sr.toArray o c (by rw[afX];lia) (by lia)) ⟨e,w,?_⟩
 refine⟨.cK,_,I.XG (its':=a++sr) g e (by simp) (r.append p) ?_,rfl,q⟩;rw[afM]
 lia
def aaG:R2:=λx y H Q=>∃l b a c,x=.ref l/\y=.ref b/\H l=some (.lst a)/\H b=some (.lst c)/\a.length+c.length<=sizeLine/\∀p,H p=none->Q (.ref p) (fD H p (.lst (a++c)))
theorem Rk:Jh X (binaryOp .Add) aaG:=by
 intro c s p H x y v u Q I d f h;obtain⟨l,b,t,w,rfl,rfl,g,i,A,q⟩:=h;cases d;cases f;obtain⟨z,a,n,r,B,e⟩:=I.LV g;obtain⟨C,sr,E,j,k,m⟩:=I.LV i;refine PySem.P.add_list e m ?_ (by rw[afX,afX];lia);have o:a.toArray++sr.toArray=(a++sr).toArray:=by simp
 rw[o];exact⟨.ref _,_,I.aaF (t':=s.toks) (r.append j) (by rw[afM];lia),rfl,q _ I.fresh⟩
def aaH:R2:=λx y H Q=>∃l k a,x=.ref l/\y=.int k/\H l=some (.lst a)/\-(2^63)<=k/\k<2^63/\a.length*k.toNat<=sizeLine/\
 ∀p,H p=none->Q (.ref p) (fD H p (.lst (List.replicate k.toNat a).flatten))
theorem UL(xs:List b)(k):(List.replicate k xs).flatten.length=k*xs.length:=by
 induction k with|zero=>simp|succ k a=>rw[List.replicate_succ,List.flatten_cons,List.length_append,a,Nat.succ_mul,Nat.add_comm]
theorem XH:Jh X (binaryOp .Mult) aaH:=by
 intro i s N H x y v u Q I o p h;obtain⟨l,k,P,rfl,rfl,w,A,B,j,q⟩:=h;cases o;obtain⟨t,rfl⟩:=p;obtain⟨z,b,n,r,C,e⟩:=I.LV w;have d:b.toArray.size*k.toNat<=sizeLine:=by rw[afX,<-C];exact j
 have hcap:¬b.toArray.size*k.toNat>(2^63-1)/8:=by
  have:(sizeLine:Nat)<=(2^63-1)/8:=by decide
  lia
 have hfit:¬(!Builtin.List.listFitsIndex k)=true:=by rw[fitsIndex_both A B];exact afJ
 have c:¬Builtin.List.listTooLong (b.toArray.size*k.toNat)=true:=by rw[B9 d];exact afJ
 have hnew:List.foldl (λf g=>f++g) #[] (List.replicate (if b.toArray.isEmpty=true then 0 else k.toNat) b.toArray)=(List.replicate k.toNat b).flatten.toArray:=by
  have E:∀m:Nat,List.foldl (λf g=>f++g) #[] (List.replicate m b.toArray)=(List.replicate m b).flatten.toArray:=λm=>by have:=foldl_rep b m [];rw[agH]at this;exact this
  rw[E];cases b with|nil=>simp|cons a R=>rw[if_neg (by simp)]
 refine wpAny_binaryOp_repeat_ref (T:="list") (U:="int") (by decide) ⟨_,e,rfl⟩ (λG=>typeIs_int G k t) noFill_list_mul F.fills_int_mul F.slot_int_rmul repeat_list F.slot_int_index.lookup
  (aix F.slot_int_rmul (typeIs_int s k t) F.entry_int_rmul (F.args_int_rmul_2 _ _) (int___rmul___int_list k t l b.toArray n)
   ⟨e,rfl,⟨_,e,rfl⟩,aix F.slot_list_mul ⟨_,e,rfl⟩ F.entry_list_mul (F.args_list_mul_2 _ _) (AutoListH.list___mul___list_int_3 l b.toArray n k t hfit hcap c) ⟨e,?_⟩⟩)
 rw[hnew];exact⟨.ref _,_,I.aaF (t':=s.toks) (r.rep k.toNat) (by rw[UL,ahT];exact j),rfl,q _ I.fresh⟩
end
section
variable{prog:Program}{w:World}{A:Around}{E:afr}{s:Shared}
end
section
variable{X:Cx}
end
theorem bL.ints:∀{ns:List Int}{us:List Value},bL (ns.map V.int) us->IntsAre us ns
 |[],us,h=>by rw[aiU]at h;cases h;exact IntsAre.nil
 |n::ns,us,h=>by
  rw[afR]at h;cases h with|cons r t=>obtain⟨k,rfl⟩:=r;exact IntsAre.cons n k (bL.ints t)
theorem bL.bls:∀{bs:List Bool}{us:List Value},bL (bs.map V.bl) us->us=bs.map Value.bool
 |[],us,h=>by rw[aiU]at h;cases h;rfl
 |b::bs,us,h=>by
  rw[afR]at h;cases h with
  |cons r t=>cases r;rw[bL.bls t,afR]
theorem bL.UM(r:bL [V.ref a] us):us=[Value.ref a]:=by
 cases r with
 |cons r t=>cases t;cases r;rfl
section
variable{prog:Program}{w:World}{A:Around}{E:afr}{s:Shared}{l:Addr}{ZO:List Value}{ns:List Int}{Q:afr}
theorem UN(g:A.handled=none)(c:s.heap.IsList l ZO.toArray)(d:IntsAre ZO ns)(h:∀h' a t',(∀b o,s.heap.get? b=some o->h'.get? b=some o)->Q (.int ns.sum t') {s with heap:=h',toks:=a}):wpAny (model prog w) A (call (.builtin "sum") [.ref l]) Q E s:=by
 obtain⟨i,e⟩:=d.allInts.items;have f:numsOf (intItems i).toList=ns:=by rw[<-e];exact d.numsOf
 rw[aiH]at f;rw[e]at c;refine PySem.sum_intListG g c λh' a t' j=>?_
 have:=h h' a t' j;rw[preSum_eq,ahv (by simp),f];exact this
theorem UO(n:A.handled=none)(i:s.heap.IsList l ZO.toArray)(k:IntsAre ZO ns)(d:0<ns.length)(h:∀h' f M t',(∀b o,s.heap.get? b=some o->h'.get? b=some o)->M∈ns->(∀a,a∈ns->a<=M)->Q (.int M t') {s with heap:=h',toks:=f}):wpAny (model prog w) A (call (.builtin "max") [.ref l]) Q E s:=by
 obtain⟨c,e⟩:=k.allInts.items;have m:numsOf (intItems c).toList=ns:=by rw[<-e];exact k.numsOf
 rw[aiH]at m;subst m;rw[e]at i;have g:0<c.size:=by simpa using d
 refine PySem.max_intList n i g λv h' f p q=>?_
 obtain⟨t,rfl⟩:=intItems_at p;obtain⟨y,r⟩:=argBest_gt (numAt c) (c.size-1);refine h h' f _ t q ?_ λa u=>?_
 rw[numAt_eq];exact PySem.getD_mem (by rw[afB,ag0];omega);obtain⟨j,x,rfl⟩:=mem_getD u;rw[afB,ag0]at x;rw[<-numAt_eq];exact r j (by omega)
theorem UP(n:A.handled=none)(i:s.heap.IsList l ZO.toArray)(k:IntsAre ZO ns)(d:0<ns.length)(h:∀h' f M t',(∀b o,s.heap.get? b=some o->h'.get? b=some o)->M∈ns->(∀a,a∈ns->M<=a)->Q (.int M t') {s with heap:=h',toks:=f}):wpAny (model prog w) A (call (.builtin "min") [.ref l]) Q E s:=by
 obtain⟨c,e⟩:=k.allInts.items;have m:numsOf (intItems c).toList=ns:=by rw[<-e];exact k.numsOf
 rw[aiH]at m;subst m;rw[e]at i;have g:0<c.size:=by simpa using d
 refine PySem.min_intList n i g λv h' f p q=>?_
 obtain⟨t,rfl⟩:=intItems_at p;obtain⟨y,r⟩:=argBest_lt (numAt c) (c.size-1);refine h h' f _ t q ?_ λa u=>?_
 rw[numAt_eq];exact PySem.getD_mem (by rw[afB,ag0];omega);obtain⟨j,x,rfl⟩:=mem_getD u;rw[afB,ag0]at x;rw[<-numAt_eq];exact r j (by omega)
end
section
variable{X:Cx}
def aaI(K:W.Frag):List V->Hp->VK->Prop:=λc H Q=>∃(a:Addr)(b:List Int),c=[V.ref a]/\jl K H a (b.map V.int)/\Q (.int b.sum) H
def aaJ(K:W.Frag):List V->Hp->VK->Prop:=λc H Q=>∃(a:Addr)(b:List Int),c=[V.ref a]/\jl K H a (b.map V.int)/\0<b.length/\∀m,m∈b->(∀y,y∈b->y<=m)->Q (.int m) H
def aaK(K:W.Frag):List V->Hp->VK->Prop:=λc H Q=>∃(a:Addr)(b:List Int),c=[V.ref a]/\jl K H a (b.map V.int)/\0<b.length/\∀m,m∈b->(∀y,y∈b->m<=y)->Q (.int m) H
theorem XI(c:X.calm=true):rR X (.builtin "sum") (aaI X.K):=by intro b s j H k l Q I r h;obtain⟨a,m,rfl,d,q⟩:=h;obtain⟨e,f,g,_⟩:=I.list d;rw[bL.UM r];exact UN (I.ok.hd c) g.isList f.ints λn o p i=>⟨.int _,H,I.kept i,⟨_,rfl⟩,q⟩
theorem XJ(d:X.calm=true):rR X (.builtin "max") (aaJ X.K):=by intro c s n H o p Q I r h;obtain⟨a,t,rfl,e,b,q⟩:=h;obtain⟨f,g,i,_⟩:=I.list e;rw[bL.UM r];exact UO (I.ok.hd d) i.isList g.ints b λu v m w j k l=>⟨.int _,H,I.kept j,⟨_,rfl⟩,q m k l⟩
theorem XM(d:X.calm=true):rR X (.builtin "min") (aaK X.K):=by intro c s n H o p Q I r h;obtain⟨a,t,rfl,e,b,q⟩:=h;obtain⟨f,g,i,_⟩:=I.list e;rw[bL.UM r];exact UP (I.ok.hd d) i.isList g.ints b λu v m w j k l=>⟨.int _,H,I.kept j,⟨_,rfl⟩,q m k l⟩
end
theorem Rl{prog}{w}{A}{E}{s}{l}{items}{Q}(b:s.heap.IsList l items)(h:∀a:Shared,a={s with heap:=s.heap.push {cls:=.type "list_iterator",data:=.fields #[.ref l,.int 0 0]}}->(a.heap.IsListIter s.heap.objs.size l 0/\a.heap.IsList l items)->l≠s.heap.objs.size->Q (.ref s.heap.objs.size) a):wpAny (model prog w) A (pyIter (.ref l)) Q E s:=by
 have c:l<s.heap.objs.size:=by obtain⟨_,e,_⟩:=b;exact afT e
 exact wpAny_pyIter_list b (h _ rfl ⟨⟨_,af8 _ rfl,rfl,rfl⟩,b.push _⟩ (af4 c))
theorem Jw{prog}{w}{A}{bs:List Bool}{a}(e:a=bs.map Value.bool):
  TruthOf prog w A (λi v=>a.toArray[i]?=some v) (λi=>bs.getD i false):=λi v s Q E f g=>by
 have c:a[i]?=some v:=by simpa using f
 rw[e,afF]at c;obtain⟨b,h,rfl⟩:=Option.map_eq_some_iff.mp c;have j:bs.getD i false=b:=by rw[afC,h]<;>rfl
 have d:Q (bs.getD i false) s:=g;rw[j]at d;exact agT d
theorem any_range:∀bs:List Bool,(List.range bs.length).any (λi=>bs.getD i false)=bs.any id
 |[]=>rfl
 |b::bs=>by
  rw[af5,ago,agZ,agP,agZ,<-any_range bs]
  all_goals rfl
section
variable{X:Cx}
def aaL(K:W.Frag):List V->Hp->VK->Prop:=λb H Q=>∃(a:Addr)(bs:List Bool),b=[V.ref a]/\jl K H a (bs.map V.bl)/\Q (.bl (bs.any id)) H
theorem XN(j:X.calm=true):rR X (.builtin "any") (aaL X.K):=by intro e s t H u v Q I r h;obtain⟨a,bs,rfl,k,q⟩:=h;obtain⟨c,l,m,_⟩:=I.list k;rw[bL.UM r];have f:=l.bls;refine call_any_walk (Rl m.isList λg n st d=>?_);subst n;refine⟨_,_,_,_,_,_,_,rfl,Walks.list (A:=X.A.in1) (I.ok.hd j) _ a d c.toArray,st,Jw f,λw x p=>?_⟩;refine⟨.bl _,H,I.kept λb o i=>p b o (λhmem=>?_) (afP _ i),?_,q⟩;rcases afU.mp hmem with e1|hmem;exact absurd (e1▸afT i) (agp _);cases hmem;show Value.bool _=Value.bool _;rw[<-any_range,f,afX,afB]
end
mutual
inductive Dp(K:W.Frag)(H:Hp):V->PyData->Prop
 |cK:Dp K H .cK .none
 |bl (b:Bool):Dp K H (.bl b) (.bool b)
 |int (i:Int):Dp K H (.int i) (.int i)
 |str (x:Str):Dp K H (.str x) (.str x)
 |lst {a:Addr} {xs:List V} {ds:List PyData}:jl K H a xs->Ca K H xs ds->Dp K H (.ref a) (.list ds)
 |tup {a:Addr} {xs:List V} {ds:List PyData}:kH K H a xs->Ca K H xs ds->Dp K H (.ref a) (.tuple ds)
inductive Ca(K:W.Frag)(H:Hp):List V->List PyData->Prop
 |nil:Ca K H [] []
 |cons {v:V} {vs:List V} {d:PyData} {ds:List PyData}:Dp K H v d->Ca K H vs ds->Ca K H (v::vs) (d::ds)
end
section
variable{X:Cx}{aC:List (Addr×Obj)}{σ:St}{H:Hp}{s:Shared}
mutual
theorem Dp.reads(I:Inv X aC σ H s):∀d v u,Dp X.K H v d->RelV v u->∃c,Reads s.heap u d c
 | .none,_,_,h,r=>by cases h;cases r;exact⟨_,Reads.none⟩
 | .bool b,_,_,h,r=>by cases h;cases r;exact⟨_,Reads.bool b⟩
 | .int i,_,_,h,r=>by cases h;obtain⟨t,rfl⟩:=r;exact⟨_,Reads.int i t⟩
 | .str x,_,_,h,r=>by cases h;obtain⟨t,rfl⟩:=r;exact⟨_,Reads.str x t⟩
 | .list ds,_,_,h,r=>by
  cases h with
  |lst hs e=>cases r;obtain⟨a,f,⟨o,n,g,j,_,k⟩,_⟩:=I.list hs;obtain⟨c,l⟩:=Dp.readsAll I ds _ a e f;exact⟨_,Reads.list g j k l⟩
 | .tuple ds,_,_,h,r=>by
  cases h with
  |tup hs e=>cases r;obtain⟨a,f,⟨o,g,j,n,k⟩,_⟩:=I.tuple hs;obtain⟨c,l⟩:=Dp.readsAll I ds _ a e f;exact⟨_,Reads.tuple g j k l⟩
 | .dict _,_,_,h,_=>by cases h
theorem Dp.readsAll(I:Inv X aC σ H s):∀ds vs us,Ca X.K H vs ds->bL vs us->∃c,ReadsAll s.heap us ds c
 |[],_,_,h,r=>by cases h;cases r;exact⟨_,ReadsAll.nil⟩
 |d::ds,_,_,h,r=>by
  cases h with
  |cons m p=>
   cases r with|cons q w=>obtain⟨c,y⟩:=Dp.reads I d _ _ m q;obtain⟨bs,z⟩:=Dp.readsAll I ds _ _ p w;exact⟨_,ReadsAll.cons y z⟩
end
end
section
variable{X:Cx}
def adb(K:W.Frag):R2:=λx y H Q=>∃d e,Dp K H x d/\Dp K H y e/\SeqAt.shaped d=true/\SeqAt.shaped e=true/\Q (.bl (PyData.eqv d e)) H
def ade(K:W.Frag):R2:=λx y H Q=>∃d e,Dp K H x d/\Dp K H y e/\SeqAt.shaped d=true/\SeqAt.shaped e=true/\Q (.bl (!PyData.eqv d e)) H
theorem XO(b:X.A.units+64<cLine):Jh X (compareOp .Eq) (adb X.K):=by intro a s n H x y v u Q I c f h;obtain⟨d,e,g,i,j,k,q⟩:=h;obtain⟨o,l⟩:=Dp.reads I d x v g c;obtain⟨bs,m⟩:=Dp.reads I e y u i f;exact SeqAt.compareEq_shaped l m j k b ⟨.bl _,H,I,rfl,q⟩
theorem XQ(b:X.A.units+64<cLine):Jh X (compareOp .NotEq) (ade X.K):=by intro a s n H x y v u Q I c f h;obtain⟨d,e,g,i,j,k,q⟩:=h;obtain⟨o,l⟩:=Dp.reads I d x v g c;obtain⟨bs,m⟩:=Dp.reads I e y u i f;exact SeqAt.compareNe_shaped l m j k b ⟨.bl _,H,I,rfl,q⟩
end
abbrev Rm(h:Heap)(c:Addr)(v:Option Value):Prop:=h.IsCell c v
def adf(scope a:Scope):Scope:=
 {scope with names:=scope.names.map λ(n,k)=>if(k==.free&&a.kind==.function&&a.names.lookup n==some .cell)then(n,.cell)else(n,k)}
def dR(cells:List (Str×Addr)):List (Str×NameKind)->List (Str×Addr)->List (Str×Addr)
 |[],a=>a
 |(n,k)::r,a=>if k==.free then dR cells r ((n,(cells.lookup n).getD 0)::a)else dR cells r a
theorem w9(env:Env)(f:Str×NameKind->List (Str×Addr)->Sem (ForInStep (List (Str×Addr))))(d:∀n k c,f (n,k) c=if k==.free then(do let a<-cellOf env n;pure (.yield ((n,a)::c)))else pure (.yield c)):
  ∀names bY,(∀y∈names,y.2=.free->∃c,env.cells.lookup y.1=some c)->forIn names bY f=pure (dR env.cells names bY)
 |[],bY,_=>by rw[List.forIn_nil];rfl
 |(n,k)::r,bY,h=>by
  rw[List.forIn_cons,d];have g:=λbY=>w9 env f d r bY λy j=>h y (afA _ j)
  unfold dR
  by_cases b:(k==NameKind.free)=true
  rw[afz b,afz b];obtain⟨c,i⟩:=h (n,k) afH (by simpa using b);have e:cellOf env n=pure c:=by unfold cellOf;rw[i]
  rw[e];have l:(env.cells.lookup n).getD 0=c:=by rw[i];rfl
  rw[l];exact g _;rw[afy b,afy b];exact g _
theorem LW(h:∀y∈scope.names,y.2=.free->∃c,env.cells.lookup y.1=some c):closureFor scope env=pure (dR env.cells scope.names []):=by simp only[closureFor];rw[w9 env _ (λn k c=>rfl) scope.names [] h];rfl
theorem mem_lookup:∀{l:List (Str×a)}{n:Str}{c:a},(n,c)∈l->∃b,l.lookup n=some b
 |(k,v)::r,n,c,h=>by
  rw[agM];cases d:n==k with
  |true=>exact⟨_,rfl⟩
  |false=>rcases afU.mp h with e|h;cases e;simp at d;exact mem_lookup h
theorem oh:∀{names:List (Str×NameKind)}{bY:List (Str×Addr)}{n:Str}{c:Addr},(n,c)∈dR cells names bY->(n,c)∈bY\/((n,.free)∈names/\c=(cells.lookup n).getD 0)
 |[],_,_,_,h=>.inl h
 |(m,k)::r,bY,n,c,h=>by
  unfold dR at h;split at h;rename_i a;have a:k=.free:=by simpa using a
  rcases oh h with h|⟨b,d⟩;rcases afU.mp h with e|h;cases e;exact .inr ⟨a▸afH,rfl⟩;exact .inl h;exact .inr ⟨afA _ b,d⟩;rcases oh h with h|⟨b,d⟩;exact .inl h;exact .inr ⟨afA _ b,d⟩
theorem sE:∀{names:List (Str×NameKind)}{bY:List (Str×Addr)}{p:Str×Addr},p∈bY->p∈dR cells names bY|[],_,_,h=>h|(m,k)::r,bY,p,h=>by unfold dR;split;exact sE (afA _ h);exact sE h
theorem sF:∀{names:List (Str×NameKind)}{bY:List (Str×Addr)}{n:Str},(n,.free)∈names->(n,(cells.lookup n).getD 0)∈dR cells names bY
 |(m,k)::r,bY,n,h=>by unfold dR;rcases afU.mp h with e|h;cases e;exact sE afH;split;exact sF h;exact sF h
theorem pP:∀{names:List (Str×NameKind)}{h:Heap}{bY:List (Str×Addr)}{x:Str}{c:Addr},(x,c)∈cellsFrom h.objs.size names bY->(x,c)∈bY\/((x,.cell)∈names/\h.objs.size<=c/\Rm (pushCells h names) c none)
 |[],_,_,_,_,h=>.inl h
 |(n,k)::r,h,bY,x,c,a=>by
  unfold cellsFrom at a;unfold pushCells;split at a;rename_i b;rw[afz b];have b:k=.cell:=by simpa using b
  rw[<-ags h {cls:=.type "cell",data:=.cell none}]at a;rcases pP a with a|⟨f,d,g⟩;rcases afU.mp a with e|a;cases e;exact .inr ⟨b▸afH,afI _,_,ahM r _ _ _ (af8 _ rfl),rfl⟩;exact .inl a;rw[ags]at d;exact .inr ⟨afA _ f,ahy d,g⟩;rename_i b;rw[afy b];rcases pP a with a|⟨f,d,g⟩;exact .inl a;exact .inr ⟨afA _ f,d,g⟩
theorem uP:∀{names:List (Str×NameKind)}{n:Nat}{bY:List (Str×Addr)}{p:Str×Addr},p∈bY->p∈cellsFrom n names bY|[],_,_,_,h=>h|(m,k)::r,n,bY,p,h=>by unfold cellsFrom;split;exact uP (afA _ h);exact uP h
theorem zd:∀{names:List (Str×NameKind)}{n:Nat}{bY:List (Str×Addr)}{x:Str},(x,.cell)∈names->∃c,(x,c)∈cellsFrom n names bY
 |(m,k)::r,n,bY,x,h=>by unfold cellsFrom;rcases afU.mp h with e|h;cases e;exact⟨n,uP afH⟩;split;exact zd h;exact zd h
theorem ze:∀{names:List (Str×NameKind)}{h:Heap}{bY:List (Str×Addr)}{x y:Str}{c:Addr},(∀p∈bY,p.2<h.objs.size)->(∀x y c,(x,c)∈bY->(y,c)∈bY->x=y)->(x,c)∈cellsFrom h.objs.size names bY->(y,c)∈cellsFrom h.objs.size names bY->x=y
 |[],_,_,_,_,_,_,g,f,d=>g _ _ _ f d
 |(n,k)::r,h,bY,x,y,c,i,g,f,d=>by unfold cellsFrom at f d;split at f;rename_i j;rw[afz j]at d;rw[<-ags h {cls:=.type "cell",data:=.cell none}]at f d;refine ze (h:=h.push _) (λp l=>?_) (λx y c a b=>?_) f d;rw[ags];rcases afU.mp l with rfl|l;exact agc _;exact agw (i p l);rcases afU.mp a with e|a<;>rcases afU.mp b with m|b;cases e;cases m;rfl;cases e;exact absurd (i _ b) (agp _);cases m;exact absurd (i _ a) (agp _);exact g _ _ _ a b;rename_i j;rw[afy j]at d;exact ze i g f d
theorem Jx{M}{A}{E}{s}{scope}{globals}{closure}{a}{func}{code}{around:Env}{builtins}{Q:Env->Shared->Prop}(h:Q (newEnv scope s.heap.objs.size globals (cellsFrom (s.heap.objs.size+1) scope.names closure) a func code (some around) builtins) {s with heap:=pushCells (s.heap.push {cls:=.type "dict",data:=.dict #[]}) scope.names}):
  wpAny M A (newFunctionEnv scope globals closure [] a func code (some around) builtins) Q E s:=by
 simp only[newFunctionEnv,Option.isSome_some,if_true];refine af1 (wpAny_alloc ?_);refine af1 (wpAny_layCells _ (λn k c=>rfl) scope.names closure _ _ ?_);rw[show({s with heap:=s.heap.push {cls:=.type "dict",data:=.dict #[]}}:Shared).heap.objs.size=s.heap.objs.size+1 from ags ..];rw[List.forIn_nil];exact af1 (agv (agv h))
theorem sG{c:Scope}:∀{names:List (Str×NameKind)}{x:Str}{k:NameKind},(names.map λ(n,k)=>if(k==NameKind.free&&c.kind==.function&&c.names.lookup n==some .cell)then(n,NameKind.cell)else(n,k)).lookup x=some k->
  ∃f,names.lookup x=some f/\(k=f\/(f=.free/\k=.cell))
 |[],_,_,h=>by simp at h
 |(n,a)::r,x,k,h=>by
  have g:=@sG c r x k;have b:List.lookup x ((if(a==NameKind.free&&c.kind==.function&&c.names.lookup n==some .cell)=true then(n,NameKind.cell)else(n,a))::(r.map _))=some k:=h;cases e:x==n with
  |true=>
   simp only[List.lookup_cons,e]
   by_cases d:(a==NameKind.free&&c.kind==.function&&c.names.lookup n==some .cell)=true
   rw[afz d]at b;simp only[List.lookup_cons,e]at b;cases b;simp only[Bool.and_eq_true,beq_iff_eq]at d;exact⟨a,rfl,.inr ⟨d.1.1,rfl⟩⟩;rw[afy d]at b;simp only[List.lookup_cons,e]at b;cases b;exact⟨_,rfl,.inl rfl⟩
  |false=>
   simp only[List.lookup_cons,e]
   by_cases d:(a==NameKind.free&&c.kind==.function&&c.names.lookup n==some .cell)=true
   rw[afz d]at b;simp only[List.lookup_cons,e]at b;exact g b;rw[afy d]at b;simp only[List.lookup_cons,e]at b;exact g b
structure Az(N:List Str)(sc scope:Scope)(own:List (Str×Nat)):Prop where
 kind:scope.kind=.function
 uniq:∀y∈scope.names,scope.names.lookup y.1=some y.2
 ix:∀p∈own,N[p.2]?=some p.1
 free:∀y∈scope.names,y.2=.free->sc.names.lookup y.1=some .cell\/sc.names.lookup y.1=some .free
 own:∀y∈scope.names,y.2=.local\/y.2=.cell->y.1∈own.map (·.1)\/y.1∉N
def ig(a:St):List Nat->St|[]=>a|v::b=>(ig a b).set v none
theorem b5(a):∀vs,(ig a vs).length=a.length|[]=>rfl|v::vs=>by unfold ig;rw[afZ,b5 a vs]
theorem zf:∀{vs:List Nat},(ig b vs)[i]?=some (some x)->b[i]?=some (some x)/\i∉vs
 |[],h=>⟨h,by simp⟩
 |v::vs,h=>by
  unfold ig at h
  by_cases a:v=i
  subst a
  by_cases c:v<(ig b vs).length
  rw[afK c]at h;cases h;rw[afO (by simpa using c)]at h;cases h;rw[afD a]at h;obtain⟨d,f⟩:=zf h;exact⟨d,by simp only[List.mem_cons,not_or];exact⟨λe=>a e.symm,f⟩⟩
abbrev Cx.lD(X:Cx)(s:Shared)(H:Hp)(scope:Scope)(cenv:Env)(a:List Addr):Cx:={X with By:=s,H_0:=H,env:=cenv,aN:=X.stack,ex:=a,fn:=λx=>scope.names.lookup x==some .cell,pn:=[],xe:=λ_ _=>False}
section
variable{X:Cx}{aC:List (Addr×Obj)}{σ:St}{H:Hp}{s:Shared}
theorem Jy{scope}{S:List (Str×Nat)}{fp:List Addr}(I:Inv X aC σ H s)(B:Az X.N X.env.scope scope S)(hN:X.N.Nodup)(h:∀b∈fp,Bc X aC H b/\b<s.heap.objs.size):
  Inv (X.lD s H scope (compEnvC scope (cellsFrom (s.heap.objs.size+1) scope.names (dR X.env.cells scope.names [])) s.heap.objs.size X.env) fp) [] (ig σ (S.map (·.2))) H {s with heap:=pushCells (s.heap.push {cls:=.type "dict",data:=.dict #[]}) scope.names}:=by
 have hfree:∀y∈scope.names,y.2=.free->∃c,X.env.cells.lookup y.1=some c:=λy v e=>by rcases B.free y v e with k|k;exact I.ok.has _ (.inl k);exact I.ok.has _ (.inr k)
 generalize d:compEnvC scope (cellsFrom (s.heap.objs.size+1) scope.names (dR X.env.cells scope.names [])) s.heap.objs.size X.env=cenv;have kp:∀b o,s.heap.get? b=some o->(pushCells (s.heap.push {cls:=.type "dict",data:=.dict #[]}) scope.names).get? b=some o:=λb o e=>ahM _ _ _ _ (afP _ e)
 have hL:cenv.locals=s.heap.objs.size:=by rw[<-d];rfl
 have g:cenv.cells=cellsFrom (s.heap.objs.size+1) scope.names (dR X.env.cells scope.names []):=by rw[<-d];rfl
 have G:cenv.scope=adf scope X.env.scope:=by rw[<-d];rfl
 rw[<-ags s.heap {cls:=.type "dict",data:=.dict #[]}]at g;have T:∀{y c},(y,c)∈dR X.env.cells scope.names []->X.env.cells.lookup y=some c/\c<s.heap.objs.size:=λ{y c}j=>by rcases oh j with j|⟨f,rfl⟩;cases j;obtain⟨c,hc⟩:=hfree _ f rfl;rw[hc];obtain⟨w,z⟩:=I.cell _ _ hc;exact⟨rfl,z.lt⟩
 have mem:∀{y c},cenv.cells.lookup y=some c->(X.env.cells.lookup y=some c/\c<s.heap.objs.size)\/(s.heap.objs.size+1<=c/\Rm (pushCells (s.heap.push {cls:=.type "dict",data:=.dict #[]}) scope.names) c none):=λ{y c}e=>by rw[g]at e;rcases pP (af3 e)with j|⟨_,x,h3⟩;exact .inl (T j);rw[ags]at x;exact .inr ⟨x,h3⟩
 have look:∀{y},scope.names.lookup y=some .free->∃c,cenv.cells.lookup y=some c/\X.env.cells.lookup y=some c:=λ{y}hl=>by have v:(y,NameKind.free)∈scope.names:=af3 hl;obtain⟨c',l⟩:=mem_lookup (uP (names:=scope.names) (n:=(s.heap.push {cls:=.type "dict",data:=.dict #[]}).objs.size) (sF (cells:=X.env.cells) (bY:=[]) v));rw[<-g]at l;refine⟨c',l,?_⟩;rw[g]at l;rcases pP (af3 l)with j|⟨f,_,_⟩;exact(T j).1;have:=B.uniq _ f;rw[hl]at this;cases this
 have ds:(X.lD s H scope cenv fp).Ok:=by
  refine⟨I.ok.mod,by show cenv.scope.kind=_;rw[G];exact B.kind,by show cenv.globals=_;rw[<-d];exact I.ok.glob,by show cenv.builtins=_;rw[<-d];exact I.ok.blt,by show s.heap.objs.size<=cenv.locals;rw[hL];exact afI _,
   λy z c e1 C=>?_,λy v=>?_,λy c z e=>?_,I.ok.hd,I.ok.frames,.inl rfl,λb E=>⟨?_,λy c e z=>?_⟩,I.bs,af9 I.ok.QO I.sz,λb o e E=>?_,λb E z=>?_,I.stack,I.Gx⟩
  have e1:cenv.cells.lookup y=some c:=e1;have C:cenv.cells.lookup z=some c:=C;rw[g]at e1 C;refine ze (λp R=>?_) (λy z c a b=>I.ok.inj y z c (T a).1 (T b).1) (af3 e1) (af3 C);rw[ags];exact agw (T (y:=p.1) (c:=p.2) R).2;show∃c,cenv.cells.lookup y=some c;have t:∀k,cenv.kindOf y=some k->(k=.cell\/k=.free)->∃c,cenv.cells.lookup y=some c:=λk P Q=>by
   unfold Env.kindOf at P;rw[G]at P;obtain⟨F,e,r⟩:=sG P;have:F=.cell\/F=.free:=by rcases r with rfl|⟨rfl,_⟩;exact Q;exact .inr rfl
   rcases this with rfl|rfl;obtain⟨c,j⟩:=zd (n:=(s.heap.push {cls:=.type "dict",data:=.dict #[]}).objs.size) (bY:=dR X.env.cells scope.names []) (af3 e);obtain⟨c',l⟩:=mem_lookup j;exact⟨c',by rw[g];exact l⟩;obtain⟨c,f,_⟩:=look e;exact⟨c,f⟩
  rcases v with v|v;exact t _ v (.inl rfl);exact t _ v (.inr rfl);have z:(scope.names.lookup y==some NameKind.cell)=true:=z;have z:scope.names.lookup y=some .cell:=by simpa using z
  have e:cenv.cells.lookup y=some c:=e;rw[g]at e;rcases pP (af3 e)with j|⟨_,x,_⟩;rcases oh j with j|⟨f,_⟩;cases j;have q:=B.uniq _ f;rw[z]at q;cases q;rw[ags]at x;exact ahy x;show b≠cenv.locals;rw[hL];exact af4 (h b E).2;have e:cenv.cells.lookup y=some c:=e;rcases mem e with⟨f,_⟩|⟨f,_⟩;exact(h b E).1.2.2.2.2.1 y c f z;have x:s.heap.objs.size+1<=b:=by rw[<-z];exact f
  exact absurd (afQ (h b E).2 (ahy x)) (agp _);rcases(h b E).1.2.2.2.1 with z|z;exact I.ok.OQ b o e z;exact absurd (afQ (afT e) (af9 I.ok.QO z)) (agp _);rcases afU.mp (I.Gw b z)with z|z;exact(h b E).1.2.1 z;exact(h b E).1.2.2.1 z
 refine⟨ds,rfl,I.bare,Un.kept kp,⟨λ_=>none,?_,λi y av e1 C u=>?_⟩,λy c e=>?_,?_,λy c e=>?_,λp R=>?_,I.hok.kept kp,by rw[b5];exact I.len⟩;show Heap.Ns _ cenv.locals _;rw[hL];exact Heap.Ns.keeps (Heap.Ns.new ..) λb o e=>ahM _ _ _ _ e
 obtain⟨C,vs⟩:=zf C;have A:scope.names.lookup y=some .free/\(cenv.kindOf y=some .cell\/cenv.kindOf y=some .free):=by
  have t:∀k,cenv.scope.names.lookup y=some k->k=.local\/k=.cell\/k=.free->scope.names.lookup y=some .free/\(cenv.kindOf y=some .cell\/cenv.kindOf y=some .free):=λk P Q=>by
   have W:=P;rw[G]at P;obtain⟨F,e,r⟩:=sG P;have no:¬(F=.local\/F=.cell):=λhh=>by rcases B.own _ (af3 e) hh with l|l;obtain⟨p,R,xs⟩:=af6.mp l;have u:=B.ix p R;have:p.1=y:=xs;rw[this]at u;exact vs (af6.mpr ⟨p,R,BX hN u e1⟩);exact l (ahi e1)
   rcases r with rfl|⟨rfl,rfl⟩;rcases Q with rfl|rfl|rfl;exact absurd (.inl rfl) no;exact absurd (.inr rfl) no;exact⟨e,.inr W⟩;exact⟨e,.inl W⟩
  have u:Av cenv.scope y:=u;rcases u with u|u|u;exact t _ u (.inl rfl);exact t _ u (.inr (.inl rfl));exact t _ u (.inr (.inr rfl))
 obtain⟨m,hn,hl⟩:=I.loc;have Z:Av X.env.scope y:=(B.free _ (af3 A.1) rfl).elim (λk=>.inr (.inl k)) (λk=>.inr (.inr k));obtain⟨w,r,q⟩:=hl i y av e1 C Z;refine⟨w,r,.inr ⟨A.2,?_⟩⟩;obtain⟨c,f,x⟩:=look A.1;rcases q with⟨k,_⟩|⟨_,c',l,z⟩;have k:X.env.scope.names.lookup y=some .local:=k;rcases B.free _ (af3 A.1) rfl with F|F<;>rw[show X.env.scope.names.lookup y=_ from F]at k<;>cases k;rw[x]at l;cases l;exact⟨c,f,z.keeps kp⟩;have e:cenv.cells.lookup y=some c:=e;rcases mem e with⟨f,_⟩|⟨_,z⟩;obtain⟨w,z⟩:=I.cell y c f;exact⟨w,z.keeps kp⟩;exact⟨_,z⟩;show H cenv.locals=none;rw[hL];exact I.hok.fresh (afI _);have e:cenv.cells.lookup y=some c:=e;rcases mem e with⟨f,_⟩|⟨f,_⟩;exact I.l0 y c f;exact I.hok.fresh (ahy f);exact absurd (show p∈([]:List (Addr×Obj))++[]from R) (by simp)
theorem XR{D}(I:Inv X aC σ H s)(d:H D=some (.lst xs))(hz:xs.length<sizeLine)(r:RelV y v)(h:∀s',Inv X aC σ (fD H D (.lst (xs++[y]))) s'->Q .none s'):wpAny (model X.prog X.w) X.A (call (.builtin "list.append") [.ref D,v]) Q E s:=by
 obtain⟨g,c,n,f,e⟩:=I.hok D _ d;have l:=f.length;refine append_at (hsz:=by rw[afX];lia) e λi j a=>?_
 refine h {s with heap:=i} (I.write (t':=s.toks) (by rw[d];trivial) (.inl rfl) (λb u k q=>(j.2 b k).trans q) ⟨_,a⟩ ⟨by rw[afM];exact hz,c++[v],n+1,f.append (.cons r .nil),?_⟩);rw[a];simp
def QE(X:Cx)(a:List Expr)(t:TT):Prop:=
 ∀aC s σ H Q,Inv X aC σ H s->t σ H Q->
  wpAny (model X.prog X.w) X.A (forIn a true λc r=>if r=true then do let b<-isTrue c X.env (eval c X.env);pure (ForInStep.yield b)else pure (ForInStep.yield r)) (TP X aC σ Q) X.xe s
def adg:TT:=λ_ H Q=>Q true H
def UQ:QE X [] adg:=λ_ _ _ H _ I h=>wpAny_tests_nil ⟨H,I,h⟩
def UR(h:PT X c t):QE X [c] t:=λaC s σ H Q I hw=>wpAny_tests_one (h aC s σ H Q I hw)
end
theorem GO(I:Nat->Shared->Prop)(turn:∀n s,I n s->wpAny (model prog w) A (pyNext B) (λr a=>match r with
   |none=>R (.ok .next) a
   |some v=>wpAny (model prog w) A (letOwnedTupleGo target B v) (λ_ b=>wpAny (model prog w) A (assign target env v) (λ_ g=>
     wpAny (model prog w) A (forIn p true λc r=>if r=true then do let q<-isTrue c env (eval c env);pure (ForInStep.yield q)else pure (ForInStep.yield r)) (λq d=>
      if q=true then wpAny (model prog w) A (eval t env) (λx i=>
       wpAny (model prog w) A (call (.builtin "list.append") [bY,x]) (λ_ j=>∃m,m<n/\I m j) (notedBy (model prog w) A env λe s'=>R (.error e) s') i) (notedBy (model prog w) A env λe s'=>R (.error e) s') d
      else∃m,m<n/\I m d) (notedBy (model prog w) A env λe s'=>R (.error e) s') g) (notedBy (model prog w) A env λe s'=>R (.error e) s') b) (notedBy (model prog w) A env λe s'=>R (.error e) s') a) (notedBy (model prog w) A env λe s'=>R (.error e) s') s)
  (n) (h:I n s):
  codeAny (model prog w) A (.compLoop (.ListComp t [⟨target,iter,p,0⟩] scope C) 0 B bY env) R s:=by
 refine codeAny_loop rfl I (λn s E=>?_) n h;show wpAny _ A ((compTurn (.ListComp t [⟨target,iter,p,0⟩] scope C) 0 B bY env).onRaise (λx=>do noteFrame x env;theTreesLotGoes x)) _ _ s;refine wpAny_noted ?_;rw[compTurn_list];refine af1 (aiD (af1 (ahf (turn n s E) (λr a k=>?_) λ_ _ f=>f)));cases r with
 |none=>exact agv k
 |some v=>
  refine af1 (ahf k (λ_ b o=>?_) λ_ _ f=>f);refine af1 (ahf o (λ_ g u=>af1 (ahf u (λq d l=>?_) λ_ _ f=>f)) λ_ _ f=>f);cases q with|false=>exact agv ⟨rfl,l⟩|true=>exact af1 (af1 (ahf l (λx i y=>af1 (ahf y (λ_ j z=>agv (agv ⟨rfl,z⟩)) λ_ _ f=>f)) λ_ _ f=>f))
section
variable{X:Cx}
def ZP(o:TI)(g:TG)(p:TT)(q:TE)(vs:List Nat):TE:=λe H Q=>o e H λf j=>∀D,j D=none->∃W:Nat->Nat->Hp->Prop,(∃m,W 0 m (fD j D (.lst [])))/\∀i m H,W i m H->
 (f.stop i H/\Q (.ref D) H)\/(f.go i H/\∃h:Hp->Prop,(∀d,h d->∃k,k<m/\W (i+1) k d)/\∀x d,f.yld i H x d->g x (ig e vs) d λa r=>ig a vs=ig e vs/\p a r λb l=>
  if b=true then q a l λy n=>∃c,n D=some (.lst c)/\c.length<sizeLine/\h (fD n D (.lst (c++[y])))else h l)
theorem Nr(d:env.scope.kind=.function)(e:env.scope.names.lookup y=some .local)(f:(b.line==a.line)=true)(g:(scope.names.any λ(n,k)=>n==y&&(k==.local||k==.cell))=false):swapsWith (.ListComp c h scope a) (some (.Name y b)) l env=pure true:=by
 have i:env.kindOf y=some .local:=e;have j:env.blockKind=.function:=by unfold Env.blockKind;rw[d];rfl
 unfold swapsWith;simp only[j,i,g,show(Expr.Name y b).pos=b from rfl,show(Expr.ListComp c h scope a).pos=a from rfl,f];rfl
end
section
variable{prog:Program}{w:World}{A:Around}{R:Result->Shared->Prop}{s:Shared}{elt t0 i0 t1 i1:Expr}{aeW aeX:List Expr}{scope:Scope}{pos:Pos}{it bY:Value}{env:Env}
end
section
variable{X:Cx}
end
section
variable{κ:Type} [DecidableEq κ]
end
section
variable{P:Program}{w:World}{H:Hp}{h:Heap}{a:Addr}
end
section
variable{X:Cx}{aC:List (Addr×Obj)}{σ:St}{H:Hp}{s:Shared}{a:Addr}{y v:V}{u r:Value}{o:Option V}{A:Around}{E:afr}
end
section
variable{X:Cx}{aC:List (Addr×Obj)}{σ:St}{H:Hp}{s:Shared}{a:Addr}{kvs:List (Jc×V)}{k:Jc}{u:Value}{A:Around}{E:afr}
end
section
variable{X:Cx}{o i e value:Expr}{pos pos' aay:Pos}{td ty tv:TE}
end
section
variable{X:Cx}{pos:Pos}
end
section
variable{X:Cx}{aC:List (Addr×Obj)}{σ:St}{H:Hp}{s:Shared}{a:Addr}{y d:V}{u r:Value}{o:Option V}{A:Around}{E:afr}
end
section
variable{X:Cx}{o e f:Expr}{wY B8:Pos}{td ty tx:TE}
end
section
variable{X:Cx}{aC:List (Addr×Obj)}{σ:St}{H:Hp}{s:Shared}{a:Addr}{kvs:List (Jc×V)}{A:Around}{E:afr}
end
section
variable{X:Cx}{aC:List (Addr×Obj)}{σ:St}{H:Hp}{s:Shared}{a:Addr}{y:V}{u:Value}{A:Around}{E:afr}
end
section
variable{prog:Program}{w:World}{A:Around}{E:afr}
end
section
variable{X:Cx}
end
section
variable{X:Cx}{aC:List (Addr×Obj)}{σ:St}{H:Hp}{s:Shared}{h':Heap}
theorem Inv.US{t'}{ch:List Addr}(I:Inv X aC σ H s)(k:∀b o,b∉ch->s.heap.get? b=some o->h'.get? b=some o)(d:∀b∈ch,Bc X aC H b):Inv X aC σ H {s with heap:=h',toks:=t'}:=by
 have f:∀b u,H b=some u->b∉ch:=λb u e z=>by have q:=(d b z).1;rw[q]at e;cases e
 refine I.step (g':=s.gens) (d':=s.drawn) (ch:=ch) (λb g=>⟨(d b g).2.2.2.1,(d b g).2.1,(d b g).2.2.2.2.1,(d b g).2.2.2.2.2⟩) (λb o _ _ a e _=>k b o a e) (λb o _ _ a e _=>⟨o.slots,k b o a e⟩)
  (λ_ _ _ _ n=>n) (λb o a e=>⟨o,k b o a e⟩) (λ_ _ e=>e) (λ_ _ _ e=>e) (λb p e=>⟨#[],by rw[e];simp⟩) (λm h=>?_) (λb u e=>?_) I.bare
 obtain⟨o,i,j,l,r⟩:=h;exact⟨o,i,j,k _ o (λz=>(d _ z).2.1 rfl) l,r⟩;refine(I.hok b u e).stay (λc v a q=>k c v ?_ q) (λ_ q=>q) λ_ _ q=>q
 rcases a with z|z;rw[z];exact f b u e;exact f c _ z
theorem Inv.Fc{t'}{ch:List Addr}{T}{i}(I:Inv X aC σ H s)(k:∀b o,b∉ch->s.heap.get? b=some o->h'.get? b=some o)(f:∀b∈ch,Bc X aC H b)(j:s.heap.objs.size<=T)(new:iH X.prog X.w (fD H T i) h' T i):Inv X aC σ (fD H T i) {s with heap:=h',toks:=t'}:=by
 have g:H T=none:=I.hok.fresh j;have h:∀b u,H b=some u->b∉ch:=λb u e z=>by have q:=(f b z).1;rw[q]at e;cases e
 refine I.step (g':=s.gens) (d':=s.drawn) (ch:=ch) (λb a=>⟨(f b a).2.2.2.1,(f b a).2.1,(f b a).2.2.2.2.1,(f b a).2.2.2.2.2⟩) (λb o _ _ d e _=>k b o d e) (λb o _ _ d e _=>⟨o.slots,k b o d e⟩)
  (λb o _ e n=>?_) (λb o d e=>⟨o,k b o d e⟩) (λb l e=>?_) (λb o u e=>?_) (λb A e=>⟨#[],?_⟩) (λm p=>?_) (λb u e=>?_) I.bare
 rw[aK (af4 (afQ (afT e) j))];exact n;rw[aK (bI e g)];exact e;rw[aK (bI e g)];exact e;rw[aK (bI e g),e];simp;obtain⟨o,t,x,y,r⟩:=p;exact⟨o,t,x,k _ o (λz=>(f _ z).2.1 rfl) y,r⟩
 by_cases a:b=T
 subst a;rw[bh]at e;cases e;exact new;rw[aK a]at e;refine(I.hok b u e).stay (λc v d q=>k c v ?_ q) (λc q=>by rw[aK (bI q g)];exact q) λc l q=>by rw[aK (bI q g)];exact q
 rcases d with z|z;rw[z];exact h b u e;exact h c _ z
end
section
variable{X:Cx}
end
section
variable{X:Cx}{tg:Expr}
end
section
variable{prog:Program}{w:World}{A:Around}{E:afr}{s:Shared}
end
section
variable{X:Cx}{aC:List (Addr×Obj)}{σ:St}{H:Hp}{s:Shared}{d:Addr}{o:Obj}
end
section
variable{P:Program}{w:World}{K:W.Frag}{tg:Expr}{d:Addr}{o:Obj}{es:Array DictEntry}{ep:Nat}
end
section
variable{X:Cx}{tg e:Expr}{td:TE}{wY B8:Pos}
end
def Ite(K:W.Frag)(a:Addr):It:=
 ⟨λi H=>∃(b:List V)(x:V),jl K H a b/\b[i]?=some x,λi H v c=>∃T x,v=.ref T/\H T=none/\c=fD H T (.tup [.int (i:Nat),x])/\∀b,jl K H a b->b[i]?=some x,λi H=>∃b,jl K H a b/\b.length<=i⟩
theorem O3{P}{w}{K}{elts:List Expr}{kk}{r}(a e f):
  Q4 P w K (.Tuple elts kk r) (Ite K a) [e,f] e (λi h=>(∃c,IsEnum h e f ((i:Nat):Int) c)/\h.IsListIter f a i/\e≠f)where
 mem:=by simp
 obj:=λi h st b g=>by
  obtain⟨⟨c,j⟩,⟨o,F,G,hd⟩,_⟩:=st;have N:b=e\/b=f:=by simpa using g
  rcases N with z|z;rw[z];exact⟨_,j,λv q=>nomatch q⟩;rw[z];exact⟨o,F,λv q=>by rw[hd]at q;cases q⟩
 keep:=λi h R st k=>let⟨⟨c,j⟩,hi,d⟩:=st;⟨⟨c,k e (by simp) _ j⟩,hi.at λo q=>k f (by simp) o q,d⟩
 item:=by
  intro X S hw T G i m s σ H E I B st W;subst S hw T;obtain⟨⟨c,j⟩,l,d⟩:=st;obtain⟨xs,x,C,Z⟩:=W;obtain⟨ds,rv,p,hz⟩:=I.list C;obtain⟨u,hu,ru⟩:=rv.get Z;have t:e<s.heap.objs.size:=afT j;have vs:f<s.heap.objs.size:=by obtain⟨_,q,_⟩:=l;exact afT q
  refine wpAny_pyNext_enum_item j l p.isList (x:=u) (by simpa using hu) d λR F y hT hj hk=>?_
  refine⟨_,rfl,wpAny_letOwnedTupleGo_enum (s:={s with heap:=R,toks:=s.toks+1}) F λn h1 sb=>?_⟩;have h2:n.get? s.heap.objs.size=some {cls:=.type "tuple",data:=.seq #[.int i s.toks,u]}:=(sb.2 _ (aik t)).trans hT;have ps:iH X.prog X.w (fD H s.heap.objs.size (.tup [.int (i:Nat),x])) n s.heap.objs.size (.tup [.int (i:Nat),x]):=
   ⟨by show 2<=sizeLine;decide,[.int i s.toks,u],.cons ⟨_,rfl⟩ (.cons ru .nil),⟨_,h2,rfl,_,rfl⟩⟩
  have I1:Inv X m σ (fD H s.heap.objs.size (.tup [.int (i:Nat),x])) {s with heap:=n,toks:=s.toks+1}:=
   I.Fc (ch:=[e,f]) (λb ob g q=>(sb.2 b (λz=>g (by simp[z]))).trans (hk b ob (λz=>g (by simp[z])) (λz=>g (by simp[z])) q)) B (afI _) ps
  refine⟨.ref s.heap.objs.size,_,I1,rfl,⟨_,x,rfl,I.hok.fresh (afI _),rfl,λys hy=>by rw[I.wW hy C];exact Z⟩,⟨⟨u,?_⟩,y.at λo q=>(sb.2 f (ahI d)).trans q,d⟩,λb g=>?_⟩;have e1:((i+1:Nat):Int)=(i:Int)+1:=by lia
  rw[e1];exact h1;have ns:b<s.heap.objs.size:=by
   have N:b=e\/b=f:=by simpa using g
   rcases N with z|z;rw[z];exact t;rw[z];exact vs
  rw[aK (af4 ns)];exact(B b g).1
 done:=by intro X S hw T G i m s σ H E I B st W;subst S hw T;obtain⟨⟨c,j⟩,l,d⟩:=st;obtain⟨xs,C,Z⟩:=W;obtain⟨ds,rv,p,hz⟩:=I.list C;obtain⟨f0,f1,f2,f3,f4,f5⟩:=B f (by simp);have hl:=rv.length;exact wpAny_pyNext_enum_end (I.ok.hd G) j l p.isList (by simp;lia) λR eb=>⟨rfl,I.turned (t':=s.toks) (λb o g q=>eb b o g q) f0 f1 f3 f4 f5⟩
 self:=λA i s Q E st h=>let⟨⟨_,j⟩,_⟩:=st;wpAny_pyIter_enum j h
def aaM(K:W.Frag)(c:TA):TI:=λd H R=>c d H λe b=>∃a f,e=[.ref a]/\jl K b a f/\R (Ite K a) b
theorem UT(o:Gl X "enumerate")(t:X.mg "enumerate"=none)(u:PA X [e] v)(hs:starEach [e] X.env=[(false,eval e X.env)]:=by rfl):
  PI X (.Tuple elts T k) (.Call (.Name "enumerate" p) [e] [] i) (aaM X.K v):=by
 intro d s l H R I h;refine Call_ (yZ I o t boot_enumerate (agx (fP (u i d s l H _ I h) λW c⟨Z,m,g,w,x⟩=>?_) hs rfl));obtain⟨a,xs,y,A,q⟩:=x;subst y;cases w with
 |cons r B=>
  cases B;cases r;obtain⟨C,rv,E,hz⟩:=g.list A;refine call_enumerate_list E.isList λF n j G N=>wpAny_pyIter_enum n ?_
  have P:Inv X d l m {c with heap:=F}:=g.kept (t':=c.toks) N;refine⟨c.heap.objs.size+1,[c.heap.objs.size+1,c.heap.objs.size],_,_,m,rfl,P,O3 a (c.heap.objs.size+1) c.heap.objs.size,⟨⟨.none,n⟩,j,Nat.succ_ne_self _⟩,λb Q=>?_,q⟩;have S:b=c.heap.objs.size+1\/b=c.heap.objs.size:=by simpa using Q
  have f:c.heap.objs.size<=b:=by rcases S with z|z;rw[z];exact ahl _ _;rw[z];exact afI _
  exact g.OU f (g.hok.fresh f)
def O4:bootBuiltins "zip"=some (.type "zip"):=by decide+kernel
def Itz(K:W.Frag)(a b:Addr):It:=
 ⟨λi H=>∃(c d:List V)(x y:V),jl K H a c/\jl K H b d/\c[i]?=some x/\d[i]?=some y,
  λi H v e=>∃T x y,v=.ref T/\H T=none/\e=fD H T (.tup [x,y])/\(∀c,jl K H a c->c[i]?=some x)/\∀d,jl K H b d->d[i]?=some y,
  λi H=>∃c d,jl K H a c/\jl K H b d/\(c.length<=i\/d.length<=i)⟩
theorem Rn{P}{w}{K:W.Frag}{elts}{kk}{S}{a b z TI TO j m}(D:ZipApart z TI TO j m a b):
  Q4 P w K (.Tuple elts kk S) (Itz K a b) [z,TI,TO,j,m] z (λi h=>IsZip h z TI TO .none/\IsPair h TI (.ref j) (.ref m)/\(∃x y,IsPair h TO x y)/\h.IsListIter j a i/\h.IsListIter m b i)where
 mem:=by simp
 obj:=λi h st c hc=>by
  obtain⟨t,d,⟨x,y,e⟩,⟨o1,e1,_,d1⟩,⟨o2,e2,_,d2⟩⟩:=st;have e':c=z\/c=TI\/c=TO\/c=j\/c=m:=by simpa using hc
  rcases e' with q|q|q|q|q;rw[q];exact⟨_,t,λv q=>nomatch q⟩;rw[q];exact⟨_,d,λv q=>nomatch q⟩;rw[q];exact⟨_,e,λv q=>nomatch q⟩;rw[q];exact⟨o1,e1,λv q=>by rw[d1]at q;cases q⟩;rw[q];exact⟨o2,e2,λv q=>by rw[d2]at q;cases q⟩
 keep:=λi h h' st k=>by obtain⟨t,d,⟨x,y,e⟩,G,N⟩:=st;exact⟨k z (by simp) _ t,k TI (by simp) _ d,⟨x,y,k TO (by simp) _ e⟩,G.at λo q=>k j (by simp) o q,N.at λo q=>k m (by simp) o q⟩
 item:=by
  intro X hP hw hK hc i B s σ H E I hf st hg;subst hP hw hK;obtain⟨t,d,⟨x0,y0,e⟩,G,N⟩:=st;obtain⟨xs,ys,x,y,n,r,hx,hy⟩:=hg;obtain⟨T,rv,p,_⟩:=I.list n;obtain⟨sr,C,p2,_⟩:=I.list r;obtain⟨u,hu,ru⟩:=rv.get hx;obtain⟨u2,vs,hi⟩:=C.get hy;have Z:z<s.heap.objs.size:=afT t;refine wpAny_pyNext_zip_item D t d e G N p.isList p2.isList (x:=u) (y:=u2) (by simpa using hu) (by simpa using vs) λh' z' ps ns hj hT es hk=>?_
  refine⟨_,rfl,wpAny_letOwnedTupleGo_zip (s:={s with heap:=h'}) z' λF ha R=>?_⟩;have hp:F.get? s.heap.objs.size=some {cls:=.type "tuple",data:=.seq #[u,u2]}:=(R.2 _ (aik Z)).trans hT;have hs:iH X.prog X.w (fD H s.heap.objs.size (.tup [x,y])) F s.heap.objs.size (.tup [x,y]):=
   ⟨by show 2<=sizeLine;decide,[u,u2],.cons ru (.cons hi .nil),⟨_,hp,rfl,_,rfl⟩⟩
  have I1:Inv X B σ (fD H s.heap.objs.size (.tup [x,y])) {s with heap:=F}:=
   I.Fc (t':=s.toks) (ch:=[z,TI,TO,j,m]) (λc o g q=>(R.2 c (λf=>g (by simp[f]))).trans (hk c o (λf=>g (by simp[f])) (λf=>g (by simp[f])) (λf=>g (by simp[f])) (λf=>g (by simp[f])) q)) hf (afI _) hs
  refine⟨.ref s.heap.objs.size,_,I1,rfl,⟨_,x,y,rfl,I.hok.fresh (afI _),rfl,λl hl=>by rw[I.wW hl n];exact hx,λl hl=>by rw[I.wW hl r];exact hy⟩,⟨ha,?_,⟨u,u2,?_⟩,?_,?_⟩,λc ds=>?_⟩;exact(R.2 _ D.TIz).trans (hk _ _ D.TIz D.TITO D.TIi1 D.TIi2 d);exact(R.2 _ D.TOz).trans ps;exact ns.at λo q=>(R.2 _ D.i1z).trans q
  exact hj.at λo q=>(R.2 _ D.i2z).trans q
  have mg:c<s.heap.objs.size:=by
   have e':c=z\/c=TI\/c=TO\/c=j\/c=m:=by simpa using ds
   rcases e' with q|q|q|q|q;rw[q];exact Z;rw[q];exact afT d;rw[q];exact afT e;rw[q];obtain⟨_,e1,_⟩:=G;exact afT e1;rw[q];obtain⟨_,e2,_⟩:=N;exact afT e2
  rw[aK (af4 mg)];exact(hf c ds).1
 done:=by
  intro X hP hw hK hc i B s σ H E I hf st hg;subst hP hw hK;obtain⟨t,d,⟨x0,y0,e⟩,G,N⟩:=st;obtain⟨xs,ys,n,r,hend⟩:=hg;obtain⟨T,rv,p,_⟩:=I.list n;obtain⟨sr,C,p2,_⟩:=I.list r;have l1:=rv.length;have l2:=C.length;have he:T.toArray[i]?=none\/sr.toArray[i]?=none:=by rcases hend with q|q;exact .inl (by simp;lia);exact .inr (by simp;lia)
  exact wpAny_pyNext_zip_end (I.ok.hd hc) D t d e G N p.isList p2.isList he λh' hk=>⟨rfl,I.US (t':=s.toks) (ch:=[z,TI,TO,j,m]) (λc o g q=>
   hk c o (λf=>g (by simp[f])) (λf=>g (by simp[f])) (λf=>g (by simp[f])) (λf=>g (by simp[f])) q) hf⟩
 self:=λA i s Q E st h=>wpAny_pyIter_zip st.1 h
def adj(K:W.Frag)(d:TA):TI:=λe H R=>d e H λf c=>∃a b g h,f=[.ref a,.ref b]/\jl K c a g/\jl K c b h/\R (Itz K a b) c
theorem XS(C:Gl X "zip")(E:X.mg "zip"=none)(F:PA X [e,k] G)(hs:starEach [e,k] X.env=(false,eval e X.env)::starEach [k] X.env:=by rfl) (kI:(backTo g (starEach [k] X.env)).any (·.1)=false:=by rfl):
  PI X (.Tuple elts kk v) (.Call (.Name "zip" p) [e,k] [] g) (adj X.K G):=by
 intro f s w H R I h;refine Call_ (yZ I C E O4 (agx (fP (F g f s w H _ I h) λus d⟨vs,x,i,N,P⟩=>?_) hs kI));obtain⟨a,b,xs,ys,Q,l,m,q⟩:=P;subst Q;cases N with
 |cons r n=>
  cases n with
  |cons S n=>
   cases n;cases r;cases S;obtain⟨T,rv,y,_⟩:=i.list l;obtain⟨sr,Z,A,_⟩:=i.list m;have la:a<d.heap.objs.size:=y.lt;have lb:b<d.heap.objs.size:=A.lt;refine call_zip_2 y.isList A.isList λh' B o t h1 h2 ds hk=>wpAny_pyIter_zip B ?_
   have I2:Inv X f w x {d with heap:=h'}:=i.kept (t':=d.toks) hk;refine⟨d.heap.objs.size+4,[d.heap.objs.size+4,d.heap.objs.size+2,d.heap.objs.size+3,d.heap.objs.size,d.heap.objs.size+1],_,_,x,rfl,I2,Rn (W.ktu_apart d.heap.objs.size a b la lb),⟨B,o,⟨_,_,t⟩,h1,h2⟩,λc u=>?_,q⟩;have e':c=d.heap.objs.size+4\/c=d.heap.objs.size+2\/c=d.heap.objs.size+3\/c=d.heap.objs.size\/c=d.heap.objs.size+1:=by simpa using u
   have j:d.heap.objs.size<=c:=by rcases e' with z|z|z|z|z;rw[z];exact ahl _ _;rw[z];exact ahl _ _;rw[z];exact ahl _ _;rw[z];exact afI _;rw[z];exact ahl _ _
   exact i.OU j (i.hok.fresh j)
end L2
section
namespace adk
open PySem PyProof.Rows
end adk
end
section
namespace TL
open PySem PySem.Builtin PySem.Builtin.Str PySem.StrLaws
end TL
end
namespace L2
open PySem PySem.Spec PyProof.Rows
section
variable{X:Cx}{aC:List (Addr×Obj)}{σ:St}{H:Hp}{s:Shared}{Q:VK}
end
section
variable{X:Cx}
end
section
variable{X:Cx}{o e:Expr}{to te:TE}
end
section
variable{X:Cx}
end
end L2
namespace Att
open PySem PySem.W PySem.Calls PyProof.Rows
section
variable{prog:Program}{w:World}{A:Around}{E:afr}{s:Shared}{K:Frag}
end
end Att
namespace L2
open PySem PySem.Spec PyProof.Rows
def qA(s:Stmt):Arguments:=match s with| .FunctionDef _ a _ _ _ _ _ _ _ _=>a|_=>{posonlyargs:=[],args:=[],vararg:=none,kwonlyargs:=[],kw_defaults:=[],kwarg:=none,defaults:=[]}
def gG(s:Stmt):List Stmt:=match s with| .FunctionDef _ _ b _ _ _ _ _ _ _=>b|_=>[]
def aP(s:Stmt):Scope:=match s with| .FunctionDef _ _ _ _ _ _ a _ _ _=>a|_=>{kind:=.function,names:=[],isGenerator:=false,isCoroutine:=false}
structure LX(K:W.Frag)(x qual:Str)(st:Stmt)(f:Addr)(fd:FuncData):Prop where
 ex:∃(oc:Value)(od:Option Addr)(kV doc pm:Value)(an:Option Addr)(cdv ct:Value)(osl:Array (Option Value)),
  fd=W.fnOf x qual (qA st) (gG st) (aP st) .none kV doc pm an cdv ct/\K.lookup f=some ⟨oc,od,.func fd,osl⟩/\W.codeIn K cdv qual=true
 kp:W.keepIn K (.ref f)=true
section
variable{P:Program}{w:World}{K:W.Frag}{mg:afs}{base:Heap}
theorem LX.binds{x a}{st}{f}{fd:FuncData}{ps}(F:LX K x a st f fd)(h:∀(kV b d:Value)(an:Option Addr)(c ct:Value)(us:List Value),us.length=ps.length->bindArgs (W.fnOf x a (qA st) (gG st) (aP st) .none kV b d an c ct) ⟨us,[]⟩=pure (ps.zip us)):Binds K fd ps []:=by obtain⟨i,j,kV,b,d,an,c,ct,e,rfl,k,g⟩:=F.ex;exact .all (h kV b d an c ct)
end
section
variable{X:Cx}
theorem pv(i)(b:X.N[i]?=some x:=by rfl)(c:Av X.env.scope x:=by walk_at "v")(d:(x==("__debug__":Str))=false:=by decide)(a:(x==("__classdict__":Str))=false:=by decide):PE X (.Name x e) (QT i):=f6 b c d a
end
def GP{A B:Prop}(h:B):if false=true then A else B:=by rw[afy afJ];exact h
def GQ{A B:Prop}(h:A):if true=true then A else B:=by rw[afz rfl];exact h
def bu(H a:Hp):Prop:=∀b o,H b=some o->a b=some o
theorem bu.refl(H:Hp):bu H H:=λ_ _ h=>h
theorem bu.trans(a:bu H d)(b:bu d e):bu H e:=λc o h=>b c o (a c o h)
theorem bu.free(e:bu H a)(h:a l=Option.none):H l=Option.none:=by
 cases q:H l with
 |none=>rfl
 |some o=>rw[e l o q]at h;cases h
section
variable{κ:Type} [DecidableEq κ]
end
end L2
set_option tactic.hygienic false
section
namespace L2
open PySem PySem.Spec PyProof.Rows
open PySem.W (WData Codec OpenSpec Well WellAll ReadsW ReadsAllW)
mutual
inductive Dw(K:W.Frag)(H:Hp):V->WData->Prop
 |cK:Dw K H .cK .none
 |bl (b:Bool):Dw K H (.bl b) (.bool b)
 |int (i:Int):Dw K H (.int i) (.int i)
 |str (x:Str):Dw K H (.str x) (.str x)
 |Up (b:Array UInt8):Dw K H (.Up b) (.bytes b.toList)
 |lst {a:Addr} {xs:List V} {ds:List WData}:jl K H a xs->pR K H xs ds->Dw K H (.ref a) (.list ds)
 |tup {a:Addr} {xs:List V} {ds:List WData}:kH K H a xs->pR K H xs ds->Dw K H (.ref a) (.tuple ds)
inductive pR(K:W.Frag)(H:Hp):List V->List WData->Prop
 |nil:pR K H [] []
 |cons {v:V} {vs:List V} {d:WData} {ds:List WData}:Dw K H v d->pR K H vs ds->pR K H (v::vs) (d::ds)
end
theorem Nt{K}:∀ns:List Int,pR K H (ns.map V.int) (ns.map WData.int)|[]=>.nil|n::r=>.cons (.int n) (Nt r)
theorem Nu{K}:∀(ns:List Int)xs,pR K H xs (ns.map WData.int)->xs=ns.map V.int
 |[],xs,h=>by cases h;rfl
 |n::r,xs,h=>by
  cases h with
  |cons a b=>cases a;rw[Nu r _ b]<;>rfl
section
variable{P:Program}{w:World}{K:W.Frag}{H:Hp}{h:Heap}{R:W.WRecords}{cl:Str->Option Addr}
theorem XT(c:n6 P w H h)(f:K.In h)(q:jl K H a xs):∃(b:List Value)(o:Obj)(n:Nat),bL xs b/\h.get? a=some o/\o.cls=.type "list"/\o.data=.seq b.toArray n:=by rcases q with q|⟨o,b,n,e,g,_,i,_,d⟩;obtain⟨_,b,n,d,e⟩:=(show iH P w H h a (.lst xs)from q.ok c);exact⟨b,_,n,d,e,rfl,rfl⟩;exact⟨b.toList,o,n,d,f _ _ e,g,by simp[i]⟩
theorem XU(c:n6 P w H h)(i:K.In h)(q:kH K H a xs):∃(b:List Value)(o:Obj)(n:Nat),bL xs b/\h.get? a=some o/\o.cls=.type "tuple"/\o.data=.seq b.toArray n:=by rcases q with q|⟨o,b,n,e,d,f,_,g⟩;obtain⟨_,b,g,o,e,d,n,f⟩:=(show iH P w H h a (.tup xs)from q.ok c);exact⟨b,o,n,g,e,d,f⟩;exact⟨b.toList,o,n,g,i _ _ e,d,by simp[f]⟩
mutual
theorem Dw.reads(a:n6 P w H h)(c:K.In h):∀(d:WData)v(u:Value),Dw K H v d->RelV v u->∃f,ReadsW R cl h u d f
 | .none,_,_,x,r=>by cases x;cases r;exact⟨_,ReadsW.none⟩
 | .bool b,_,_,x,r=>by cases x;cases r;exact⟨_,ReadsW.bool b⟩
 | .int i,_,_,x,r=>by cases x;obtain⟨t,rfl⟩:=r;exact⟨_,ReadsW.int i t⟩
 | .str s,_,_,x,r=>by cases x;obtain⟨t,rfl⟩:=r;exact⟨_,ReadsW.str s t⟩
 | .bytes b,_,_,x,r=>by cases x;obtain⟨t,rfl⟩:=r;exact⟨_,ReadsW.bytes _ t⟩
 | .list ds,_,_,x,r=>by
  cases x with
  |lst hs g=>cases r;obtain⟨e,o,n,j,k,l,m⟩:=XT a c hs;obtain⟨f,p⟩:=Dw.readsAll a c ds _ e g j;exact⟨_,ReadsW.list k l m p⟩
 | .tuple ds,_,_,x,r=>by
  cases x with
  |tup hs g=>cases r;obtain⟨e,o,n,j,k,l,m⟩:=XU a c hs;obtain⟨f,p⟩:=Dw.readsAll a c ds _ e g j;exact⟨_,ReadsW.tuple k l m p⟩
 | .float _,_,_,x,_=>by cases x
 | .dict _,_,_,x,_=>by cases x
 | .bytearray _,_,_,x,_=>by cases x
 | .set _,_,_,x,_=>by cases x
 | .frozenset _,_,_,x,_=>by cases x
 | .obj _ _,_,_,x,_=>by cases x
theorem Dw.readsAll(a:n6 P w H h)(c:K.In h):∀ds vs us,pR K H vs ds->bL vs us->∃f,ReadsAllW R cl h us ds f
 |[],_,_,x,r=>by cases x;cases r;exact⟨_,ReadsAllW.nil⟩
 |d::ds,_,_,x,r=>by
  cases x with
  |cons q y=>
   cases r with|cons z A=>obtain⟨f,B⟩:=Dw.reads a c d _ _ q z;obtain⟨bs,C⟩:=Dw.readsAll a c ds _ _ y A;exact⟨_,ReadsAllW.cons B C⟩
end
end
mutual
def Nv:WData->Bool| .none=>true| .bool _=>true| .int _=>true| .str _=>true| .bytes _=>true| .list xs=>Be xs| .tuple xs=>Be xs|_=>false
def Be:List WData->Bool|[]=>true|x::r=>Nv x&&Be r
end
theorem Jz{b}{f}(h:∀a,Nv (f a)=true):∀l:List b,Be (l.map f)=true|[]=>rfl|x::r=>by show(Nv (f x)&&Be (r.map f))=true;rw[h x,Jz h r]<;>rfl
theorem sH:∀(c:Codec)a,Nv (c.enc a)=true| .unit,_=>rfl| .bool,_=>rfl| .int _ _,_=>rfl| .nat _ _,_=>rfl| .u8,_=>rfl| .bytes _ _,_=>rfl| .text _ _ _ _,_=>rfl| .list _ _ c,a=>Jz (λx=>sH c x) a| .pair c d,a=>by show(Nv (c.enc a.1)&&(Nv (d.enc a.2)&&true))=true;rw[sH c a.1,sH d a.2]<;>rfl| .triple c d e,a=>by show(Nv (c.enc a.1)&&(Nv (d.enc a.2.1)&&(Nv (e.enc a.2.2)&&true)))=true;rw[sH c a.1,sH d a.2.1,sH e a.2.2]<;>rfl| .option c,none=>rfl| .option c,some x=>sH c x
theorem Fd:∀(cs:List Codec)a,Be (Codec.encAll cs a)=true|[],_=>rfl|c::cs,a=>by show(Nv (c.enc a.1)&&Be (Codec.encAll cs a.2))=true;rw[sH c a.1,Fd cs a.2]<;>rfl
theorem vX:∀{xs:List WData}{d:WData},d∈xs->d.weight<=WData.weightAll xs
 |[],d,h=>absurd h (by simp)
 |x::r,d,h=>by show d.weight<=x.weight+1+WData.weightAll r;rcases afU.mp h with e|m;rw[e];omega;have z:=vX m;omega
def JA:Value->V| .none=>.cK| .bool b=>.bl b| .int i _=>.int i| .str x _=>.str x| .bytes b _=>.Up b| .ref a=>.ref a|_=>.cK
def O5(A:List Addr):Value->Prop| .none=>True| .bool _=>True| .int _ _=>True| .str _ _=>True| .bytes _ _=>True| .ref a=>a∈A|_=>False
theorem O5.mono(h:∀a∈A,a∈B):∀{u:Value},O5 A u->O5 B u:=λ{u}x=>by
 cases u with|ref a=>exact h a x|none=>trivial|bool b=>trivial|int i t=>trivial|str s t=>trivial|bytes b t=>trivial|_=>exact False.elim x
theorem Ro(x:O5 A u):RelV (JA u) u:=by
 cases u with|ref a=>rfl|none=>rfl|bool b=>rfl|int i t=>exact⟨t,rfl⟩|str s t=>exact⟨t,rfl⟩|bytes b t=>exact⟨t,rfl⟩|_=>exact False.elim x
theorem pS:∀{vs:List Value},(∀u∈vs,O5 A u)->bL (vs.map JA) vs|[],_=>.nil|u::r,h=>.cons (Ro (h u (afH ..))) (pS λx a=>h x (afA _ a))
def rS(h:Heap)(A:List Addr)(a:Addr):Prop:=∃b:List Value,b.length<=sizeLine/\(∀u∈b,O5 A u)/\
 (h.get? a=some {cls:=.type "list",data:=.seq b.toArray}\/h.get? a=some {cls:=.type "tuple",data:=.seq b.toArray})
theorem rS.mono(k:∀a∈A,a∈B)(x:rS h A a):rS h B a:=by obtain⟨b,c,d,e⟩:=x;exact⟨b,c,λu f=>(d u f).mono k,e⟩
theorem oi:∀{vs:List Value}{ds:List WData},WellAll P h vs ds->vs.length=ds.length|_,_,.nil=>rfl|_,_,.cons _ b=>by show _+1=_+1;rw[oi b]
theorem Fe(x:Well P h v (.list ds)):∃(a:Addr)(vs:List Value),v=.ref a/\h.get? a=some {cls:=.type "list",data:=.seq vs.toArray}/\WellAll P h vs ds:=by
 cases x with|list b hall=>exact⟨_,_,rfl,b,hall⟩
theorem Cb(x:Well P h v (.tuple ds)):∃(a:Addr)(vs:List Value),v=.ref a/\h.get? a=some {cls:=.type "tuple",data:=.seq vs.toArray}/\WellAll P h vs ds:=by
 cases x with|tuple b hall=>exact⟨_,_,rfl,b,hall⟩
theorem Ff(x:WellAll P h us (d::ds)):∃(v:Value)(vs:List Value),us=v::vs/\Well P h v d/\WellAll P h vs ds:=by
 cases x with|cons a b=>exact⟨_,_,rfl,a,b⟩
def Ny(h:n<=1048576):n<=sizeLine:=af9 h (by decide)
section
variable{P:Params}{h:Heap}
mutual
theorem Rp:∀d(v:Value),Well P h v d->Nv d=true->d.weight<=1048576->∃A:List Addr,O5 A v/\∀a∈A,rS h A a
 | .none,_,x,_,_=>by cases x;exact⟨[],trivial,λa m=>absurd m (by simp)⟩
 | .bool b,_,x,_,_=>by cases x;exact⟨[],trivial,λa m=>absurd m (by simp)⟩
 | .int i,_,x,_,_=>by cases x;exact⟨[],trivial,λa m=>absurd m (by simp)⟩
 | .str s,_,x,_,_=>by cases x;exact⟨[],trivial,λa m=>absurd m (by simp)⟩
 | .bytes b,_,x,_,_=>by cases x;exact⟨[],trivial,λa m=>absurd m (by simp)⟩
 | .list ds,_,x,p,z=>by
  obtain⟨a,vs,rfl,j,hall⟩:=Fe x;have f:WData.weightAll ds<=1048576:=z;obtain⟨A,l,n⟩:=xg ds _ hall p λd o=>af9 (vX o) f
  have k:∀b∈A,b∈a::A:=λb c=>afA _ c
  refine⟨a::A,afH ..,λb c=>?_⟩;rcases afU.mp c with e|m;rw[e];exact⟨vs,Ny (by rw[oi hall];exact af9 (aii ds) f),λu g=>(l u g).mono k,.inl j⟩;exact(n b m).mono k
 | .tuple ds,_,x,p,z=>by
  obtain⟨a,vs,rfl,j,hall⟩:=Cb x;have f:WData.weightAll ds<=1048576:=z;obtain⟨A,l,n⟩:=xg ds _ hall p λd o=>af9 (vX o) f
  have k:∀b∈A,b∈a::A:=λb c=>afA _ c
  refine⟨a::A,afH ..,λb c=>?_⟩;rcases afU.mp c with e|m;rw[e];exact⟨vs,Ny (by rw[oi hall];exact af9 (aii ds) f),λu g=>(l u g).mono k,.inr j⟩;exact(n b m).mono k
 | .float _,_,_,p,_=>Bool.noConfusion (show false=true from p)
 | .dict _,_,_,p,_=>Bool.noConfusion (show false=true from p)
 | .bytearray _,_,_,p,_=>Bool.noConfusion (show false=true from p)
 | .set _,_,_,p,_=>Bool.noConfusion (show false=true from p)
 | .frozenset _,_,_,p,_=>Bool.noConfusion (show false=true from p)
 | .obj _ _,_,_,p,_=>Bool.noConfusion (show false=true from p)
theorem xg:∀(ds:List WData)vs,WellAll P h vs ds->Be ds=true->(∀d∈ds,d.weight<=1048576)->∃A:List Addr,(∀u∈vs,O5 A u)/\∀a∈A,rS h A a
 |[],_,x,_,_=>by cases x;exact⟨[],λu m=>absurd m (by simp),λa m=>absurd m (by simp)⟩
 |d::ds,_,x,p,z=>by
  obtain⟨v,vs,rfl,w,y⟩:=Ff x;have q:Nv d=true/\Be ds=true:=aiy.mp p;obtain⟨A,a1,a2⟩:=Rp d v w q.1 (z d (afH ..));obtain⟨B,b1,C⟩:=xg ds vs y q.2 λe he=>z e (afA _ he)
  have r:∀b∈A,b∈A++B:=λb c=>agt.mpr (.inl c)
  have t:∀b∈B,b∈A++B:=λb c=>agt.mpr (.inr c)
  refine⟨A++B,λu g=>?_,λb c=>?_⟩;rcases afU.mp g with e|m;rw[e];exact a1.mono r;exact(b1 u m).mono t;rcases agt.mp c with m|m;exact(a2 b m).mono r;exact(C b m).mono t
end
end
def UU(o:Obj):Option HO:=match o.data with
 | .seq a _=>if(o.cls==Value.type "list")=true then some (.Bb o (.lst (a.toList.map JA)))else some (.Bb o (.tup (a.toList.map JA)))
 |_=>none
def oZ(K:W.Frag)(h:Heap)(A:List Addr):Hp:=λb=>if b∈A then(if(K.lookup b).isNone=true then(h.get? b).bind UU else none)else none
def Cc(H:Hp):Prop:=∀b,H b=none\/∃o u,H b=some (.Bb o u)
theorem JB(vs:List Value):UU {cls:=.type "list",data:=.seq vs.toArray}=some (.Bb {cls:=.type "list",data:=.seq vs.toArray} (.lst (vs.map JA))):=by show(if(Value.type "list"==Value.type "list")=true then some (HO.Bb {cls:=.type "list",data:=.seq vs.toArray} (.lst (vs.toArray.toList.map JA)))else some (HO.Bb {cls:=.type "list",data:=.seq vs.toArray} (.tup (vs.toArray.toList.map JA))))=_;rw[afz (ag5 _)]
theorem JC(vs:List Value):UU {cls:=.type "tuple",data:=.seq vs.toArray}=some (.Bb {cls:=.type "tuple",data:=.seq vs.toArray} (.tup (vs.map JA))):=by show(if(Value.type "tuple"==Value.type "list")=true then some (HO.Bb {cls:=.type "tuple",data:=.seq vs.toArray} (.lst (vs.toArray.toList.map JA)))else some (HO.Bb {cls:=.type "tuple",data:=.seq vs.toArray} (.tup (vs.toArray.toList.map JA))))=_;rw[afy (by decide)]
section
variable{P:Program}{w:World}{K:W.Frag}{h:Heap}{A:List Addr}
theorem BB(a:b∈A)(c:K.lookup b=none)(e:h.get? b=some o):oZ K h A b=UU o:=by unfold oZ;rw[afz a,c,afz (show(none:Option Obj).isNone=true from rfl),e]<;>rfl
theorem UW(q:oZ K h A b=some u):b∈A/\K.lookup b=none:=by
 unfold oZ at q
 by_cases a:b∈A
 rw[afz a]at q;cases c:K.lookup b with
 |none=>exact⟨a,rfl⟩
 |some o=>rw[c,afy (by simp)]at q;cases q
 rw[afy a]at q;cases q
theorem xh(f:∀a∈A,rS h A a)(q:oZ K h A b=some u):K.lookup b=none/\∃vs:List Value,vs.length<=sizeLine/\(∀u∈vs,O5 A u)/\ ((h.get? b=some {cls:=.type "list",data:=.seq vs.toArray}/\u=.Bb {cls:=.type "list",data:=.seq vs.toArray} (.lst (vs.map JA)))\/ (h.get? b=some {cls:=.type "tuple",data:=.seq vs.toArray}/\u=.Bb {cls:=.type "tuple",data:=.seq vs.toArray} (.tup (vs.map JA)))):=by obtain⟨c,d⟩:=UW q;obtain⟨vs,g,i,j⟩:=f b c;refine⟨d,vs,g,i,?_⟩;rcases j with e|e;rw[BB c d e,JB]at q;exact .inl ⟨e,(af2 q).symm⟩;rw[BB c d e,JC]at q;exact .inr ⟨e,(af2 q).symm⟩
theorem O6(c:∀a∈A,rS h A a):Cc (oZ K h A):=λb=>by
 cases q:oZ K h A b with|none=>exact .inl rfl|some u=>obtain⟨_,d,_,_,⟨_,e⟩|⟨_,e⟩⟩:=xh c q;exact .inr ⟨_,_,by rw[e]⟩;exact .inr ⟨_,_,by rw[e]⟩
theorem UX(g:∀a∈A,rS h A a):n6 P w (oZ K h A) h:=λb u q=>by obtain⟨_,c,d,f,⟨e,rfl⟩|⟨e,rfl⟩⟩:=xh g q;exact⟨e,by rw[afB];exact d,c,_,pS f,e⟩;exact⟨e,by rw[afB];exact d,c,pS f,_,e,rfl,_,rfl⟩
theorem BC{c a}{vs us:List Value}(e:(some {cls:=c,data:=.seq vs.toArray}:Option Obj)=some {cls:=a,data:=.seq us.toArray}):c=a/\vs=us:=by have e1:=af2 e;have b:c=a:=agg Obj.cls e1;have d:Data.seq vs.toArray=Data.seq us.toArray:=agg Obj.data e1;injection d with f;refine⟨b,?_⟩;have g:=agg Array.toList f;simpa using g
theorem adl(i:K.In h)(j:∀a∈A,rS h A a){a:Addr}{vs:List Value}(c:a∈A)(e:h.get? a=some {cls:=.type "list",data:=.seq vs.toArray}):(∀u∈vs,O5 A u)/\jl K (oZ K h A) a (vs.map JA):=by
 obtain⟨d,k,f,l⟩:=j a c;have m:d=vs:=by rcases l with q|q;rw[e]at q;exact(BC q).2.symm;rw[e]at q;exact absurd (ahY (BC q).1) (by decide)
 subst m;refine⟨f,?_⟩;cases b:K.lookup a with|none=>exact .inl (.inr ⟨_,by rw[BB c b e,JB]⟩)|some o=>have g:=i a o b;rw[e]at g;obtain rfl:=af2 g;exact .inr ⟨_,d.toArray,_,b,rfl,rfl,rfl,by rw[afX];exact k,by simpa using pS f⟩
theorem adm(i:K.In h)(j:∀a∈A,rS h A a){a:Addr}{vs:List Value}(c:a∈A)(e:h.get? a=some {cls:=.type "tuple",data:=.seq vs.toArray}):(∀u∈vs,O5 A u)/\kH K (oZ K h A) a (vs.map JA):=by
 obtain⟨d,k,f,l⟩:=j a c;have m:d=vs:=by rcases l with q|q;rw[e]at q;exact absurd (ahY (BC q).1) (by decide);rw[e]at q;exact(BC q).2.symm
 subst m;refine⟨f,?_⟩;cases b:K.lookup a with|none=>exact .inl (.inr ⟨_,by rw[BB c b e,JC]⟩)|some o=>have g:=i a o b;rw[e]at g;obtain rfl:=af2 g;exact .inr ⟨_,d.toArray,_,b,rfl,rfl,by rw[afX];exact k,by simpa using pS f⟩
mutual
theorem XW{k:Params}(c:K.In h)(e:∀a∈A,rS h A a):∀d(v:Value),Well k h v d->Nv d=true->O5 A v->Dw K (oZ K h A) (JA v) d
 | .none,_,x,_,_=>by cases x;exact .cK
 | .bool b,_,x,_,_=>by cases x;exact .bl b
 | .int i,_,x,_,_=>by cases x;exact .int i
 | .str s,_,x,_,_=>by cases x;exact .str s
 | .bytes b,_,x,_,_=>by cases x;have z:=Dw.Up (K:=K) (H:=oZ K h A) b.toArray;exact z
 | .list ds,_,x,p,f=>by obtain⟨a,vs,rfl,g,hall⟩:=Fe x;obtain⟨j,hs⟩:=adl c e f g;exact .lst hs (GR c e ds _ hall p j)
 | .tuple ds,_,x,p,f=>by obtain⟨a,vs,rfl,g,hall⟩:=Cb x;obtain⟨j,hs⟩:=adm c e f g;exact .tup hs (GR c e ds _ hall p j)
 | .float _,_,_,p,_=>Bool.noConfusion (show false=true from p)
 | .dict _,_,_,p,_=>Bool.noConfusion (show false=true from p)
 | .bytearray _,_,_,p,_=>Bool.noConfusion (show false=true from p)
 | .set _,_,_,p,_=>Bool.noConfusion (show false=true from p)
 | .frozenset _,_,_,p,_=>Bool.noConfusion (show false=true from p)
 | .obj _ _,_,_,p,_=>Bool.noConfusion (show false=true from p)
theorem GR(c:K.In h)(e:∀a∈A,rS h A a):∀ds(vs:List Value),WellAll k h vs ds->Be ds=true->(∀u∈vs,O5 A u)->pR K (oZ K h A) (vs.map JA) ds
 |[],_,x,_,_=>by cases x;exact .nil
 |d::ds,_,x,p,f=>by obtain⟨v,vs,rfl,l,n⟩:=Ff x;have q:Nv d=true/\Be ds=true:=aiy.mp p;exact .cons (XW c e d v l q.1 (f _ (afH ..))) (GR c e ds vs n q.2 λu m=>f u (afA _ m))
end
end
theorem O7{K}(N:K.In a.heap) (y:a.heap.Ns mainGlobals mg) (Q:a.heap.Ns builtinsNs mb) (S:∀x:Str,x≠"__name__"->mb x=bootBuiltins x) (hlim:a.heap.NoLimit) (hg:a.gens= #[])(i:WellAll w.params a.heap vals ds) (kI:Be ds=true) (T:∀d∈ds,d.weight<=1048576) (hr:cG k callerA)(W:a.heap.NoSeer) (F:∀base:Heap,K.In base->base.Ns mainGlobals mg->base.NoSeer->eH P w K mg base CX k fa fd ps sp) (hbind:∀(s:Shared)(us:List Value),us.length=ps.length->BindsTo s fd ⟨us,[]⟩ (ps.zip us)) (B:ds.length=ps.length)(X:∀(H:Hp)(xs:List V),Cc H->pR K H xs ds->sp xs H (λv H'=>Dw K H' v d0) λ_ _ _=>False)(Z:∀H e s',CX [] H a (λ_ _ _=>False) e s'->False):
  codeAny (model P w) callerA (.call (.ref fa) ⟨vals,[]⟩) (λr s'=>∃u as,r=.ok (.ret u)/\ReadsW R cl s'.heap u d0 as/\OldK a.heap s'.heap/\s'.os=a.os/\AllBare s'.gens) a:=by
 obtain⟨A,ho,l⟩:=xg ds vals i kI T;have hO:Cc (oZ K a.heap A):=O6 l;have j:n6 P w (oZ K a.heap A) a.heap:=UX l;have hS:=GR N l ds vals i kI ho;have hV:=pS ho;have hK:∀b u,oZ K a.heap A b=some u->K.lookup b=none:=λb u q=>(xh l q).1
 have C:∀{b:Addr}{o:Obj}{p:Array DictEntry}{t:Nat},a.heap.get? b=some o->o.data=.dict p t->oZ K a.heap A b=none:=λ{b o p t}e d=>by
  cases q:oZ K a.heap A b with
  |none=>rfl
  |some u=>obtain⟨_,vs,_,_,⟨g,_⟩|⟨g,_⟩⟩:=xh l q;rw[g]at e;cases e;have d':Data.seq vs.toArray _=Data.dict p t:=d;cases d';rw[g]at e;cases e;have d':Data.seq vs.toArray _=Data.dict p t:=d;cases d'
 have E:∀{b:Addr}{o:Obj},a.heap.get? b=some o->o.cls=.type "module"->oZ K a.heap A b=none:=λ{b o}e d=>by
  cases q:oZ K a.heap A b with
  |none=>rfl
  |some u=>obtain⟨_,vs,_,_,⟨g,_⟩|⟨g,_⟩⟩:=xh l q;rw[g]at e;cases e;exact absurd (ahY d) (by decide);rw[g]at e;cases e;exact absurd (ahY d) (by decide)
 generalize oZ K a.heap A=H at hO j hS hK C E;have c:∀{b:Addr}{o:Obj},a.heap.get? b=some o->H b=none->(Ej a.heap H).get? b=some o:=λe n=>QN e n
 have f:∀{b:Addr}{m:afs},a.heap.Ns b m->(Ej a.heap H).Ns b m:=λ{b m}⟨o,p,t,e,d,r⟩=>⟨o,p,t,c e (C e d),d,r⟩
 have nK:∀b o,K.lookup b=some o->H b=none:=λb o e=>by
  cases q:H b with
  |none=>rfl
  |some u=>rw[hK b u q]at e;cases e
 have G:K.In (Ej a.heap H):=λb o e=>c (N b o e) (nK b o e)
 have hM:Mod K mg (Ej a.heap H):=⟨G,f y,⟨mb,f Q,S⟩,let⟨mc,h1,h2⟩:=hlim;⟨mc,f h1,h2⟩⟩;have I:(Ej a.heap H).NoSeer:=by obtain⟨⟨mc,a1,a2⟩,⟨mm,b1,b2⟩,⟨mi,c1,c2⟩,⟨mz,bm,ob,d1,d2,d3,d4,d5⟩⟩:=W;exact⟨⟨mc,f a1,a2⟩,⟨mm,f b1,b2⟩,⟨mi,f c1,c2⟩,⟨mz,bm,ob,f d1,d2,c d3 (E d3 d4),d4,d5⟩⟩
 have e0:LS P w K mg (Ej a.heap H) callerA [] a H:=⟨rfl,hM,λb o e=>Uq e,ahc (OP _ _),trivial,λb Q=>absurd (show b∈([]:List Addr)from Q) (by simp),j,.of_eq hg⟩;have hl:vals.length=ps.length:=by rw[oi i];exact B
 refine aim ((F _ G (f y) I).run callerA [] a H ⟨vals,[]⟩ vals (vals.map JA) _ _ hr e0 (hbind a vals hl) hV (X H _ hO hS)) λr s' x=>?_
 cases r with
 |error e=>exact(Z H e s' x).elim
 |ok fl=>
  cases fl with
  |next=>exact False.elim x
  |brk=>exact False.elim x
  |cont=>exact False.elim x
  |ret u=>
   obtain⟨v,H',os,bare,un,h,r',q⟩:=x;have kept:∀b o,a.heap.get? b=some o->s'.heap.get? b=some o:=λb o e=>by
    cases q2:H b with
    |none=>exact un.keep b o e q2 (by intro z;exact absurd (show b∈([]:List Addr)from z) (by simp)) (by simp)
    |some u2=>rcases hO b with z|⟨ob,u3,z⟩;rw[q2]at z;cases z;have z2:=un.vR b ob _ z;obtain⟨e1,_⟩:=j b _ z;obtain⟨g,_⟩:=h b _ z2;rw[e]at e1;cases e1;exact g
   have hi:K.In s'.heap:=λb o e=>kept b o (N b o e)
   obtain⟨as,hc⟩:=Dw.reads (R:=R) (cl:=cl) h hi d0 v u q r';exact⟨u,as,rfl,hc,OldK.of_keep kept,os,bare⟩
theorem Cd(h:WData.layableAll ds=true):∀d∈ds,d.weight<=1048576:=λd a=>
 (W.layableW_iff.mp (agC.mp h d a)).2.2
theorem Ce:∀cs a,(Codec.encAll cs a).length=cs.length|[],_=>rfl|c::cs,a=>by show(Codec.encAll cs a.2).length+1=cs.length+1;rw[Ce cs a.2]
theorem O8{r}{k}{q}{loose:List Str}{N}{n:World->Heap->Prop}{d}{K:Params->W.Frag}{CX:World->QD}{ps}{sp:World->Sp}(himp:importsNone q=true) (c:r.wellSaid=true) (P:d.params.defaults=[]) (i:r.args.length=ps.length) (Q:cG k callerA)(S:∀(w:World)(h:Heap),n w h->(K w.params).In h)(F:∀(w:World)(mg:afs)(m:Addr)(h:Heap),n w h->(K w.params).In h->h.Ns mainGlobals mg->mg d.name=some (.ref m)->
   ∃p:FuncData,(∀(s:Shared)(us:List Value),us.length=ps.length->BindsTo s p ⟨us,[]⟩ (ps.zip us))/\
    ∀base:Heap,(K w.params).In base->base.Ns mainGlobals mg->base.NoSeer->eH r.prog w (K w.params) mg base (CX w) k m p ps (sp w))
  (t:∀(w:World)(H:Hp)(xs:List V)(a:Codec.denoteAll r.args),Cc H->Codec.withinAll r.args a=true->Codec.app r.args r.asked a=true->pR (K w.params) H xs (Codec.encAll r.args a)->
   sp w xs H (λv X=>Dw (K w.params) X v (r.ret.enc (Codec.app r.args r.f a))) λ_ _ _=>False)
  (x:∀(w:World)(H:Hp)(s:Shared)(e:Value)(s':Shared),CX w [] H s (λ_ _ _=>False) e s'->False):
  W.WalkOS q loose N n r d [] (λf vs=>PySem.call f vs):=by
 intro w y j mg mb G E m o pm cd Z dV kV ho hd ds hD A hg args vals as hpre hlay ok B hi;obtain⟨a,e1,e2⟩:=W.os_pre_some hpre;obtain⟨e3,l⟩:=Codec.encAll_of_decAll r.args args a e1;subst e3;have I:=S w _ E;obtain⟨p,hb,hF⟩:=F w mg m _ E I G.T.g A;refine W.enter_call (aim (O7 (R:=[]) (cl:=classAt y.heap) (d0:=r.ret.enc (Codec.app r.args r.f a)) I G.T.g G.T.b G.T.builtins G.T.nolimit hg B (Fd _ _) (Cd hlay) Q (G.T.seer himp) hF hb (by rw[Ce];exact i)
  (λH xs hO hS=>t w H xs a hO l e2 hS) λH e s'=>x w H j e s') λr' s' hq=>?_)
 obtain⟨u,C,rfl,h1,h2,h3,h4⟩:=hq;exact⟨.inl ⟨u,_,C,rfl,λ_=>rfl,h1,(OpenSpec.post_iff c l _ _).mpr rfl,λz=>Bool.noConfusion (show false=true from z)⟩,h2,h3,h4⟩
end L2
end
namespace L2
open PySem PySem.Spec PyProof.Rows
structure LH(t:Bool)(g:Heap)(H:Hp)(h:Heap)(e:Addr)(C:Value):Prop where
 ex:∃(oe:Obj)(vs:Array Value),h.get? e=some oe/\oe.cls=C/\oe.data=.fields vs/\1<vs.size/\
  ((t=false/\vs[1]?=some .none)\/∃(T:Addr)(oT:Obj)(ts:Array Value),vs[1]?=some (.ref T)/\T≠e/\g.get? T=none/\H T=none/\h.get? T=some oT/\oT.data=.fields ts/\3<ts.size)
 lo:g.get? e=none
 fr:H e=none
 old:∀b o,g.get? b=some o->b<h.objs.size
theorem LH.older(x:LH t g H h e C)(j:∀b o,g'.get? b=some o->∃i,g.get? b=some i):LH t g' H h e C:=by
 have k:∀b,g.get? b=none->g'.get? b=none:=λb e=>by
  cases q:g'.get? b with
  |none=>rfl
  |some o=>obtain⟨i,z⟩:=j b o q;rw[e]at z;cases z
 obtain⟨⟨m,n,a,b,c,d,z⟩,l,f,o⟩:=x;refine⟨⟨m,n,a,b,c,d,?_⟩,k _ l,f,λb u q=>by obtain⟨i,z⟩:=j b u q;exact o b i z⟩;rcases z with z|⟨T,p,r,s,v,w,y⟩;exact .inl z;exact .inr ⟨T,p,r,s,v,k _ w,y⟩
theorem n6.but(x:n6 P w H h)(k:∀b o,h.get? b=some o->H b≠none->h'.get? b=some o):n6 P w H h':=λa o e=>
 (x a o e).stay (λb u c q=>k b u q (by rcases c with z|z;rw[z,e];simp;rw[z];simp)) (λ_ q=>q) λ_ _ q=>q
structure kJ(P:Program)(w:World)(fs:List Addr)(g:Heap)(H:Hp)(h h':Heap):Prop where
 un:∃ch:List Addr,Un fs ch H H h h'/\∀b∈ch,g.get? b=none/\H b=none
 ok:n6 P w H h'
theorem kJ.refl(ok:n6 P w H h):kJ P w fs g H h h:=⟨⟨[],Un.refl,λ_ z=>nomatch z⟩,ok⟩
theorem kJ.trans(a:kJ P w fs g H h c)(b:kJ P w fs g H c d):kJ P w fs g H h d:=by obtain⟨⟨e,f,i⟩,_⟩:=a;obtain⟨⟨j,k,l⟩,m⟩:=b;refine⟨⟨e++j,(f.mono (λ_ z=>z) λb z=>ahh _ z).trans (k.mono (λ_ z=>z) λb z=>agl _ z),λb z=>?_⟩,m⟩;rcases agt.mp z with z|z;exact i b z;exact l b z
section
variable{M:Model}{A:Around}{E:afr}{s:Shared}{P:Program}{w:World}
theorem qB(i:n6 P w H h)(j:g.get? a=none)(f:H a=none):kJ P w fs g H h (h.update a u):=by
 have k:∀b,b≠a->(h.update a u).get? b=h.get? b:=λb d=>agD _ _ (ahI d)
 refine⟨⟨[a],⟨λb o q _ _ c=>?_,λb o q _ _ c=>⟨o.slots,?_⟩,λ_ _ _ z _=>z,λb o q c=>⟨o,?_⟩,λ_ _ q=>q,λ_ _ _ q=>q,λ_ l q=>⟨#[],by rw[q];simp⟩⟩,λb d=>?_⟩,i.but λb o q z=>?_⟩;rw[k b λe=>c (by rw[e];exact agy.mpr rfl)];exact q;rw[k b λe=>c (by rw[e];exact agy.mpr rfl)];exact q;rw[k b λe=>c (by rw[e];exact agy.mpr rfl)];exact q;rw[agy.mp d];exact⟨j,f⟩;rw[k b λe=>z (by rw[e];exact f)];exact q
theorem JD(a:n6 P w H h):kJ P w fs g H h (h.push o):=
 ⟨⟨[],Un.kept λb u q=>afP _ q,λ_ z=>nomatch z⟩,a.kept λb u q=>afP _ q⟩
theorem GS(c:n6 P w H h)(d:∀b∈fs,H b=none)(x:Heap.SlotsOnly fs h h'):kJ P w fs g H h h':=by refine⟨⟨[],⟨λb o q _ a _=>?_,λb o q _ _ _=>x.2.2 b o q,λ_ _ _ z _=>z,λb o q _=>?_,λ_ _ q=>q,λ_ _ _ q=>q,λ_ f q=>⟨#[],by rw[q];simp⟩⟩,λ_ z=>nomatch z⟩,c.but λb o q z=>?_⟩;rw[x.2.1 b a];exact q;obtain⟨i,e⟩:=x.2.2 b o q;exact⟨_,e⟩;rw[x.2.1 b λa=>z (d b a)];exact q
theorem JE(r:A.frames=some (env::aN))(I:s.heap.FunFrames base (env::aN))(W:env.frame=some L)(X:∀b∈Eh (env::aN),H b=none) (N:n6 P w H s.heap) (j:∀b o,g.get? b=some o->b<s.heap.objs.size) (he:s.heap.get? e=some t) (Z:t.cls=C) (u:t.data=.fields vs) (hz:1<vs.size) (lo:g.get? e=none) (fr:H e=none)(h:∀h',kJ P w (Eh (env::aN)) g H s.heap h'->LH true g H h' e C->Q () {s with heap:=h'}):
  wpAny M A (do let a<-frameOf env;let pl<-entryPlaceOf L hadNext;let b<-EntryCells.newEntry head a .none (rawInt L) .none pl;setField (.ref e) 1 b) Q E s:=by
 have k:e∉Eh (env::aN):=λhb=>by obtain⟨_,o,R,v⟩:=I.mem hb;rw[he]at R;cases R;exact v vs u
 refine af1 (wpAny_frameOf_fun r I W λc f=>?_);refine af1 (wpAny_entryPlaceOf λpl x=>?_);unfold EntryCells.newEntry newFields;refine af1 (wpAny_newObj_type ?_ (x.sizeOk5 _ _ _ _ _));generalize y:({cls:=.type "traceback",dict:=none,data:=.fields ([head,.ref L,.none,rawInt L,.none]++(if pl.isEmpty then List.replicate 6 Value.none else pl)).toArray}:Obj)=i;have l:c.get? e=some t:=(f.2.1 e k).trans he;have m:=afP (h:=c) i l;have S:=GS (g:=g) N X f;have T:=JD (fs:=Eh (env::aN)) (g:=g) (o:=i) S.ok;refine aiz m u hz (h _ ((S.trans T).trans (qB T.ok lo fr)) ?_);have n:c.objs.size≠e:=aik (afT l);have p:=ahU u (·.setIfInBounds 1 (Value.ref c.objs.size));have z:=ahB (Obj.mapFields (·.setIfInBounds 1 (Value.ref c.objs.size))) m (ahC p);have d:i.data=.fields ([head,.ref L,.none,rawInt L,.none]++(if pl.isEmpty then List.replicate 6 Value.none else pl)).toArray:=by rw[<-y]
 have B:((c.push i).update e (Obj.mapFields (·.setIfInBounds 1 (Value.ref c.objs.size)))).get? c.objs.size=some i:=
  (agD _ _ (ahI n)).trans (af8 c (ahC d))
 have F:s.heap.objs.size<=c.objs.size:=ahc f.1.symm;have G:g.get? c.objs.size=none:=by
  cases q:g.get? c.objs.size with|none=>rfl|some o=>exact absurd (afQ (j _ o q) F) (agp _)
 have old':∀b o,g.get? b=some o->b<((c.push i).update e (Obj.mapFields (·.setIfInBounds 1 (Value.ref c.objs.size)))).objs.size:=λb o q=>by rw[ahw,ags];exact agw (afQ (j b o q) F)
 refine⟨⟨_,_,z,(Obj.cls_mapFields _ _).trans Z,p,by simpa using hz,.inr ⟨c.objs.size,i,_,by simp[hz],n,G,N.fresh F,B,d,?_⟩⟩,lo,fr,old'⟩;simp only[List.size_toArray,List.length_append,List.length_cons,List.length_nil]
 lia
theorem UY(c:A.frames=some (env::aN))(G:s.heap.FunFrames base (env::aN))(l:env.frame=some L)(I:∀b∈Eh (env::aN),H b=none) (m:n6 P w H s.heap) (x:LH t g H s.heap e C)(h:∀h',kJ P w (Eh (env::aN)) g H s.heap h'->LH true g H h' e C->Q () {s with heap:=h'}):wpAny M A (noteFrame (.ref e) env) Q E s:=by
 obtain⟨⟨Z,vs,d,n,f,p,z⟩,lo,fr,a⟩:=id x;unfold noteFrame;simp only[l];rcases z with⟨_,z⟩|⟨T,oT,r,N,R,S,W,j,k,v⟩;refine af1 (ah8 d f z ?_);rw[afy (by decide)];exact JE c G l I m a d n f p lo fr h;refine af1 (ah8 d f N ?_);rw[afz (show(Value.ref T !=Value.none)=true from by simp)];obtain⟨y,hy⟩:∃y,r[3]?=some y:=⟨_,Array.getElem?_eq_getElem v⟩;refine af1 (ah8 j k hy ?_)
 by_cases q:(y==rawInt L)=true
 rw[afz q];exact agv (h s.heap (.refl m) ⟨⟨Z,vs,d,n,f,p,.inr ⟨T,oT,r,N,R,S,W,j,k,v⟩⟩,lo,fr,a⟩);rw[afy q];refine af1 (aiz j k v ?_);have X:=qB (fs:=Eh (env::aN)) (u:=Obj.mapFields (·.setIfInBounds 3 Value.none)) m S W;have other:∀b,b≠T->(s.heap.update T (Obj.mapFields (·.setIfInBounds 3 Value.none))).get? b=s.heap.get? b:=λb i=>agD _ _ (ahI i)
 have B:(s.heap.update T (Obj.mapFields (·.setIfInBounds 3 Value.none))).FunFrames base (env::aN):=G.of_keeps λb o i F=>⟨o,(other b λq=>by rw[q,j]at i;cases i;exact F r k).trans i,rfl⟩
 exact JE (s:={s with heap:=s.heap.update T (Obj.mapFields (·.setIfInBounds 3 Value.none))}) c B l I X.ok (λb o q=>afQ (a b o q) (ahc (ahw ..).symm)) ((other e (ahI R)).trans d) n f p lo fr
  λh' l2 x2=>h h' (X.trans l2) x2
theorem O9(p:n6 P w H s.heap)(x:LH true g H s.heap e C)(h:∀h',kJ P w fs g H s.heap h'->LH true g H h' e C->Q () {s with heap:=h'}):wpAny M A (setFlight (.ref e) y) Q E s:=by obtain⟨⟨r,t,d,u,f,v,z⟩,lo,fr,a⟩:=id x;rcases z with⟨z,_⟩|⟨T,B,F,i,j,k,l,m,c,n⟩;cases z;unfold setFlight;refine af1 (ah8 d f i ?_);rw[afz (show(Value.ref T !=Value.none)=true from by simp)];refine aiz m c n (h _ (qB p k l) ?_);refine⟨⟨r,t,(agD _ _ j).trans d,u,f,v,.inr ⟨T,_,_,i,j,k,l,ahB _ m (ahC (ahU c _)),ahU c _,by simpa using n⟩⟩,lo,fr,λb o q=>afQ (a b o q) (ahc (ahw ..).symm)⟩
end
def LY(h:env.frame=env'.frame):noteFrame e env=noteFrame e env':=by unfold noteFrame PySem.frameOf;rw[h]
theorem iH.here(x:iH P w H h a o):∃u,h.get? a=some u:=by
 cases o with|lst c=>obtain⟨_,_,_,_,e⟩:=x;exact⟨_,e⟩|tup c=>obtain⟨_,_,_,d,e,_⟩:=x;exact⟨_,e⟩|dK b=>obtain⟨_,_,_,_,o,_,_,e,_⟩:=x;exact⟨_,e⟩|dT b=>obtain⟨_,_,_,_,o,_,_,e,_⟩:=x;exact⟨_,e⟩|set S n=>obtain⟨o,_,_,_,e,_⟩:=x;exact⟨_,e⟩|ins C i g=>obtain⟨_,_,_,e,_⟩:=x;exact⟨_,e⟩|own y=>obtain⟨_,e⟩:=x;exact⟨_,e⟩|xd g=>obtain⟨_,⟨_,_,_,e,_⟩,_⟩:=x;exact⟨_,e⟩|WC lo j=>obtain⟨_,_,_,e⟩:=x;exact⟨_,e⟩|Bb d u=>obtain⟨e,_⟩:=x;exact⟨_,e⟩|WD k=>exact⟨_,show h.get? a=some _ from x⟩|met f y=>exact⟨_,show h.get? a=some _ from x⟩|ext l=>obtain⟨_,⟨_,e⟩,_⟩:=x;exact⟨_,e⟩
theorem n6.gone(x:n6 P w H h)(e:h.get? a=none):H a=none:=by
 cases q:H a with
 |none=>rfl
 |some o=>obtain⟨u,z⟩:=(x a o q).here;rw[e]at z;cases z
theorem Inv.aaO(I:Inv X aC Z H s)(u:Un (Eh X.stack) ch H R s.heap h')(hok:n6 X.prog X.w R h')(hg:AllBare g')(f:∀b∈ch,(b∈X.ex\/X.By.heap.get? b=none)/\b≠X.env.locals/\(∀x c,X.env.cells.lookup x=some c->c≠b)/\∀p∈X.pn++aC,p.1≠b):
  Inv X aC Z R {s with heap:=h',gens:=g',drawn:=d',toks:=t'}:=by
 have keep:∀b o,b≠X.env.locals->b∉X.fs->b∉ch->s.heap.get? b=some o->H b=none->h'.get? b=some o:=λb o F h y e n=>u.keep b o e n (λz=>(afU.mp (I.Gw b z)).elim F h) y
 have slot:∀b o,b≠X.env.locals->b∈X.fs->b∉ch->s.heap.get? b=some o->H b=none->∃E,h'.get? b=some {o with slots:=E}:=λb o _ _ y e n=>u.any e n y
 have A:∀b o,X.By.heap.get? b=some o->b≠X.env.locals:=λb o e=>af4 (afQ (afT e) I.ok.above)
 have j:∀b o,X.By.heap.get? b=some o->b∉X.ex->b∉ch:=λb o e a h=>by rcases(f b h).1 with z|z;exact a z;rw[e]at z;cases z
 have cellK:∀x c,X.env.cells.lookup x=some c->∀v,s.heap.IsCell c v->h'.IsCell c v:=λx c e v G=>by
  obtain⟨o,t,N⟩:=G;have g:c∉ch:=λz=>(f c z).2.2.1 x c e rfl
  by_cases y:c∈X.fs
  obtain⟨E,q⟩:=slot c o (I.cne x c e) y g t (I.l0 x c e);exact⟨_,q,N⟩;exact⟨o,keep c o (I.cne x c e) y g t (I.l0 x c e),N⟩
 refine⟨I.ok,I.os,hg,⟨λb o e n h a=>?_,λb o e n h a=>?_,λb o e n a=>?_,λb o e a=>?_,λb B e=>u.tups b B (I.base.tups b B e),λb o B e=>u.vR b o B (I.base.vR b o B e),λb ps e=>?_⟩,?_,λx c e=>?_,?_,λx c e=>?_,λp S=>?_,hok,I.len⟩;exact keep b o (A b o e) h (j b o e a) (I.base.keep b o e n h a) (I.base.free b o e n a);obtain⟨E,e1⟩:=I.base.slot b o e n h a;obtain⟨P,C⟩:=slot b _ (A b o e) h (j b o e a) e1 (I.base.free b o e n a);exact⟨P,C⟩;obtain⟨Q,e1⟩:=I.base.there b o e a;exact u.free b Q e1 (I.base.free b o e n a) (j b o e a);obtain⟨Q,e1⟩:=I.base.there b o e a;exact u.there b Q e1 (j b o e a);obtain⟨m1,e1⟩:=I.base.wU b ps e;obtain⟨m2,C⟩:=u.wU b _ e1;exact⟨m1++m2,by rw[C,ahS]⟩;obtain⟨m,⟨o,es,ep,t,r⟩,hl⟩:=I.loc;obtain⟨E,F⟩:=u.any t I.free λz=>(f _ z).2.1 rfl
 refine⟨m,⟨_,es,ep,F,r⟩,λi x v e1 C e3=>?_⟩;obtain⟨u,r,l⟩:=hl i x v e1 C e3;refine⟨u,r,?_⟩;rcases l with l|⟨k,c,e,z⟩;exact .inl l;exact .inr ⟨k,c,e,cellK x c e _ z⟩;obtain⟨v,z⟩:=I.cell x c e;exact⟨v,cellK x c e v z⟩;obtain⟨m,⟨o,_,_,t,_⟩,_⟩:=I.loc;exact u.free _ o t I.free (λz=>(f _ z).2.1 rfl);obtain⟨v,o,t,N⟩:=I.cell x c e;exact u.free c o t (I.l0 x c e) (λz=>(f c z).2.2.1 x c e rfl);obtain⟨e,n,T,W,d⟩:=I.pin p S;have g:p.1∉ch:=λz=>(f p.1 z).2.2.2 p S rfl
 exact⟨keep p.1 p.2 T W g e n,u.free p.1 p.2 e n g,T,W,d⟩
structure vv(X:Cx)(g:Heap):Prop where
 s0:∀b o,X.By.heap.get? b=some o->b∉X.ex->∃o',g.get? b=some o'
 loc:∃o,g.get? X.env.locals=some o
 cell:∀x c,X.env.cells.lookup x=some c->∃o,g.get? c=some o
theorem Inv.young(I:Inv X aC f H s):vv X s.heap:=
 ⟨λb o e a=>I.base.there b o e a,by obtain⟨m,⟨o,_,_,d,_⟩,_⟩:=I.loc;exact⟨o,d⟩,λx c e=>by obtain⟨v,o,q,_⟩:=I.cell x c e;exact⟨o,q⟩⟩
theorem vv.chs(y:vv X g)(f:X.pn=[])(a:g.get? b=none):(b∈X.ex\/X.By.heap.get? b=none)/\b≠X.env.locals/\(∀x c,X.env.cells.lookup x=some c->c≠b)/\∀p∈X.pn++([]:List (Addr×Obj)),p.1≠b:=by
 refine⟨?_,λz=>?_,λx c e z=>?_,λp d=>by rw[f]at d;exact nomatch d⟩
 by_cases h:b∈X.ex
 exact .inl h;refine .inr ?_;cases q:X.By.heap.get? b with
 |none=>rfl
 |some o=>obtain⟨i,z⟩:=y.s0 b o q h;rw[a]at z;cases z
 obtain⟨o,q⟩:=y.loc;rw[<-z,a]at q;cases q;obtain⟨o,q⟩:=y.cell x c e;rw[z,a]at q;cases q
theorem Inv.looked(I:Inv X [] a H s)(y:vv X g)(c:X.pn=[])(l:kJ X.prog X.w (Eh X.stack) g H s.heap h'):Inv X [] a H {s with heap:=h'}:=by obtain⟨⟨e,u,k⟩,ok⟩:=l;exact I.aaO (g':=s.gens) (t':=s.toks) (d':=s.drawn) u ok I.bare λb d=>y.chs c (k b d).1
theorem Inv.GU(I:Inv X aC a H s):Inv X [] a H s:=I.Gy λ_ z=>nomatch z
def kB(P:Program)(w:World):QD:=λa H s E v b=>∃(e:Addr)(C:Value)(c:Hp),v=.ref e/\b.os=s.os/\AllBare b.gens/\Un (Eh a) [] H c s.heap b.heap/\n6 P w c b.heap/\LH true s.heap c b.heap e C/\E C none c
def adn(X:Cx)(E:XK):Prop:=∀g(a:St)(H:Hp)s e C t,vv X g->Inv X [] a H s->LH t g H s.heap e C->E C none H->X.xe (.ref e) s
structure Good(X:Cx)(E:XK):Prop where
 xe:adn X E
 calm:X.calm=true
 pn:X.pn=[]
 frame:∃env aN,X.stack=env::aN/\X.env.frame=env.frame/\env.frame≠none
theorem Good.passes(G:Good X E):qz (kB X.prog X.w) X E:=by
 rintro c d H s v s' I ⟨e,C,f,g,a,h,i,j,x,q⟩;subst g;have k:Inv X [] d f s':=I.GU.QS (ch:=[]) a i j h λb z=>nomatch z
 exact G.xe s.heap d f s' e C true I.young k x q
theorem Good.note(G:Good X E)(y:vv X g)(I:Inv X [] j H s)(x:LH t g H s.heap e C)(h:∀h',Inv X [] j H {s with heap:=h'}->LH true g H h' e C->Q () {s with heap:=h'}):wpAny (model X.prog X.w) X.A (noteFrame (.ref e) X.env) Q o s:=by
 obtain⟨env,c,a,d,f⟩:=G.frame;obtain⟨L,k⟩:∃L,env.frame=some L:=by
  cases m:env.frame with|none=>exact absurd m f|some L=>exact⟨L,rfl⟩
 rw[LY d];have fr:=I.ok.frames;have b:=I.stack;have i:=I.Gx;rw[a]at fr b i;exact UY (P:=X.prog) (w:=X.w) fr b k i I.hok x λh' l n=>h _ (I.looked y G.pn (by rw[a];exact l)) n
theorem Inv.flight(a:X.pn=[])(y:vv X g)(I:Inv X [] b H s)(x:LH true g H s.heap e C)(h:∀h',Inv X [] b H {s with heap:=h'}->LH true g H h' e C->Q () {s with heap:=h'}):wpAny (model X.prog X.w) A (setFlight (.ref e) d) Q f s:=
 O9 (P:=X.prog) (w:=X.w) (fs:=Eh X.stack) I.hok x λh' l c=>h _ (I.looked y a l) c
section
variable{P:Program}{w:World}{K:W.Frag}{mg:afs}{base:Heap}{N:List Str}{qual:Str}{scope:Scope}{f:Addr}{cd:Value}{A:Around}{aN:List Env}{s₀:Shared}{H₀:Hp}{E:XK}
theorem aY:Good (mq (kB P w) P w K mg base N qual scope f cd A aN s₀ H₀ E) E where
 xe:=by
  intro g i H s e C t y I x q;have G:Good ((mq (kB P w) P w K mg base N qual scope f cd A aN s₀ H₀ E).cI λ_ _=>True) E:=⟨λ_ _ _ _ _ _ _ _ _ _ _=>trivial,rfl,rfl,⟨_,_,rfl,rfl,by intro z;cases z⟩⟩;show wpAny (model P w) (A.deeper (envOfC qual scope s₀.heap.objs.size f cd)) (leaving (envOfC qual scope s₀.heap.objs.size f cd) (.ref e)) _ _ s;unfold leaving;refine af1 (G.note (X:=(mq (kB P w) P w K mg base N qual scope f cd A aN s₀ H₀ E).cI λ_ _=>True) ⟨y.s0,y.loc,y.cell⟩ (I.cI _) x λj c d=>?_);refine c.flight (X:=(mq (kB P w) P w K mg base N qual scope f cd A aN s₀ H₀ E).cI λ_ _=>True) rfl ⟨y.s0,y.loc,y.cell⟩ d λk a h=>?_
  exact⟨e,C,H,rfl,a.os,a.bare,a.base,a.hok,h.older λb o q=>y.s0 b o q (λz=>nomatch z),q⟩
 calm:=rfl
 pn:=rfl
 frame:=⟨_,_,rfl,rfl,by intro z;cases z⟩
theorem xj:PassesOwn (model P w) (mq (kB P w) P w K mg base N qual scope f cd A aN s₀ H₀ E).A (mq (kB P w) P w K mg base N qual scope f cd A aN s₀ H₀ E).env (mq (kB P w) P w K mg base N qual scope f cd A aN s₀ H₀ E).xe:=PassesOwn.leaving
theorem LX.ZQ{x}{st}{fd}{ps}(F:LX K x qual st f fd)(S:fj N ps (aP st))(len:∀vs H Q E,sp vs H Q E->vs.length=ps.length)(b:∀(a:Value)(A:Around)(aN:List Env)(s:Shared)(H:Hp)(vs:List V)(Q:VK)(E:XK),cG k (A.deeper (envOfC qual (aP st) s.heap.objs.size f a))->sp vs H Q E->
   ∃t,lS (mq (kB P w) P w K mg base N qual (aP st) f a A aN s H E) (gG st) t/\t {nx:=λ_ e=>Q .cK e,rt:=Q} (start N vs) H):eH P w K mg base (kB P w) (k+1) f fd ps sp:=by
 obtain⟨l,m,kV,g,n,an,a,o,h,rfl,i,c⟩:=F.ex;exact aaA i c S len λA aN s H vs Q E j d=>b a A aN s H vs Q E j d
end
structure iu(K:W.Frag)(C:Addr):Prop where
 ex:∃(nm q:Str)(N:Addr)(bs:List Value)(hdct:Bool)(sn:List Str)(sub:List Value)(ab:Bool)(col:Option Bool)(dd:Option Addr)(k0 k1 k2 k3 k5:Option Value)(mN:afs),
  K.lookup C=some (excClassObj nm q C N bs [.type "Exception",.type "BaseException",.type "object"] hdct sn sub ab col dd k0 k1 k2 k3 k5 "Exception.__new__")/\(∀h:Heap,K.In h->h.Ns N mN)/\mN "__init__"=none
def XX(E:XK)(C:Addr):TS:=λ_ _ H=>E (.ref C) none H
theorem Rq(G:Good X E)(c:iu X.K C)(i:Gl X x)(j:X.mg x=some (.ref C))(d:(x==("__debug__":Str))=false:=by decide):
  PS X (.Raise (some (.Call (.Name x v) [] [] f)) none k) (XX E C):=by
 intro g s l H D I h;obtain⟨nm,q,N,bs,hdct,sn,sub,ab,col,dd,k0,k1,k2,k3,k5,w,m,n,p⟩:=c.ex;refine wpAny_Raise_call_sub (nm:=nm) (q:=q) (N:=N) (bs:=bs) (hdct:=hdct) (sn:=sn) (sub:=sub) (ab:=ab) (col:=col) (dd:=dd) (k0:=k0) (k1:=k1) (k2:=k2) (k3:=k3) (k5:=k5) PySem.F.excBase_Exception (I.ok.hd G.calm) rfl p (uM I i j ⟨rfl,?_⟩ d);refine evalArgs_nil3 ⟨rfl,agQ _,I.E1 _ _ m,n _ I.E1,λr e a=>?_⟩;obtain⟨t,u,_,_⟩:=a.there;exact G.xe s.heap l H {s with heap:=r} e (.ref C) false I.young (I.GU.kept (t':=s.toks) a.keeps) ⟨⟨_,_,u,rfl,rfl,(show 1<6 by decide),.inl ⟨rfl,rfl⟩⟩,a.new,I.hok.gone a.new,λb o q=>afT (a.keeps b o q)⟩ h
section
variable{X:Cx}
theorem JF(G:Good X E) (hN:X.N.Nodup) (I:Inv X aC S H s) (hi:PI X tg iter wi) (ok:Az X.N X.env.scope scope ds)(hg:∀(s:Shared)(H:Hp)(C:Addr)(cl:List (Str×Addr))(f:List Addr)(xe:afr),Good ((X.lD s H scope (compEnvC scope cl C X.env) f).cI xe) E->PG ((X.lD s H scope (compEnvC scope cl C X.env) f).cI xe) tg g) (ht:∀(s:Shared)(H:Hp)(C:Addr)(cl:List (Str×Addr))(f:List Addr)(xe:afr),Good ((X.lD s H scope (compEnvC scope cl C X.env) f).cI xe) E->QE ((X.lD s H scope (compEnvC scope cl C X.env) f).cI xe) ns tt)(he:∀(s:Shared)(H:Hp)(C:Addr)(cl:List (Str×Addr))(f:List Addr)(xe:afr),Good ((X.lD s H scope (compEnvC scope cl C X.env) f).cI xe) E->PE ((X.lD s H scope (compEnvC scope cl C X.env) f).cI xe) hj te) (hs:∀x,foldedSetIterable iter X.env x=pure x)(h:ZP wi g tt te (ds.map (·.2)) S H Q)(hq:∀D C s' m l,Inv X aC S l s'->Q (.ref D) l->s'.heap.Ns C m->Bc X aC l C->compPost (model X.prog X.w) X.A X.xe use Qf (.ref D) C (.ok .next) s'):
  wpAny (model X.prog X.w) X.A (comprehension (.ListComp hj [⟨tg,iter,ns,0⟩] scope us) scope X.env pos' (newList []) false (eval iter X.env) use) Qf X.xe s:=by
 have hfree:∀y∈scope.names,y.2=.free->∃c,X.env.cells.lookup y.1=some c:=λy hy e=>by rcases ok.free y hy e with k|k;exact I.ok.has _ (.inl k);exact I.ok.has _ (.inr k)
 refine wpAny_comprehension_free (use:=use) rfl hs (LW hfree) ok.kind (λy hy e=>by rw[ok.uniq y hy,e])
  (fP (hi aC s S H _ I h) λxv s1 hx=>fP hx λex s2 h2=>?_)
 obtain⟨it,f,tn,Jq,H2,e,I2,T,fd,f2,q⟩:=h2;subst e;refine wpAny_newObj_type (Jx ?_) (by show 0<=sizeLine;decide);generalize hD:s2.heap.objs.size=D;have ow:H2 D=none:=I2.hok.fresh (ahc hD);obtain⟨W,⟨m0,w0⟩,turn⟩:=q D ow;generalize h':({s2 with heap:=s2.heap.push {cls:=.type "list",data:=.seq ([]:List Value).toArray}}:Shared)=a;have I3:Inv X aC S (fD H2 D (.lst [])) a:=by rw[<-h'];refine I2.laid (t':=s2.toks) (λb o e=>afP _ e) (ahc hD) ⟨agQ _,[],0,.nil,?_⟩;rw[<-hD];exact af8 _ rfl
 have h3:a.heap=s2.heap.push {cls:=.type "list",data:=.seq ([]:List Value).toArray}:=by rw[<-h']
 have sz:∀b∈f,b<s2.heap.objs.size:=λb d=>by obtain⟨o,e,_⟩:=T.obj _ _ fd b d;exact afT e
 have P:∀b∈f,Bc X aC (fD H2 D (.lst [])) b/\b<a.heap.objs.size:=λb d=>by have cd:=sz b d;refine⟨⟨?_,(f2 b d).2⟩,by rw[h3,ags];exact agw cd⟩;rw[aK (by rw[<-hD];exact af4 cd)];exact(f2 b d).1
 have dx:tn 0 a.heap:=T.keep _ _ _ fd λb _ o e=>by rw[h3];exact afP _ e
 have I4:=Jy I3 ok hN P;have pg:=hg a (fD H2 D (.lst [])) a.heap.objs.size (cellsFrom (a.heap.objs.size+1) scope.names (dR X.env.cells scope.names [])) f;have pt:=ht a (fD H2 D (.lst [])) a.heap.objs.size (cellsFrom (a.heap.objs.size+1) scope.names (dR X.env.cells scope.names [])) f;have pe:=he a (fD H2 D (.lst [])) a.heap.objs.size (cellsFrom (a.heap.objs.size+1) scope.names (dR X.env.cells scope.names [])) f;show codeAny _ _ (.compStart (.ListComp hj [⟨tg,iter,ns,0⟩] scope us) 0 (.ref it) (.ref D) (compEnvC scope (cellsFrom (a.heap.objs.size+1) scope.names (dR X.env.cells scope.names [])) a.heap.objs.size X.env)) (compPost (model X.prog X.w) X.A X.xe use Qf (.ref D) a.heap.objs.size) {a with heap:=pushCells (a.heap.push {cls:=.type "dict",data:=.dict #[]}) scope.names};have ws:∀b∈f,(fD H2 D (.lst [])) b=none:=λb d=>(P b d).1.1
 generalize o1:compEnvC scope (cellsFrom (a.heap.objs.size+1) scope.names (dR X.env.cells scope.names [])) a.heap.objs.size X.env=B at I4 pg pt pe|-;have cL:B.locals=a.heap.objs.size:=by subst o1;rfl
 generalize k2:fD H2 D (.lst [])=R at I3 I4 pg pt pe w0 ws P;generalize ih:({a with heap:=pushCells (a.heap.push {cls:=.type "dict",data:=.dict #[]}) scope.names}:Shared)=s4 at I4|-;have tl:tn 0 s4.heap:=T.keep _ _ _ dx λb _ o e=>by rw[<-ih];exact ahM _ _ _ _ (afP _ e)
 obtain⟨xe,hd⟩:∃xe,xe=notedBy (model X.prog X.w) X.A B (λe s'=>compPost (model X.prog X.w) X.A X.xe use Qf (.ref D) a.heap.objs.size (.error e) s'):=⟨_,rfl⟩;have hv:B.frame=X.env.frame:=by subst o1;rfl
 have hz:∃env F,X.stack=env::F/\B.frame=env.frame/\env.frame≠none:=by obtain⟨env,F,e1,e2,e3⟩:=G.frame;exact⟨env,F,e1,hv.trans e2,e3⟩
 have GB:Good ((X.lD a R scope B f).cI xe) E:=by
  refine⟨?_,G.calm,rfl,hz⟩;intro gh ha l s' e C t y I' x q;have GT:Good ((X.lD a R scope B f).cI λ_ _=>True) E:=⟨λ_ _ _ _ _ _ _ _ _ _ _=>trivial,G.calm,rfl,hz⟩;show xe (.ref e) s';rw[hd];show wpAny (model X.prog X.w) X.A (noteFrame (.ref e) B) _ _ s';refine GT.note (X:=(X.lD a R scope B f).cI λ_ _=>True) ⟨y.s0,y.loc,y.cell⟩ (I'.sD.cI _) x λh1 I1 x1=>?_
  obtain⟨m,Z,_⟩:=I1.loc;have Z:h1.Ns B.locals m:=Z;rw[cL]at Z;refine⟨m,Z,λh2 sb h0 _=>?_⟩;have I7:Inv X [] S l {s' with heap:=h1}:=I3.GU.QS (s':={s' with heap:=h1}) (ch:=f) I1.os I1.base I1.hok I1.bare λb d=>⟨(P b d).1.2.2.2.1,(P b d).1.2.1,(P b d).1.2.2.2.2.1,λp hp=>(P b d).1.2.2.2.2.2 p (ahh _ (by rw[agh]at hp;exact hp))⟩
  have nC:l a.heap.objs.size=none:=by have z:l B.locals=none:=I1.free;rw[cL]at z;exact z
  obtain⟨f0,f1,fe,g1,f4,f5⟩:=I3.GU.OU (afI _) nC;have I8:Inv X [] S l {s' with heap:=h2}:=I7.turned (t':=s'.toks) (λb o d e=>(sb.2 b d).trans e) f0 f1 g1 f4 f5;have gC:∃o,gh.get? a.heap.objs.size=some o:=by have z:=y.loc;rw[show((X.lD a R scope B f).cI xe).env.locals=a.heap.objs.size from cL]at z;exact z
  have yX:vv X gh:=by
   refine⟨λb o e hx=>?_,?_,λz c e=>?_⟩;obtain⟨o',e'⟩:=I3.base.there b o e hx;refine y.s0 b o' e' λd=>?_
   rcases(P b d).1.2.2.2.1 with z|z;exact hx z;exact absurd (afQ (afT e) z) (agp _);obtain⟨mX,⟨o,_,_,ho,_⟩,_⟩:=I3.loc;exact y.s0 _ o ho λd=>(P _ d).1.2.1 rfl
   obtain⟨v,o,ho,_⟩:=I3.cell z c e;exact y.s0 c o ho λd=>(P _ d).1.2.2.2.2.1 z c e rfl
  have x2:LH true gh l h2 e C:=by
   obtain⟨⟨oe,vs,mg,sh,hk,r1,z1⟩,es,rs,ps⟩:=x1;have nb:∀b,gh.get? b=none->b≠a.heap.objs.size:=λb d r=>by obtain⟨o,z⟩:=gC;rw[r,z]at d;cases d
   refine⟨⟨oe,vs,(sb.2 e (nb e es)).trans mg,sh,hk,r1,?_⟩,es,rs,λb o d=>?_⟩;rcases z1 with z1|⟨T1,oT,ts,a1,a2,a3,a4,a5,a6⟩;exact .inl z1;exact .inr ⟨T1,oT,ts,a1,a2,a3,a4,(sb.2 T1 (nb T1 a3)).trans a5,a6⟩;have z:=ps b o d;rw[sb.1];exact z
  unfold PySem.passOn;obtain⟨⟨oe,vs,mg,sh,hk,r1,z1⟩,es,rs,ps⟩:=id x2;rcases z1 with⟨z1,_⟩|⟨T1,oT,ts,a1,_⟩;cases z1;refine af1 (ah8 mg hk a1 ?_);rw[afy (show¬((Value.ref T1==Value.none)=true)from by simp)];exact af1 (I8.flight G.pn yX x2 λh4 I9 x9=>wpAny_throw (G.xe gh S l {s' with heap:=h4} e C true yX I9 x9 q))
 have stat:∀{ha:St}{l:Hp}{s':Shared},Inv ((X.lD a R scope B f).cI xe) [] ha l s'->(∀b∈f,l b=none)->∀b∈f,Bc ((X.lD a R scope B f).cI xe) [] l b:=λ{ha l s'}I' Z b d=>
  ⟨Z b d,(I'.ok.exf b d).1,I'.ok.OR b d,.inl d,λx c e=>(I'.ok.exf b d).2 x c e,λp hp=>absurd (show p∈([]:List (Addr×Obj))++[]from hp) (by simp)⟩
 have pg:=pg xe GB;have pt:=pt xe GB;have pe:=pe xe GB;have loop:codeAny (model X.prog X.w) X.A (.compLoop (.ListComp hj [⟨tg,iter,ns,0⟩] scope us) 0 (.ref it) (.ref D) B) (compPost (model X.prog X.w) X.A X.xe use Qf (.ref D) a.heap.objs.size) s4:=by
  refine GO (λn s'=>∃i l,Inv ((X.lD a R scope B f).cI xe) [] (ig S (ds.map (·.2))) l s'/\tn i s'.heap/\(∀b∈f,l b=none)/\W i n l) ?_ m0 ⟨0,R,I4.cI xe,tl,ws,w0⟩;have o2:(notedBy (model X.prog X.w) X.A B λe s'=>compPost (model X.prog X.w) X.A X.xe use Qf (.ref D) a.heap.objs.size (.error e) s')=xe:=hd.symm;rw[o2];rintro n s5 ⟨i,H5,I5,op,n5,w5⟩;rcases turn i n H5 w5 with⟨stop,qq⟩|⟨go,Nx,k1,step⟩;have td:=T.done ((X.lD a R scope B f).cI xe) rfl rfl rfl G.calm i [] s5 _ H5 xe I5 (stat I5 n5) op stop;refine fP td λr s6 hP=>?_
  obtain⟨hr,I6⟩:=hP;subst hr;have I7:Inv X aC S H5 s6:=I3.QS (ch:=f) I6.os I6.base I6.hok I6.bare λb d=>⟨(P b d).1.2.2.2.1,(P b d).1.2.1,(P b d).1.2.2.2.2.1,(P b d).1.2.2.2.2.2⟩
  have nC:H5 a.heap.objs.size=none:=by have z:H5 B.locals=none:=I6.free;rw[cL]at z;exact z
  obtain⟨m,Z,_⟩:=I6.loc;have Z:s6.heap.Ns B.locals m:=Z;rw[cL]at Z;exact hq D a.heap.objs.size s6 m H5 I7 qq Z (I3.OU (afI _) nC);have ti:=T.item ((X.lD a R scope B f).cI xe) rfl rfl rfl G.calm i [] s5 _ H5 xe I5 (stat I5 n5) op go;refine fP ti λr s6 gr=>?_
  obtain⟨u,hr,h6⟩:=gr;subst hr;refine fP h6 λ_ s7 bl=>?_
  obtain⟨x,H7,I7,r7,y7,fs,n7⟩:=bl;have hu:=I7.pinned (stat I7 n7) (T.obj _ _ fs);refine fP (pg _ s7 _ H7 x u _ hu r7 (step x H7 y7)) λ_ s8 ys=>?_
  obtain⟨xs,H8,I8,mp,q8⟩:=ys;refine fP (pt _ s8 xs H8 _ I8 q8) λb s9 r2=>?_
  obtain⟨H9,I9,q9⟩:=r2;have q1:∀{s':Shared}{l:Hp},Inv ((X.lD a R scope B f).cI xe) ([]++B3 f s7.heap) xs l s'->Nx l->∃m,m<n/\∃i l,Inv ((X.lD a R scope B f).cI xe) [] (ig S (ds.map (·.2))) l s'/\tn i s'.heap/\(∀b∈f,l b=none)/\W i m l:=λ{s' l}I' nx=>by
   obtain⟨m',hm,w'⟩:=k1 l nx;have hc:∀b∈f,∀o,s7.heap.get? b=some o->s'.heap.get? b=some o/\l b=none:=λb d o e=>
    let z:=I'.pin (b,o) (agl _ (agl _ (vV d e)))
    ⟨z.1,z.2.1⟩
   have hl:(ig S (ds.map (·.2))).length=xs.length:=by rw[<-mp,b5]
   refine⟨m',hm,i+1,l,(I'.wX (aC:=[])).weak hl (λj v e=>?_),T.keep _ _ _ fs λb d o e=>(hc b d o e).1,λb d=>?_,w'⟩;rw[<-mp]at e;exact(zf e).1;obtain⟨o,e,_⟩:=T.obj _ _ fs b d;exact(hc b d o e).2
  cases b with
  |false=>simp only[Bool.false_eq_true,if_false]at q9|-;exact q1 I9 q9
  |true=>
   simp only[if_true]at q9|-;refine fP (pe _ s9 xs H9 _ I9 q9) λz z2 fn=>?_
   obtain⟨yv,ta,fa,r',ob,hf,q2,nx⟩:=fn;exact XR (X:=(X.lD a R scope B f).cI xe) fa hf q2 r' λfb rx=>q1 rx nx
 exact codeAny_compStart_list loop (T.self X.A 0 _ _ _ tl loop)
theorem XY(G:Good X E)(l:X.N.Nodup)(n:PI X j iter p)(r:Az X.N X.env.scope scope c)(t:∀(s:Shared)(H:Hp)(C:Addr)(cl:List (Str×Addr))(a:List Addr)(xe:afr),Good ((X.lD s H scope (compEnvC scope cl C X.env) a).cI xe) E->PG ((X.lD s H scope (compEnvC scope cl C X.env) a).cI xe) j g) (u:∀(s:Shared)(H:Hp)(C:Addr)(cl:List (Str×Addr))(a:List Addr)(xe:afr),Good ((X.lD s H scope (compEnvC scope cl C X.env) a).cI xe) E->QE ((X.lD s H scope (compEnvC scope cl C X.env) a).cI xe) d v)(he:∀(s:Shared)(H:Hp)(C:Addr)(cl:List (Str×Addr))(a:List Addr)(xe:afr),Good ((X.lD s H scope (compEnvC scope cl C X.env) a).cI xe) E->PE ((X.lD s H scope (compEnvC scope cl C X.env) a).cI xe) i w) (hs:∀x,foldedSetIterable iter X.env x=pure x:=by intro _;rfl):
  PE X (.ListComp i [⟨j,iter,d,0⟩] scope y) (ZP p g v w (c.map (·.2))):=by
 intro k s σ H Q I h;rw[eval_ListComp];refine JF G l I n r t u he hs h λD C z m A B q F f=>⟨m,F,λP R=>?_⟩
 obtain⟨S,T,f2,W,Z,f5⟩:=f;exact⟨.ref D,A,B.turned (t':=z.toks) (λb o hb e=>(R.2 b hb).trans e) S T W Z f5,rfl,q⟩
theorem Fg(G:Good X E)(P:X.N.Nodup)(hy:X.N[i]?=some y)(l:X.env.scope.names.lookup y=some .local)(t:swapsWith (.ListComp j [⟨n,iter,c,0⟩] scope k) (some (.Name y u)) spos.line X.env=pure true) (hi:PI X n iter Q) (ok:Az X.N X.env.scope scope p)(hg:∀(s:Shared)(H:Hp)(C:Addr)(cl:List (Str×Addr))(d:List Addr)(xe:afr),Good ((X.lD s H scope (compEnvC scope cl C X.env) d).cI xe) E->PG ((X.lD s H scope (compEnvC scope cl C X.env) d).cI xe) n g) (ht:∀(s:Shared)(H:Hp)(C:Addr)(cl:List (Str×Addr))(d:List Addr)(xe:afr),Good ((X.lD s H scope (compEnvC scope cl C X.env) d).cI xe) E->QE ((X.lD s H scope (compEnvC scope cl C X.env) d).cI xe) c R)(he:∀(s:Shared)(H:Hp)(C:Addr)(cl:List (Str×Addr))(d:List Addr)(xe:afr),Good ((X.lD s H scope (compEnvC scope cl C X.env) d).cI xe) E->PE ((X.lD s H scope (compEnvC scope cl C X.env) d).cI xe) j S) (hs:∀x,foldedSetIterable iter X.env x=pure x:=by intro _;rfl):
  PS X (.Assign [.Name y u] (.ListComp j [⟨n,iter,c,0⟩] scope k) spos) (OT (ZP Q g R S (p.map (·.2))) (vt i)):=by
 intro r s T H D I h;rw[exec_Assign_Name_used _ _ _ _ t];refine af1 (aiD (af1 ?_));show wpAny _ X.A (do let _<-comprehension (.ListComp j [⟨n,iter,c,0⟩] scope k) scope X.env (firstIterPos [⟨n,iter,c,0⟩] k) (newList []) false (eval iter X.env) (some (assign (.Name y u) X.env))) _ _ s;have h:ZP Q g R S (p.map (·.2)) T H (λx H1=>vt i x T H1 D.nx):=h;refine af1 (fP (JF (Qf:=λ_ w=>SP X r D .next w) G P I hi ok hg ht he hs h λL C w m H' I' q hn f=>?_) λ_ w hq=>agv (agv hq));show wpAny _ _ (assign (.Name y u) X.env (.ref L)) _ _ _;refine wpAny_assign_Name (E2 (v:=V.ref L) I' P hy (.inl l) rfl (λs2 I2⟨a,sb,ha⟩=>?_) (.inr l));obtain⟨f0,W,f2,f3,Z,f5⟩:=f;have B:C≠a:=by
  rcases ha with z|z;rw[z];exact W
  exactλe=>Z y a z e.symm
 refine⟨m,hn.sameBut sb B,λh3 F=>?_⟩;exact⟨_,H',I2.turned (t':=s2.toks) (λb o hb e=>(F.2 b hb).trans e) f0 W f3 Z f5,q⟩
end
def PS0(X:Cx)(st:List Stmt)(t:TS):Prop:=
 ∀s a H D,Inv X [] a H s->t D a H->wpAny (model X.prog X.w) X.A (execs st X.env) (SP X [] D) X.xe s
theorem XZ{CX:QD}{P}{w}{K}{mg}{base}{k:Nat}{f}{name a:Str}{params}{body:List Stmt}{scope}{R kV l T c ct oc}{an od}{z} {N ps} {sp:Sp} (lk:K.lookup f=some ⟨oc,od,.func (W.fnOf name a params body scope R kV l T an c ct),z⟩) (B:W.codeIn K c a=true) (S:fj N ps scope)(len:∀vs H Q E,sp vs H Q E->vs.length=ps.length)(i:∀(A:Around)(aN:List Env)(s:Shared)(H:Hp)(vs:List V)(Q:VK)(E:XK),cG k (A.deeper (envOfC a scope s.heap.objs.size f c))->sp vs H Q E->
   ∃t,PS0 (mq CX P w K mg base N a scope f c A aN s H E) body t/\t {nx:=λ_ g=>Q .cK g,rt:=Q} (start N vs) H):
  eH P w K mg base CX (k+1) f (W.fnOf name a params body scope R kV l T an c ct) ps sp:=by
 refine⟨len,λA aN s H args us vs Q E C e0 hb r m=>?_⟩;have hl:=len _ _ _ _ m;have X:K.In s.heap:=e0.mod.Xd.keeps λb o e=>(e0.bs b o e).1
 have F:s.heap.NoLimit:=e0.mod.nolimit.keeps λb o e=>(e0.bs b o e).1
 have hkind:∀y∈ps.zip us,scope.names.lookup y.1=some .local\/(scope.names.lookup y.1=some .cell/\((cellsFrom (s.heap.objs.size+1) scope.names []).lookup y.1).isSome=true):=λ⟨n,v⟩hy=>by rcases S.par n (ahK hy).1 with q|q;exact .inl q;exact .inr ⟨q,aib _ _ _ (.inl q)⟩
 refine codeAny_call_function C.depth (X _ _ lk) rfl S.co S.gen rfl (W.codeRec_of X B) (hb _ _ _ _ ?_);refine ahR S.kind hkind λds he Z x=>?_
 subst he;refine⟨F.keeps x.toInCall.keep,codeAny_func ?_⟩;obtain⟨t,ht,hq⟩:=i A aN s H vs Q E (C.deeper _) m;have I:Inv (mq CX P w K mg base N a scope f c A aN s H E) [] (start N vs) H Z:=E8 S C.hd e0 hl r x;refine ahf (ht Z (start N vs) H _ I hq) (λfl s' j=>?_) λe s' j=>j
 have p:∀{d:St}{g:Hp}{v:V}{u:Value},Inv (mq CX P w K mg base N a scope f c A aN s H E) [] d g s'->RelV v u->Q v g->CE aN P w H s Q u s':=
  λ{d g v u}h G q=>⟨v,g,h.os,h.bare,h.base,h.hok,G,q⟩
 cases fl with|ret u=>obtain⟨v,d,g,h,G,q⟩:=j;exact p h G q|next=>obtain⟨d,g,h,q⟩:=j;exact p (v:=V.cK) (u:=Value.none) h rfl q|brk=>obtain⟨_,_,_,q⟩:=j;exact False.elim q|cont=>obtain⟨_,_,_,q⟩:=j;exact False.elim q
theorem LX.adp{P:Program}{w}{K}{mg}{base}{N}{a}{f}{x}{st}{fd}{ps}{k}{sp:Sp}(F:LX K x a st f fd)(S:fj N ps (aP st))(len:∀vs H Q E,sp vs H Q E->vs.length=ps.length)(c:∀(b:Value)(A:Around)(aN:List Env)(s:Shared)(H:Hp)(vs:List V)(Q:VK)(E:XK),cG k (A.deeper (envOfC a (aP st) s.heap.objs.size f b))->sp vs H Q E->
   ∃t,PS0 (mq (kB P w) P w K mg base N a (aP st) f b A aN s H E) (gG st) t/\t {nx:=λ_ g=>Q .cK g,rt:=Q} (start N vs) H):eH P w K mg base (kB P w) (k+1) f fd ps sp:=by
 obtain⟨m,n,kV,h,o,an,b,p,i,rfl,j,d⟩:=F.ex;exact XZ j d S len λA aN s H vs Q E l e=>c b A aN s H vs Q E l e
end L2
noncomputable section
namespace DL
open PySem PySem.Spec PyProof.Rows L2
abbrev St:=L2.St
inductive D where
 |cK|bl (b:Bool)|int (i:Int)|fn (a:Addr)
 |tup (ds:List D)|lst (ds:List D)|arr (ds:List D)|obj (C:Addr) (xs:List Str) (ds:List D)
def Ub(K:W.Frag)(H:Hp)(a:Addr)(xs:List V):Prop:=
 (∃o,H a=some (.Bb o (.lst xs)))\/∃(o:Obj)(b:Array Value)(n:Nat),K.lookup a=some o/\o.cls=.type "list"/\o.dict=none/\o.data=.seq b n/\b.size<=sizeLine/\bL xs b.toList
theorem Ub.mono{K}(e:bu H b)(h:Ub K H a xs):Ub K b a xs:=by rcases h with⟨o,h⟩|h;exact .inl ⟨o,e _ _ h⟩;exact .inr h
theorem Ub.sq{K}(h:Ub K H a xs):jl K H a xs:=by rcases h with⟨o,h⟩|h;exact .inl (.inr ⟨o,h⟩);exact .inr h
mutual
def eW(K:W.Frag)(H:Hp):D->V->Prop| .cK,v=>v=.cK| .bl b,v=>v=.bl b| .int i,v=>v=.int i| .fn a,v=>v=.ref a| .tup ds,v=>∃a vs,v=.ref a/\H a=some (.tup vs)/\aR K H ds vs| .lst ds,v=>∃a vs,v=.ref a/\H a=some (.lst vs)/\aR K H ds vs| .arr ds,v=>∃a vs,v=.ref a/\Ub K H a vs/\aR K H ds vs| .obj C xs ds,v=>∃a c vs,v=.ref a/\H a=some (.ins C c (xs.zip vs))/\xs.length=vs.length/\aR K H ds vs
def aR(K:W.Frag)(H:Hp):List D->List V->Prop|[],vs=>vs=[]|d::ds,vs=>∃v r,vs=v::r/\eW K H d v/\aR K H ds r
end
mutual
theorem eW.mono{K}(e:bu H g):∀{d:D}{v:V},eW K H d v->eW K g d v| .cK,_,h=>h| .bl _,_,h=>h| .int _,_,h=>h| .fn _,_,h=>h| .tup ds,v,⟨a,vs,b,c,f⟩=>⟨a,vs,b,e _ _ c,aR.mono e f⟩| .lst ds,v,⟨a,vs,b,c,f⟩=>⟨a,vs,b,e _ _ c,aR.mono e f⟩| .arr ds,v,⟨a,vs,b,c,f⟩=>⟨a,vs,b,c.mono e,aR.mono e f⟩| .obj C xs ds,v,⟨a,i,vs,b,c,f,j⟩=>⟨a,i,vs,b,e _ _ c,f,aR.mono e j⟩
theorem aR.mono{K}(e:bu H g):∀{ds:List D}{vs:List V},aR K H ds vs->aR K g ds vs|[],_,h=>h|_::_,_,⟨v,r,b,c,f⟩=>⟨v,r,b,eW.mono e c,aR.mono e f⟩
end
theorem aR.length{K}:∀{ds:List D}{vs:List V},aR K H ds vs->ds.length=vs.length
 |[],_,h=>by cases h;rfl
 |_::_,_,⟨v,r,a,_,b⟩=>by subst a;simp[aR.length b]
theorem aR.get{K}:∀{ds:List D}{vs:List V}{i:Nat}{d:D},aR K H ds vs->ds[i]?=some d->∃v,vs[i]?=some v/\eW K H d v|[],_,_,_,_,e=>by simp at e|d::ds,_,0,_,⟨v,r,a,b,_⟩,e=>by subst a;simp at e;subst e;exact⟨v,rfl,b⟩|d::ds,_,i+1,c,⟨v,r,a,_,f⟩,e=>by subst a;obtain⟨u,e1,g⟩:=aR.get (i:=i) (d:=c) f (by simpa using e);exact⟨u,by simpa using e1,g⟩
theorem aR.append{K}:∀{ds b:List D}{vs us:List V},aR K H ds vs->aR K H b us->aR K H (ds++b) (vs++us)
 |[],_,_,_,h,a=>by cases h;exact a
 |_::_,_,_,_,⟨v,r,c,d,e⟩,a=>by subst c;exact⟨v,_,rfl,d,aR.append e a⟩
theorem aR.one{K}(h:eW K H d v):aR K H [d] [v]:=⟨v,[],rfl,h,rfl⟩
theorem aR.take{K}:∀{ds:List D}{vs:List V}(n:Nat),aR K H ds vs->aR K H (ds.take n) (vs.take n)
 |_,_,0,_=>rfl
 |[],_,n+1,h=>by cases h;rfl
 |_::_,_,n+1,⟨v,r,a,b,c⟩=>by subst a;exact⟨v,_,rfl,b,aR.take n c⟩
theorem aR.drop{K}:∀{ds:List D}{vs:List V}(n:Nat),aR K H ds vs->aR K H (ds.drop n) (vs.drop n)
 |_,_,0,h=>h
 |[],_,n+1,h=>by cases h;rfl
 |_::_,_,n+1,⟨v,r,a,_,b⟩=>by subst a;exact aR.drop n b
theorem aR.set{K}(c:eW K H d v):∀{ds:List D}{vs:List V}(n:Nat),aR K H ds vs->aR K H (ds.set n d) (vs.set n v)
 |[],_,n,h=>by cases h;rfl
 |_::_,_,0,⟨u,r,a,e,b⟩=>by subst a;exact⟨v,_,rfl,c,b⟩
 |_::_,_,n+1,⟨u,r,a,e,b⟩=>by subst a;exact⟨u,_,rfl,e,aR.set c n b⟩
theorem aR.ints{K}:∀{ns:List Int}{vs:List V},aR K H (ns.map D.int) vs->vs=ns.map V.int|[],_,h=>h|n::ns,_,⟨v,r,a,b,c⟩=>by have e:v=.int n:=b;subst a e;rw[aR.ints c];rfl
structure bx(H F H' F':Hp):Prop where
 same:bu H H'
 aM:bu F F'
 sub:bu F' H'
 new:∀b,F' b≠none->F b≠none\/H b=none
theorem bx.refl(h:bu F H):bx H F H F:=⟨.refl _,.refl _,h,λ_ z=>.inl z⟩
theorem bx.trans(a:bx H F d F1)(b:bx d F1 e F2):bx H F e F2 where
 same:=a.same.trans b.same
 aM:=a.aM.trans b.aM
 sub:=b.sub
 new:=λc z=>by rcases b.new c z with q|q;exact a.new c q;exact .inr (a.same.free q)
theorem bx.laid(h:bu F H)(a:H p=none):bx H F (fD H p o) (fD F p o)where
 same:=λb u e=>by rw[aK (bI e a)];exact e
 aM:=λb u e=>by rw[aK (bI (h b u e) a)];exact e
 sub:=λb u e=>by
  by_cases q:b=p
  subst q;rw[bh]at e|-;exact e;rw[aK q]at e|-;exact h b u e
 new:=λb z=>by
  by_cases q:b=p
  subst q;exact .inr a;rw[aK q]at z;exact .inl z
theorem bx.JG(h:bu F H)(a:H p=none):bx H F (fD H p o) F where
 same:=λb u e=>by rw[aK (bI e a)];exact e
 aM:=.refl _
 sub:=λb u e=>by rw[aK (bI (h b u e) a)];exact h b u e
 new:=λb z=>.inl z
inductive L where
 |J (d:D)|ow (ds:List D)|ce (C:Addr) (xs:List Str) (ds:List D)
def L.own:L->Bool| .J _=>false| .ow _=>true| .ce _ _ _=>true
abbrev ak:=List (Option L)
abbrev M:=Except (Option Addr)
noncomputable def ao:M a:=.error none
def raises(c:Addr):M a:=.error (some c)
def iI(K:W.Frag)(H F:Hp)(a:Addr):L->Prop| .J _=>False| .ow c=>∃b,H a=some (.lst b)/\aR K F c b| .ce C d c=>∃e b,H a=some (.ins C e (d.zip b))/\d.length=b.length/\aR K F c b
theorem iI.mono{K}(h:iI K H F a x)(e:i a=H a)(f:bu F j):iI K i j a x:=by
 cases x with|J d=>exact h|ow k=>obtain⟨b,c,g⟩:=h;exact⟨b,by rw[e];exact c,g.mono f⟩|ce C n k=>obtain⟨l,b,c,g,m⟩:=h;exact⟨l,b,by rw[e];exact c,g,m.mono f⟩
theorem iI.some{K}(h:iI K H F a x):∃o,H a=Option.some o:=by
 cases x with|J d=>exact h.elim|ow c=>obtain⟨e,b,f⟩:=h;exact⟨_,b⟩|ce C g c=>obtain⟨i,e,b,f,j⟩:=h;exact⟨_,b⟩
theorem iI.own{K}(h:iI K H F a x):x.own=true:=by
 cases x with|J d=>exact h.elim|ow b=>rfl|ce C c b=>rfl
structure su where
 F:Hp
 v:Option V
structure SR(K:W.Frag)(H0:Hp)(F0:su)(ρ:ak)(σ:St)(H F:Hp):Prop where
 gr:bx H0 F0.F H F
 pin:∀v,F0.v=some v->σ[0]?=some (some v)
 len:ρ.length=σ.length
 J:∀(i:Nat)(d:D),ρ[i]?=some (~~~d)->∃v,σ[i]?=some (some v)/\eW K F d v
 mine:∀(i:Nat)(x:L),ρ[i]?=some (some x)->x.own=true->∃a,σ[i]?=some (some (.ref a))/\F a=none/\H0 a=none/\iI K H F a x
 ne:∀(i j:Nat)(x y:L)(a:Addr),i≠j->ρ[i]?=some (some x)->x.own=true->ρ[j]?=some (some y)->y.own=true->σ[i]?=some (some (.ref a))->σ[j]?=some (some (.ref a))->False
theorem SR.ow{K}(S:SR K b k ρ c H F)(i:Nat)(ds:List D)(e:ρ[i]?=some (some (.ow ds))):∃a vs,c[i]?=some (some (.ref a))/\H a=some (.lst vs)/\F a=none/\b a=none/\aR K F ds vs:=by obtain⟨a,d,f,g,vs,h,j⟩:=S.mine i _ e rfl;exact⟨a,vs,d,h,f,g,j⟩
theorem bx.jN(g:bx H F e b)(c:F a=none)(d:H a≠none):b a=none:=by
 cases q:b a with
 |none=>rfl
 |some o=>rcases g.new a (by rw[q];simp)with z|z;exact absurd c z;exact absurd z d
theorem SR.grow{K}(S:SR K h j ρ k H F)(g:bx H F l m):SR K h j ρ k l m where
 gr:=S.gr.trans g
 pin:=S.pin
 len:=S.len
 J:=λi d e=>by obtain⟨v,c,b⟩:=S.J i d e;exact⟨v,c,b.mono g.aM⟩
 mine:=λi x e n=>by obtain⟨a,c,p,q,f⟩:=S.mine i x e n;obtain⟨o,b⟩:=f.some;exact⟨a,c,g.jN p (by rw[b];simp),q,f.mono ((g.same _ _ b).trans b.symm) g.aM⟩
 ne:=S.ne
def Out(K:W.Frag)(E:XK)(H F:Hp)(m:M D)(Q:VK):Prop:=match m with| .ok d=>∀v a b,bx H F a b->eW K b d v->Q v a| .error (some c)=>∀a,bu H a->E (.ref c) none a| .error none=>False
theorem Out.grow{K:W.Frag}(o:Out K E H F m Q)(g:bx H F b e):Out K E b e m Q:=by
 match m,o with| .ok d,o=>exactλv a f h r=>o v a f (g.trans h) r| .error (some c),o=>exactλa s=>o a (g.same.trans s)| .error none,o=>exact o
def tD(K:W.Frag)(E:XK)(f:ak->M D):TE:=λb H Q=>∃(c:Hp)(d:su)(a:ak)(F:Hp),SR K c d a b H F/\Out K E H F (f a) Q
def X0(E:XK)(H F:Hp)(m:M Bool)(Q:Bool->Hp->Prop):Prop:=match m with| .ok b=>∀a d,bx H F a d->Q b a| .error (some c)=>∀a,bu H a->E (.ref c) none a| .error none=>False
def mU(K:W.Frag)(E:XK)(f:ak->M Bool):TT:=λb H Q=>∃(c:Hp)(d:su)(a:ak)(F:Hp),SR K c d a b H F/\X0 E H F (f a) Q
def aaP(K:W.Frag)(E:XK)(H F:Hp)(m:M (List D))(Q:List V->Hp->Prop):Prop:=match m with| .ok e=>∀b a d,bx H F a d->aR K d e b->Q b a| .error (some c)=>∀a,bu H a->E (.ref c) none a| .error none=>False
def uQ(K:W.Frag)(E:XK)(f:ak->M (List D)):TA:=λb H Q=>∃(c:Hp)(d:su)(a:ak)(F:Hp),SR K c d a b H F/\aaP K E H F (f a) Q
def bJ(h:PE X e t)(k:∀a H Q,t' a H Q->t a H Q):PE X e t':=λb s a H Q I hw=>h b s a H Q I (k a H Q hw)
def mV(h:PT X e t)(k:∀a H Q,t' a H Q->t a H Q):PT X e t':=λb s a H Q I hw=>h b s a H Q I (k a H Q hw)
def Rr(h:PA X e t)(k:∀a H Q,t' a H Q->t a H Q):PA X e t':=λc b s a H Q I hw=>h c b s a H Q I (k a H Q hw)
theorem WS{K:W.Frag}(S:SR K e i ρ j H F)(o:Out K E H F (f ρ>>=k) R)(h:∀d v a b,f ρ=.ok d->bx H F a b->SR K e i ρ j a b->eW K b d v->Out K E a b (k d) R->Q v a):tD K E f j H Q:=by
 refine⟨e,i,ρ,F,S,?_⟩
 match q:f ρ,o with| .ok d,o=>exactλv a b g r=>h d v a b q g (S.grow g) r (Out.grow (m:=k d) o g)| .error (some c),o=>exact o| .error none,o=>exact o
section
variable{X:Cx}{E:XK}{a b:Expr}{f g:ak->M D}{pos:Pos}
def O (i:Nat):ak->M D:=λc=>match c[i]? with|some (~~~d)=>.ok d|_=>ao
theorem kK(i:Nat)(h:X.N[i]?=some x:=by rfl)(j:Av X.env.scope x:=by walk_at "v")(k:(x==("__debug__":Str))=false:=by decide)(c:(x==("__classdict__":Str))=false:=by decide):PE X (.Name x pos) (tD X.K E (O i)):=by
 refine bJ (f6 h j k c) λp H Q e=>?_
 obtain⟨r,s,l,F,S,o⟩:=e;unfold O at o
 match q:l[i]?,o with|some (~~~d),o=>obtain⟨v,m,n⟩:=S.J i d q;exact⟨v,m,o v H F (.refl S.gr.sub) n⟩|some (some (.ow t)),o=>exact o.elim|some (some (.ce _ _ _)),o=>exact o.elim|some none,o=>exact o.elim|none,o=>exact o.elim
def aG(d:D):ak->M D:=λ_=>.ok d
theorem GV{K}(h:∀F,eW K F d v):∀c H Q,tD K E (aG d) c H Q->tC v c H Q:=λc H Q⟨e,i,j,F,S,o⟩=>o v H F (.refl S.gr.sub) (h F)
def X3{i j}:PE X (.Constant (.int i) j pos) (tD X.K E (aG (.int i))):=bJ LL (GV λ_=>rfl)
def X4{j}:PE X (.Constant .none j pos) (tD X.K E (aG .cK)):=bJ Xe (GV λ_=>rfl)
theorem aaQ{x:Str}{a}(c:Gl X x)(d:X.mg x=some (.ref a))(e:(x==("__debug__":Str))=false:=by decide):PE X (.Name x pos) (tD X.K E (aG (.fn a))):=bJ (wV c d (v:=.ref a) rfl e) (GV λ_=>rfl)
theorem UZ(c:Gl X x)(d:X.mg x=some (.int i t))(e:(x==("__debug__":Str))=false:=by decide):PE X (.Name x pos) (tD X.K E (aG (.int i))):=bJ (wV c d (v:=.int i) ⟨t,rfl⟩ e) (GV λ_=>rfl)
def aL(h:D->D->M D)(f g:ak->M D):ak->M D:=λc=>f c>>=λx=>g c>>=λy=>h x y
def Pa(K:W.Frag)(E:XK)(r:R2)(h:D->D->M D):Prop:=∀(x y:D)(v u:V)(H F:Hp)Q,bu F H->eW K F x v->eW K F y u->Out K E H F (h x y) Q->r v u H Q
theorem Rt{K:W.Frag}(d:Pa K E r h):∀c H Q,tD K E (aL h f g) c H Q->Xq r (tD K E f) (tD K E g) c H Q:=λc H Q⟨w,z,e,F,S,o⟩=>
 WS S (k:=λx=>g e>>=λy=>h x y) (R:=Q) o λx v A F1 _ B i j l=>
  WS i (k:=λy=>h x y) (R:=Q) l λy u m n _ p q s t=>d x y v u m n Q q.gr.sub (j.mono p.aM) s t
theorem Cf(c:Jh X (binaryOp op) r)(d:Pa X.K E r h)(e:PE X a (tD X.K E f))(i:PE X b (tD X.K E g)):PE X (.BinOp a op b pos) (tD X.K E (aL h f g)):=
 bJ (Q5 c e i) (Rt d)
def X5(h:Int->Int->M D):D->D->M D:=λx y=>match x,y with| .int i,.int j=>h i j|_,_=>ao
theorem Cg{K:W.Frag}(c:∀i j H F Q,bu F H->Out K E H F (h i j) Q->r (.int i) (.int j) H Q):Pa K E r (X5 h):=λx y v u H F Q s d e o=>by
 unfold X5 at o
 match x,y,o with| .int i,.int j,o=>have e1:v=.int i:=d;have k:u=.int j:=e;subst e1 k;exact c i j H F Q s o| .int _,.cK,o=>exact o.elim| .int _,.bl _,o=>exact o.elim| .int _,.fn _,o=>exact o.elim| .int _,.tup _,o=>exact o.elim| .int _,.lst _,o=>exact o.elim| .int _,.obj _ _ _,o=>exact o.elim| .int _,.arr _,o=>exact o.elim| .cK,_,o=>exact o.elim| .bl _,_,o=>exact o.elim| .fn _,_,o=>exact o.elim| .tup _,_,o=>exact o.elim| .lst _,_,o=>exact o.elim| .obj _ _ _,_,o=>exact o.elim| .arr _,_,o=>exact o.elim
theorem Out.now{K}(o:Out K E H F (.ok d) Q)(s:bu F H)(r:eW K F d v):Q v H:=o v H F (.refl s) r
def kC:D->D->M D:=X5 λi j=>.ok (.int (i+j))
def JH:D->D->M D:=X5 λi j=>.ok (.int (i-j))
def xm(i j:Int):Bool:=decide (Builtin.Int.intBits i+Builtin.Int.intBits j<=134217728)
def gX:D->D->M D:=X5 λi j=>if xm i j then .ok (.int (i*j))else ao
theorem U0:Jh X (binaryOp .Mult) (rI (λi j=>xm i j=true) λi j=>.int (i*j)):=opI λ_ _ _ _ _ _ _ c q=>mul_int q (IntMulOk.of_le (afI _) (afI _) (age c))
def X6:Pa X.K E (Xr λi j=>.int (i+j)) kC:=Cg λi j H F Q s o=>⟨i,j,rfl,rfl,o.now s rfl⟩
def X7:Pa X.K E (Xr λi j=>.int (i-j)) JH:=Cg λi j H F Q s o=>⟨i,j,rfl,rfl,o.now s rfl⟩
theorem X8:Pa X.K E (rI (λi j=>xm i j=true) λi j=>.int (i*j)) gX:=Cg λi j H F Q s o=>by
 by_cases h:xm i j=true
 rw[afz h]at o;exact⟨i,j,rfl,rfl,h,o.now s rfl⟩;rw[afy h]at o;exact o.elim
theorem Ru(c:PE X a (tD X.K E f))(d:PE X b (tD X.K E g)):PE X (.BinOp a .Add b pos) (tD X.K E (aL kC f g)):=Cf Xu X6 c d
theorem Yb(c:PE X a (tD X.K E f))(d:PE X b (tD X.K E g)):PE X (.BinOp a .Sub b pos) (tD X.K E (aL JH f g)):=Cf Xv X7 c d
theorem Yc(c:PE X a (tD X.K E f))(d:PE X b (tD X.K E g)):PE X (.BinOp a .Mult b pos) (tD X.K E (aL gX f g)):=Cf U0 X8 c d
def GW:D->D->M D:=X5 λi j=>if j=0 then ao else .ok (.int (i.fmod j))
theorem Yd:Pa X.K E (rI (λ_ j=>j≠0) λi j=>.int (i.fmod j)) GW:=Cg λi j H F Q s o=>by
 by_cases h:j=0
 rw[afz h]at o;exact o.elim;rw[afy h]at o;exact⟨i,j,rfl,rfl,h,o.now s rfl⟩
theorem Ye(c:PE X a (tD X.K E f))(d:PE X b (tD X.K E g)):PE X (.BinOp a .Mod b pos) (tD X.K E (aL GW f g)):=Cf Uv Yd c d
def oj:D->D->M D:=X5 λi j=>if j=0 then ao else .ok (.int (i.fdiv j))
theorem U1:Pa X.K E (rI (λ_ j=>j≠0) λi j=>.int (i.fdiv j)) oj:=Cg λi j H F Q s o=>by
 by_cases h:j=0
 rw[afz h]at o;exact o.elim;rw[afy h]at o;exact⟨i,j,rfl,rfl,h,o.now s rfl⟩
end
end DL
namespace DL
open PySem PySem.Spec PyProof.Rows L2
def eO:D->M Int| .int i=>.ok i|_=>ao
def mW:D->M (List D)| .lst a=>.ok a|_=>ao
def aaR:D->M (List D)| .tup a=>.ok a|_=>ao
def aH{b}(E:XK)(H:Hp)(m:M b)(P:b->Prop):Prop:=match m with| .ok a=>P a| .error (some c)=>∀d,bu H d->E (.ref c) none d| .error none=>False
theorem aH.bind(o:aH E H (m>>=k) P):aH E H m λa=>aH E H (k a) P:=by
 match m,o with| .ok a,o=>exact o| .error (some c),o=>exact o| .error none,o=>exact o
theorem aH.imp(o:aH E H m P)(s:bu H b)(h:∀a,m=.ok a->P a->d a):aH E b m d:=by
 match m,o,h with| .ok a,o,h=>exact h a rfl o| .error (some c),o,_=>exactλe f=>o e (s.trans f)| .error none,o,_=>exact o
theorem cM{K:W.Frag}{E:XK}{H F:Hp}{m}{Q}:Out K E H F m Q=aH E H m λd=>∀v a b,bx H F a b->eW K b d v->Q v a:=by
 cases m with
 |ok d=>rfl
 |error c=>cases c<;>rfl
theorem jO:X0 E H F m Q=aH E H m λb=>∀a e,bx H F a e->Q b a:=by
 cases m with
 |ok d=>rfl
 |error c=>cases c<;>rfl
theorem LZ{K:W.Frag}:aaP K E H F m Q=aH E H m λds=>∀vs a b,bx H F a b->aR K b ds vs->Q vs a:=by
 cases m with
 |ok d=>rfl
 |error c=>cases c<;>rfl
theorem fH{K:W.Frag}(S:SR K c i ρ j H F)(o:aH E H (f ρ>>=k) P)(h:∀d v a b,f ρ=.ok d->bx H F a b->SR K c i ρ j a b->eW K b d v->aH E a (k d) P->Q v a):tD K E f j H Q:=by refine⟨c,i,ρ,F,S,?_⟩;rw[cM];refine o.bind.imp (.refl _) λd e q v a b g r=>h d v a b e g (S.grow g) r (q.imp g.same λ_ _ z=>z)
theorem Ci{K:W.Frag}(S:SR K i j ρ l H F)(o:aH E H (f ρ>>=k) P)(h:∀b a c,f ρ=.ok b->bx H F a c->SR K i j ρ l a c->aH E a (k b) P->Q b a):mU K E f l H Q:=by refine⟨i,j,ρ,F,S,?_⟩;rw[jO];refine o.bind.imp (.refl _) λd e q a c g=>h d a c e g (S.grow g) (q.imp g.same λ_ _ z=>z)
theorem jP{K:W.Frag}{E:XK}{f}{c:St}{H:Hp}{Q:List V->Hp->Prop}{i:Hp}{j:su}{ρ:ak}{F:Hp}(S:SR K i j ρ c H F){l:Type}{k:List D->M l}{P}(o:aH E H (f ρ>>=k) P)(h:∀ds vs a b,f ρ=.ok ds->bx H F a b->SR K i j ρ c a b->aR K b ds vs->aH E a (k ds) P->Q vs a):uQ K E f c H Q:=by refine⟨i,j,ρ,F,S,?_⟩;rw[LZ];refine o.bind.imp (.refl _) λd e q v a b g r=>h d v a b e g (S.grow g) r (q.imp g.same λ_ _ z=>z)
section
variable{X:Cx}{E:XK}{a b e:Expr}{es:List Expr}{f g:ak->M D}{fs:ak->M (List D)}{pos:Pos}
def af:ak->M (List D):=λ_=>.ok []
def U(f:ak->M D)(r:ak->M (List D)):ak->M (List D):=λc=>f c>>=λd=>r c>>=λh=>.ok (d::h)
def qC:PA X [] (uQ X.K E af):=Rr qy λc H Q⟨d,h,i,F,S,o⟩=>o [] H F (.refl S.gr.sub) rfl
theorem mw(j:PE X e (tD X.K E f))(k:PA X es (uQ X.K E fs))(hs:starEach (e::es) X.env=(false,eval e X.env)::starEach es X.env:=by rfl):PA X (e::es) (uQ X.K E (U f fs)):=
 Rr (iA j k hs) λu H Q c=>by obtain⟨w,x,y,F,S,o⟩:=c;rw[LZ]at o;exact fH S o λd v z F1 _ l m n p=>jP m p λA h q r _ i B s t=>t (v::h) q r (l.trans i) ⟨v,h,rfl,n.mono i.aM,s⟩
def eS(ds:List D):M D:=if ds.length<=sizeLine then .ok (.tup ds)else ao
def dB(ds:List D):M D:=if ds.length<=sizeLine then .ok (.lst ds)else ao
def aa(fs:ak->M (List D))(k:List D->M D):ak->M D:=λc=>fs c>>=k
theorem BD{K}{H F c d}{ds}{vs}{p}{Q:VK}(g:bx H F c d)(r:aR K d ds vs)(i:c p=none)(h:∀v j F2,bx H F j F2->eW K F2 (.lst ds) v->Q v j):Q (.ref p) (fD c p (.lst vs)):=
 h _ _ _ (g.trans (bx.laid g.sub i)) ⟨p,vs,rfl,bh,r.mono (bx.laid (H:=c) (F:=d) g.sub i).aM⟩
theorem Yg{m}(h:PA X es (uQ X.K E fs)):PE X (.Tuple es m pos) (tD X.K E (aa fs eS)):=bJ (Xx h) λs H Q d=>by
 obtain⟨t,u,v,F,S,o⟩:=d;rw[cM]at o;refine jP S o λn q r F1 _ i w k c=>?_
 unfold eS at c
 by_cases j:n.length<=sizeLine
 rw[afz j]at c;refine⟨by rw[<-k.length];exact j,λp l=>c _ _ _ (i.trans (bx.laid i.sub l)) ⟨p,q,rfl,bh,k.mono (bx.laid (H:=r) (F:=F1) i.sub l).aM⟩⟩;rw[afy j]at c;exact c.elim
theorem Yh(h:PA X es (uQ X.K E fs)):PE X (.List es pos) (tD X.K E (aa fs dB)):=bJ (LR h) λn H Q d=>by
 obtain⟨q,r,s,F,S,o⟩:=d;rw[cM]at o;refine jP S o λk t u F1 _ l v j c=>?_
 unfold dB at c
 by_cases i:k.length<=sizeLine
 rw[afz i]at c;exact⟨by rw[<-j.length];exact i,λp m=>BD l j m c⟩;rw[afy i]at c;exact c.elim
def iV(x y:D):M D:=mW x>>=λa=>mW y>>=λb=>if a.length+b.length<=sizeLine then .ok (.lst (a++b))else ao
theorem U3:Pa X.K E aaG iV:=λx y v u H F Q s k m o=>by
 rw[cM]at o;cases x with
 |lst a=>
  cases y with
  |lst b=>
   have o:aH E H (if a.length+b.length<=sizeLine then(.ok (.lst (a++b)):M D)else ao) _:=o
   by_cases d:a.length+b.length<=sizeLine
   rw[afz d]at o;obtain⟨l,n,e1,q,j⟩:=k;obtain⟨r,t,h,i,c⟩:=m;exact⟨l,r,n,t,e1,h,s _ _ q,s _ _ i,by rw[<-j.length,<-c.length];exact d,λp w=>BD (.refl s) (j.append c) w o⟩;rw[afy d]at o;exact o.elim
  |_=>exact o.elim
 |_=>exact o.elim
theorem U4(c:PE X a (tD X.K E f))(d:PE X b (tD X.K E g)):PE X (.BinOp a .Add b pos) (tD X.K E (aL iV f g)):=Cf Rk U3 c d
def U5(x:D):M D:=eO x>>=λi=>.ok (.int (-i))
theorem Yi(j:PE X a (tD X.K E f)):PE X (.UnaryOp .USub a pos) (tD X.K E λρ=>f ρ>>=U5):=bJ (WK Q6 j) λm H Q c=>by
 obtain⟨n,p,ρ,F,S,o⟩:=c;rw[cM]at o;refine fH S o λd v q F1 _ k r l h=>?_
 cases d with|int i=>have e:v=.int i:=l;exact⟨i,e,h _ _ _ k rfl⟩|_=>exact h.elim
def Pb(p:Int->Int->Bool)(x y:D):M Bool:=eO x>>=λi=>eO y>>=λj=>.ok (p i j)
def eL(p:Int->Int->Bool)(f g:ak->M D):ak->M Bool:=λc=>f c>>=λx=>g c>>=λy=>Pb p x y
theorem sI(m:r=Xr λi j=>.bl (p i j)):∀d H(Q:Bool->Hp->Prop),mU X.K E (eL p f g) d H Q->Xq r (tD X.K E f) (tD X.K E g) d H λx l=>∃c,x=.bl c/\Q c l:=λd H Q h=>by
 obtain⟨B,C,G,F,S,o⟩:=h;subst m;rw[jO]at o;refine fH S o λx v l F1 _ n q s t=>fH q t λy u I N _ w P z k=>?_
 cases x with
 |int i=>
  cases y with|int j=>have e1:v=.int i:=s;have A:u=.int j:=z;exact⟨i,j,e1,A,_,rfl,k _ _ (n.trans w)⟩|_=>exact k.elim
 |_=>exact k.elim
theorem aaS(c:PE X a (tD X.K E f))(d:PE X b (tD X.K E g)):PT X (.Compare a [.Lt] [b] pos) (mU X.K E (eL (λi j=>decide (i<j)) f g)):=mV (za (WG c d)) λk H Q h=>sI rfl k H Q h
theorem aaT(c:PE X a (tD X.K E f))(d:PE X b (tD X.K E g)):PT X (.Compare a [.Gt] [b] pos) (mU X.K E (eL (λi j=>decide (j<i)) f g)):=mV (za (aad c d)) λk H Q h=>sI rfl k H Q h
theorem aaU(c:PE X a (tD X.K E f))(d:PE X b (tD X.K E g)):PT X (.Compare a [.GtE] [b] pos) (mU X.K E (eL (λi j=>decide (j<=i)) f g)):=mV (za (WH c d)) λk H Q h=>sI rfl k H Q h
theorem aaV(c:PE X a (tD X.K E f))(d:PE X b (tD X.K E g)):PT X (.Compare a [.Eq] [b] pos) (mU X.K E (eL (λi j=>decide (i=j)) f g)):=mV (za (QU c d)) λk H Q h=>sI rfl k H Q h
theorem aaW(c:PE X a (tD X.K E f))(d:PE X b (tD X.K E g)):PT X (.Compare a [.NotEq] [b] pos) (mU X.K E (eL (λi j=>!decide (i=j)) f g)):=mV (za (QV c d)) λk H Q h=>sI rfl k H Q h
def kD(f:ak->M Bool):ak->M D:=λc=>f c>>=λb=>.ok (.bl b)
theorem BE(s:r=Xr λi j=>.bl (p i j)):∀k H Q,tD X.K E (kD (eL p f g)) k H Q->Xq r (tD X.K E f) (tD X.K E g) k H Q:=λk H Q l=>by
 obtain⟨I,N,h,F,S,o⟩:=l;subst s;rw[cM]at o;have o:aH E H (f h>>=λx=>g h>>=λy=>Pb p x y>>=λb=>(.ok (.bl b):M D)) λd=>∀v n q,bx H F n q->eW X.K q d v->Q v n:=by
  unfold kD eL at o;have e:(f h>>=λx=>g h>>=λy=>Pb p x y)>>=(λb=>(.ok (.bl b):M D))=f h>>=λx=>g h>>=λy=>Pb p x y>>=λb=>(.ok (.bl b):M D):=by
   cases f h with
   |error c=>rfl
   |ok x=>cases g h with
    |error c=>rfl
    |ok y=>rfl
  rw[e]at o;exact o
 refine fH S o λx v P F1 _ t w z A=>fH w A λy u R T _ B W C m=>?_
 cases x with
 |int i=>
  cases y with|int j=>have e1:v=.int i:=z;have G:u=.int j:=C;exact⟨i,j,e1,G,m _ _ _ (t.trans B) rfl⟩|_=>exact m.elim
 |_=>exact m.elim
theorem aaX(c:PE X a (tD X.K E f))(d:PE X b (tD X.K E g)):PE X (.Compare a [.Lt] [b] pos) (tD X.K E (kD (eL (λi j=>decide (i<j)) f g))):=bJ (Gz (WG c d)) λk H Q h=>BE rfl k H Q h
theorem aaY(c:PE X a (tD X.K E f))(d:PE X b (tD X.K E g)):PE X (.Compare a [.GtE] [b] pos) (tD X.K E (kD (eL (λi j=>decide (j<=i)) f g))):=bJ (Gz (WH c d)) λk H Q h=>BE rfl k H Q h
def Uc:D->Bool| .cK=>true|_=>false
theorem eW.Uc{K}(r:eW K F d v):decide (v=.cK)=DL.Uc d:=by
 cases d with|cK=>have e:v=.cK:=r;rw[e];rfl|bl b=>have e:v=.bl b:=r;rw[e];rfl|int b=>have e:v=.int b:=r;rw[e];rfl|fn b=>have e:v=.ref b:=r;rw[e];rfl|tup c=>obtain⟨a,h,e,_⟩:=r;rw[e];rfl|lst c=>obtain⟨a,h,e,_⟩:=r;rw[e];rfl|arr c=>obtain⟨a,h,e,_⟩:=r;rw[e];rfl|obj C i c=>obtain⟨a,j,h,e,_⟩:=r;rw[e];rfl
theorem Yj{j pos'}(h:PE X a (tD X.K E f)):PT X (.Compare a [.Is] [.Constant .none j pos'] pos) (mU X.K E λρ=>f ρ>>=λd=>.ok (Uc d)):=mV (za (Xf h)) λm H Q c=>by obtain⟨n,p,ρ,F,S,o⟩:=c;rw[jO]at o;refine fH S o λd v q F1 _ i r k l=>⟨Uc d,by rw[k.Uc],l _ _ i⟩
def Yk(f g:ak->M Bool):ak->M Bool:=λc=>f c>>=λb=>if b then .ok true else g c
def Rv(f g:ak->M Bool):ak->M Bool:=λc=>f c>>=λb=>if b then g c else .ok false
def pw_imp(h:PW X e t)(k:∀c H Q,t' c H Q->t c H Q):PW X e t':=λi d s c H Q I hw=>h i d s c H Q I (k c H Q hw)
variable{fb gb:ak->M Bool}
def Yl(c:PT X a (mU X.K E fb)):PW X (.BoolOp .Or [a] pos) (mU X.K E fb):=pw_or1 c
def U6(c:PT X a (mU X.K E fb)):PW X (.BoolOp .And [a] pos) (mU X.K E fb):=pw_and1 c
theorem aaZ(k:PT X a (mU X.K E fb))(l:PW X (.BoolOp .Or (b::es) pos) (mU X.K E gb)):PW X (.BoolOp .Or (a::b::es) pos) (mU X.K E (Yk fb gb)):=pw_imp (pw_or k l) λv H Q d=>by
 obtain⟨n,p,h,F,S,o⟩:=d;rw[jO]at o;refine Ci S o λc w F1 _ i r j=>?_
 cases c with|true=>exact GQ (j _ _ i)|false=>exact GP ⟨n,p,h,F1,r,by rw[jO];exact aH.imp (m:=gb h) j (.refl _) λb _ q s t u=>q s t (i.trans u)⟩
theorem Ym(k:PT X a (mU X.K E fb))(l:PW X (.BoolOp .And (b::es) pos) (mU X.K E gb)):PW X (.BoolOp .And (a::b::es) pos) (mU X.K E (Rv fb gb)):=pw_imp (pw_and k l) λv H Q d=>by
 obtain⟨n,p,h,F,S,o⟩:=d;rw[jO]at o;refine Ci S o λc w F1 _ i r j=>?_
 cases c with|false=>exact GP (j _ _ i)|true=>exact GQ ⟨n,p,h,F1,r,by rw[jO];exact aH.imp (m:=gb h) j (.refl _) λb _ q s t u=>q s t (i.trans u)⟩
theorem Rw(h:PT X a (mU X.K E fb)):PT X (.UnaryOp .Not a pos) (mU X.K E λρ=>fb ρ>>=λb=>.ok (!b)):=mV (Xh h) λk H Q d=>by obtain⟨l,m,ρ,F,S,o⟩:=d;rw[jO]at o;exact Ci S o λc n F1 _ i p j=>j _ _ i
def GX(c:ak->M Bool)(f g:ak->M D):ak->M D:=λd=>c d>>=λb=>if b then f d else g d
theorem aa0(w:PT X c (mU X.K E fb))(x:PE X a (tD X.K E f))(y:PE X b (tD X.K E g)):PE X (.IfExp c a b pos) (tD X.K E (GX fb f g)):=bJ (QX w x y) λz H Q i=>by
 obtain⟨n,p,h,F,S,o⟩:=i;rw[cM]at o;refine Ci S o λc A F1 _ s t u=>?_
 cases c with|true=>exact GQ ⟨n,p,h,F1,t,by rw[cM];exact aH.imp (m:=f h) u (.refl _) λd _ q v j k l r=>q v j k (s.trans l) r⟩|false=>exact GP ⟨n,p,h,F1,t,by rw[cM];exact aH.imp (m:=g h) u (.refl _) λd _ q v j k l r=>q v j k (s.trans l) r⟩
def l6(ds:List D)(i:Int):M D:=match Jt ds i with|some d=>.ok d|none=>ao
def El:D->M (List D)| .lst c=>.ok c| .arr c=>.ok c|_=>ao
theorem Rx{K:W.Frag}(s:bu F H)(r:eW K F d v)(o:aH E j (El d>>=k) P):∃ds p vs,v=.ref p/\jl K H p vs/\aR K F ds vs/\aH E j (k ds) P:=by
 cases d with|lst ds=>obtain⟨l,c,e1,h,i⟩:=r;exact⟨ds,l,c,e1,jl.of (s _ _ h),i,o⟩|arr ds=>obtain⟨l,c,e1,h,i⟩:=r;exact⟨ds,l,c,e1,(h.mono s).sq,i,o⟩|_=>exact o.elim
def Yn(x y:D):M D:=El x>>=λc=>eO y>>=λi=>l6 c i
def U7(x y:D):M D:=aaR x>>=λc=>eO y>>=λi=>l6 c i
theorem zg{K}(r:aR K F ds vs)(h:Jt ds i=some d):∃v,Jt vs i=some v/\eW K F d v:=by
 unfold Jt at h|-;rw[r.length]at h;cases q:B6 vs.length i with
 |none=>rw[q]at h;cases h
 |some j=>rw[q]at h;exact r.get h
theorem Nz:Pa X.K E (XA X.K) Yn:=λx y v u H F Q s h j o=>by
 rw[cM]at o;obtain⟨c,l,k,e1,m,n,o⟩:=Rx s h o;cases y with
 |int i=>
  have o:aH E H (l6 c i) _:=o;have p:u=.int i:=j;unfold l6 at o;cases q:Jt c i with|none=>rw[q]at o;exact o.elim|some d=>rw[q]at o;obtain⟨z,r,t⟩:=zg n q;exact⟨l,k,i,z,e1,p,m,r,o z H F (.refl s) t⟩
 |_=>exact o.elim
theorem U8:Pa X.K E (XC X.K) U7:=λx y v u H F Q s h j o=>by
 rw[cM]at o;cases x with
 |tup c=>
  cases y with
  |int i=>
   have o:aH E H (l6 c i) _:=o;obtain⟨l,k,e1,m,n⟩:=h;have p:u=.int i:=j;unfold l6 at o;cases q:Jt c i with|none=>rw[q]at o;exact o.elim|some d=>rw[q]at o;obtain⟨z,r,t⟩:=zg n q;exact⟨l,k,i,z,e1,p,kH.of (s _ _ m),r,o z H F (.refl s) t⟩
  |_=>exact o.elim
 |_=>exact o.elim
def ay(x y:D):M D:=match x with| .lst _=>Yn x y| .arr _=>Yn x y| .tup _=>U7 x y|_=>ao
theorem U9:Pa X.K E (λx y H Q=>XA X.K x y H Q\/XC X.K x y H Q) ay:=λx y v u H F Q s c d o=>by
 cases x with|lst h=>exact .inl (Nz _ y v u H F Q s c d o)|arr h=>exact .inl (Nz _ y v u H F Q s c d o)|tup h=>exact .inr (U8 _ y v u H F Q s c d o)|_=>rw[cM]at o;exact o.elim
theorem Va(c:PE X a (tD X.K E f))(d:PE X b (tD X.K E g))(hs:uO b:=by exactλ_ _=>rfl):PE X (.Subscript a b pos) (tD X.K E (aL ay f g)):=bJ (Ju (Np.or GH) c d hs) (Rt U9)
abbrev DP:=ak->M (Option Int)
def qD:DP:=λ_=>.ok none
def iB(f:ak->M D):DP:=λc=>f c>>=λd=>eO d>>=λi=>.ok (some i)
def cutD(ds:List D)(lo c:Option Int):List D:=(ds.drop (HT.E9 ds.length 0 lo)).take (HT.E9 ds.length ds.length c-HT.E9 ds.length 0 lo)
def Yo(K:W.Frag)(E:XK)(f:DP):TO:=λh H Q=>∃(j:Hp)(k:su)(c:ak)(F:Hp),SR K j k c h H F/\aH E H (f c) λi=>∀d l,bx H F d l->Q i d
theorem GY{K:W.Frag}{f:DP}{l:St}{H:Hp}{Q}{m:Hp}{n}{ρ:ak}{F:Hp}(S:SR K m n ρ l H F){p:Type}{k}{P:p->Prop}(o:aH E H (f ρ>>=k) P)(h:∀i c j,f ρ=.ok i->bx H F c j->SR K m n ρ l c j->aH E c (k i) P->Q i c):Yo K E f l H Q:=
 ⟨m,n,ρ,F,S,o.bind.imp (.refl _) λd e q c j g=>h d c j e g (S.grow g) (q.imp g.same λ_ _ z=>z)⟩
def Ry{e}{t t'}(h:PO X e t)(k:∀c H Q,t' c H Q->t c H Q):PO X e t':=λd s c H Q I hw=>h d s c H Q I (k c H Q hw)
def Vb:PO X none (Yo X.K E qD):=Ry UD λc H Q⟨d,h,i,F,S,o⟩=>o H F (.refl S.gr.sub)
theorem GZ(h:PE X e (tD X.K E f)):PO X (some e) (Yo X.K E (iB f)):=Ry (UE h) λm H Q c=>by
 obtain⟨n,p,q,F,S,o⟩:=c;refine fH S o λd v r F1 _ k s l j=>?_
 cases d with|int i=>exact⟨i,l,j _ _ k⟩|_=>exact j.elim
def vY(f:ak->M D)(lo d:DP):ak->M D:=λc=>f c>>=λx=>lo c>>=λl=>d c>>=λu=>El x>>=λh=>.ok (.lst (cutD h l u))
theorem Yp{lo h:Option Expr}{i j:DP}{s:Pos}(he:PE X e (tD X.K E f))(t:PO X lo (Yo X.K E i))(w:PO X h (Yo X.K E j)):PE X (.Subscript e (.Slice lo h none s) pos) (tD X.K E (vY f i j)):=
 bJ (Jp Nq he t w) λZ H Q c=>by
  obtain⟨H0,F0,ρ,F,S,o⟩:=c;rw[cM]at o;refine fH S o λx v H1 F1 _ y z A B=>GY z B λl H2 F2 _ k C G=>GY C G λu H3 I _ m N d=>?_
  obtain⟨P,p,n,e1,R,r,d⟩:=Rx N.gr.sub (A.mono (k.trans m).aM) d;have g:=(y.trans k).trans m;refine⟨p,n,e1,R,λq T=>?_⟩;have W:aR X.K I (cutD P l u) (Jr n l u):=by unfold cutD Jr;rw[r.length];exact(r.drop _).take _
  exact BD g W T d
def iw(ds:List D):M D:=match ds with|[.lst l]=>.ok (.int l.length)|[.arr l]=>.ok (.int l.length)|[.tup l]=>.ok (.int l.length)|_=>ao
def Pc(ds:List D):M D:=match ds with|[.int i]=>.ok (.int (if i<0 then-i else i))|_=>ao
def iJ:List D->Option (List Int)|[]=>some []| .int i::r=>(iJ r).map (i:: ·)|_=>none
def mC:List D->Option (List Bool)|[]=>some []| .bl i::r=>(mC r).map (i:: ·)|_=>none
theorem vZ:∀{ds:List D}{ns:List Int},iJ ds=some ns->ds=ns.map D.int
 |[],ns,h=>by cases h;rfl
 | .int i::r,ns,h=>by
  unfold iJ at h;cases q:iJ r with
  |none=>rw[q]at h;cases h
  |some m=>rw[q]at h;cases h;rw[vZ q];rfl
 | .cK::r,ns,h=>by cases h
 | .bl _::r,ns,h=>by cases h
 | .fn _::r,ns,h=>by cases h
 | .tup _::r,ns,h=>by cases h
 | .lst _::r,ns,h=>by cases h
 | .obj _ _ _::r,ns,h=>by cases h
 | .arr _::r,ns,h=>by cases h
theorem AA:∀{ds:List D}{ns:List Bool},mC ds=some ns->ds=ns.map D.bl
 |[],ns,h=>by cases h;rfl
 | .bl i::r,ns,h=>by
  unfold mC at h;cases q:mC r with
  |none=>rw[q]at h;cases h
  |some m=>rw[q]at h;cases h;rw[AA q];rfl
 | .cK::r,ns,h=>by cases h
 | .int _::r,ns,h=>by cases h
 | .fn _::r,ns,h=>by cases h
 | .tup _::r,ns,h=>by cases h
 | .lst _::r,ns,h=>by cases h
 | .obj _ _ _::r,ns,h=>by cases h
 | .arr _::r,ns,h=>by cases h
theorem aR.bools{K}:∀{ns:List Bool}{vs:List V},aR K H (ns.map D.bl) vs->vs=ns.map V.bl|[],_,h=>h|n::ns,_,⟨v,r,c,d,i⟩=>by have e:v=.bl n:=d;subst c e;rw[aR.bools i];rfl
def Em(ds:List D):M D:=match ds with
 |[.lst l]=>match iJ l with
  |some c=>.ok (.int c.sum)
  |none=>ao
 |_=>ao
def Cj(ds:List D):M D:=match ds with
 |[.lst l]=>match mC l with
  |some c=>.ok (.bl (c.any id))
  |none=>ao
 |_=>ao
def Ck(K:W.Frag)(E:XK)(r:List V->Hp->VK->Prop)(h:List D->M D):Prop:=∀(c:List D)i(H F:Hp)(Q:VK),bu F H->aR K F c i->aH E H (h c) (λd=>∀v j k,bx H F j k->eW K k d v->Q v j)->r i H Q
theorem pT{x:Str}{p:Pos}{id}{r:List V->Hp->VK->Prop}{h:List D->M D}(k:Ck X.K E r h)(l:rR X (.builtin id) r)(m:Gl X x)(n:X.mg x=none)(s:bootBuiltins x=some (.builtin id))(t:PA X (e::es) (uQ X.K E fs))(u:x≠"__name__":=by decide)(c:(x==("__debug__":Str))=false:=by decide)(he:starEach (e::es) X.env=(false,eval e X.env)::starEach es X.env:=by rfl) (kI:(backTo pos (starEach es X.env)).any (·.1)=false:=by rfl):PE X (.Call (.Name x p) (e::es) [] pos) (tD X.K E (aa fs h)):=
 bJ (Rg l m n s t u c he kI) λP H Q i=>by obtain⟨R,T,W,F,S,o⟩:=i;rw[cM]at o;exact jP S o λw y z F1 _ j Z A B=>k w y z F1 Q j.sub A (B.imp (.refl _) λd _ q v C G I N=>q v C G (j.trans I) N)
def pU{K}(r:aR K F [d] vs):∃v,vs=[v]/\eW K F d v:=by obtain⟨v,t,e,h,c⟩:=r;have c:t=[]:=c;subst c;exact⟨v,e,h⟩
theorem Yq:Ck X.K E (λxs H Q=>∃p h,xs=[.ref p]/\(jl X.K H p h\/kH X.K H p h)/\Q (.int h.length) H) iw:=λi j H F Q s r o=>by
 match i,r,o with
 |[],_,o=>exact o.elim
 |[.lst l],r,o=>obtain⟨v,e,a,xs,e1,c,d⟩:=pU r;subst e e1;exact⟨a,xs,rfl,.inl (jl.of (s _ _ c)),by rw[<-d.length];exact o _ _ _ (.refl s) rfl⟩
 |[.arr l],r,o=>obtain⟨v,e,a,xs,e1,c,d⟩:=pU r;subst e e1;exact⟨a,xs,rfl,.inl (c.mono s).sq,by rw[<-d.length];exact o _ _ _ (.refl s) rfl⟩
 |[.tup l],r,o=>obtain⟨v,e,a,xs,e1,c,d⟩:=pU r;subst e e1;exact⟨a,xs,rfl,.inr (kH.of (s _ _ c)),by rw[<-d.length];exact o _ _ _ (.refl s) rfl⟩
 |[.cK],_,o=>exact o.elim
 |[.bl _],_,o=>exact o.elim
 |[.int _],_,o=>exact o.elim
 |[.fn _],_,o=>exact o.elim
 |[.obj _ _ _],_,o=>exact o.elim
 |a::_::_,_,o=>cases a<;>exact o.elim
theorem Yr:Ck X.K E (λxs H Q=>∃i,xs=[.int i]/\Q (.int (if i<0 then-i else i)) H) Pc:=λc d H F Q s r o=>by
 match c,r,o with
 |[],_,o=>exact o.elim
 |[.int i],r,o=>obtain⟨v,e,e1⟩:=pU r;have e1:v=.int i:=e1;subst e e1;exact⟨i,rfl,o _ _ _ (.refl s) rfl⟩
 |[.cK],_,o=>exact o.elim
 |[.bl _],_,o=>exact o.elim
 |[.lst _],_,o=>exact o.elim
 |[.tup _],_,o=>exact o.elim
 |[.fn _],_,o=>exact o.elim
 |[.obj _ _ _],_,o=>exact o.elim
 |[.arr _],_,o=>exact o.elim
 |a::_::_,_,o=>cases a<;>exact o.elim
theorem Ys:Ck X.K E (aaI X.K) Em:=λc j H F Q s r o=>by
 match c,r,o with
 |[],_,o=>exact o.elim
 |[.lst l],r,o=>
  unfold Em at o;cases q:iJ l with|none=>simp only[q]at o;exact o.elim|some d=>simp only[q]at o;have e0:=vZ q;subst e0;obtain⟨v,e,a,k,e1,h,i⟩:=pU r;subst e e1;exact⟨a,d,rfl,jl.of (by rw[<-i.ints];exact s _ _ h),o _ _ _ (.refl s) rfl⟩
 |[.cK],_,o=>exact o.elim
 |[.bl _],_,o=>exact o.elim
 |[.int _],_,o=>exact o.elim
 |[.tup _],_,o=>exact o.elim
 |[.fn _],_,o=>exact o.elim
 |[.obj _ _ _],_,o=>exact o.elim
 |[.arr _],_,o=>exact o.elim
 |a::_::_,_,o=>cases a<;>exact o.elim
theorem Yt:Ck X.K E (aaL X.K) Cj:=λc j H F Q s r o=>by
 match c,r,o with
 |[],_,o=>exact o.elim
 |[.lst l],r,o=>
  unfold Cj at o;cases q:mC l with|none=>simp only[q]at o;exact o.elim|some d=>simp only[q]at o;have e0:=AA q;subst e0;obtain⟨v,e,a,k,e1,h,i⟩:=pU r;subst e e1;exact⟨a,d,rfl,jl.of (by rw[<-i.bools];exact s _ _ h),o _ _ _ (.refl s) rfl⟩
 |[.cK],_,o=>exact o.elim
 |[.bl _],_,o=>exact o.elim
 |[.int _],_,o=>exact o.elim
 |[.tup _],_,o=>exact o.elim
 |[.fn _],_,o=>exact o.elim
 |[.obj _ _ _],_,o=>exact o.elim
 |[.arr _],_,o=>exact o.elim
 |a::_::_,_,o=>cases a<;>exact o.elim
theorem Rz(c:Gl X "len")(d:X.mg "len"=none)(h:PA X [e] (uQ X.K E fs))(he:starEach [e] X.env=[(false,eval e X.env)]:=by rfl):PE X (.Call (.Name "len" p) [e] [] pos) (tD X.K E (aa fs iw)):=pT Yq GL c d PySem.boot_len h (he:=he) (kI:=rfl)
theorem Yu(c:Gl X "abs")(d:X.mg "abs"=none)(h:PA X [e] (uQ X.K E fs))(he:starEach [e] X.env=[(false,eval e X.env)]:=by rfl):PE X (.Call (.Name "abs" p) [e] [] pos) (tD X.K E (aa fs Pc)):=pT Yr Q8 c d (by decide+kernel) h (he:=he) (kI:=rfl)
theorem Yv(c:X.calm=true)(d:Gl X "sum")(h:X.mg "sum"=none)(i:PA X [e] (uQ X.K E fs))(he:starEach [e] X.env=[(false,eval e X.env)]:=by rfl):PE X (.Call (.Name "sum" p) [e] [] pos) (tD X.K E (aa fs Em)):=pT Ys (XI c) d h (by decide+kernel) i (he:=he) (kI:=rfl)
theorem Yw(c:X.calm=true)(d:Gl X "any")(h:X.mg "any"=none)(i:PA X [e] (uQ X.K E fs))(he:starEach [e] X.env=[(false,eval e X.env)]:=by rfl):PE X (.Call (.Name "any" p) [e] [] pos) (tD X.K E (aa fs Cj)):=pT Yt (XN c) d h (by decide+kernel) i (he:=he) (kI:=rfl)
end
def Ud(K:W.Frag)(n:Nat)(h:List D->M D):Sp:=λb H Q E=>∃(F:Hp)(a:List D),bu F H/\aR K F a b/\a.length=n/\Out K E H F (h a) Q
def ah(n:Nat)(h:List D->M D)(ds:List D):M D:=if ds.length=n then h ds else ao
section
variable{X:Cx}{E:XK}{a b e:Expr}{es:List Expr}{f g:ak->M D}{fs:ak->M (List D)}{pos:Pos}
theorem RA{K:W.Frag}(k:bx H F l F1)(r:aR K F1 ds vs)(o:aH E l (ah n h ds) λd=>∀v c i,bx H F c i->eW K i d v->Q v c):Ud K n h vs l Q E:=by
 unfold ah at o
 by_cases j:ds.length=n
 rw[afz j]at o;exact⟨F1,ds,k.sub,r,j,by rw[cM];exact o.imp (.refl _) λd _ q v c i m p=>q v c i (k.trans m) p⟩;rw[afy j]at o;exact o.elim
theorem NB(j:eH X.prog X.w X.K X.mg X.base (kB X.prog X.w) k i l ps (Ud X.K n h))(G:Good X E)(m:cG k X.A)(q:Gl X x)(r:X.mg x=some (.ref i))(s:W.keepIn X.K (.ref i)=true) (t:Binds X.K l ps []) (u:PA X (e::es) (uQ X.K E fs)) (c:(x==("__debug__":Str))=false:=by decide) (he:starEach (e::es) X.env=(false,eval e X.env)::starEach es X.env:=by rfl)(kI:(backTo pos (starEach es X.env)).any (·.1)=false:=by rfl):PE X (.Call (.Name x p) (e::es) [] pos) (tD X.K E (aa fs (ah n h))):=
 bJ (BA j m q r s t .nil G.passes u c he kI) λB H Q d=>by obtain⟨C,I,N,F,S,o⟩:=d;rw[cM]at o;exact jP S o λP R T F1 _ v Z y z=>by rw[agh];exact RA v y z
def fX(C:Addr)(x:Str)(d:D):M D:=match d with
 | .obj c h i=>if c=C then(match(h.zip i).lookup x with
  |some d=>.ok d
  |none=>ao)else ao
 |_=>ao
theorem aR.look{K}:∀{xs:List Str}{ds:List D}{vs:List V},aR K F ds vs->(xs.zip ds).lookup x=some d->∃v,(xs.zip vs).lookup x=some v/\eW K F d v
 |[],_,_,_,h=>by simp at h
 |y::c,[],vs,_,h=>by simp at h
 |y::c,k::ds,vs,⟨v,r,e,i,j⟩,h=>by
  subst e;rw[aiI,agM]at h|-;cases q:x==y with
  |true=>rw[q]at h;injection h with h;subst h;exact⟨v,rfl,i⟩
  |false=>rw[q]at h;exact aR.look j h
theorem Yx(c:vj X.K C)(n:aZ X.K C x)(w:PE X a (tD X.K E f))(y:attributeBase a x X.env (eval a X.env)=eval a X.env:=by rfl):PE X (.Attribute a x pos) (tD X.K E λρ=>f ρ>>=fX C x):=
 bJ (LO w y) λP H Q j=>by
  obtain⟨R,T,ρ,F,S,o⟩:=j;rw[cM]at o;refine fH S o λd v m F1 _ r W z h=>?_
  cases d with
  |obj k s t=>
   have h:aH E m (if k=C then(match(s.zip t).lookup x with|some d=>(.ok d:M D)|none=>ao)else ao) _:=h
   by_cases l:k=C
   have i:=h;rw[afz l]at i;clear h;subst l;obtain⟨p,A,Z,e1,B,e3,G⟩:=z;cases q:(s.zip t).lookup x with|none=>rw[q]at i;exact i.elim|some d=>rw[q]at i;obtain⟨u,I,N⟩:=aR.look G q;exact⟨p,k,A,_,u,e1,r.sub _ _ B,c,n,I,i u m F1 r N⟩
   rw[afy l]at h;exact h.elim
  |_=>exact h.elim
def Walk(K:W.Frag)(c:It)(k:Hp)(ds:List D):Prop:=∀H F,bu k F->bu F H->
 (∀i d,ds[i]?=some d->c.go i H/\∀x h,c.yld i H x h->∃j,bx H F h j/\eW K j d x)/\c.stop ds.length H
def LI(K:W.Frag)(E:XK)(c:ak->M (List D)):TI:=λk H R=>∃(l:Hp)(m:su)(d:ak)(F:Hp),SR K l m d k H F/\aH E H (c d) λn=>∀h i j,bx H F i j->Walk K h j n->R h i
def Cm(h:PI X i e t)(k:∀c H Q,t' c H Q->t c H Q):PI X i e t':=λd s c H Q I hw=>h d s c H Q I (k c H Q hw)
theorem Pd{K}{F}{a}{vs:List V}{ds:List D}(h:F a=some (.lst vs))(r:aR K F ds vs):Walk K (Itl K a) F ds:=λH m j k=>by have c:jl K H a vs:=jl.of (k _ _ (j _ _ h));refine⟨λi d e=>?_,vs,c,ahc r.length.symm⟩;obtain⟨v,l,n⟩:=r.get e;refine⟨⟨vs,v,c,l⟩,λx p⟨e1,o⟩=>⟨m,?_,?_⟩⟩;subst e1;exact .refl k;have:=o vs c;rw[l]at this;injection this with this;subst this;exact n.mono j
theorem Vc(k:PE X a (tD X.K E f)):PI X q a (LI X.K E λρ=>f ρ>>=mW):=Cm (Uu k) λr H R c=>by
 obtain⟨s,t,ρ,F,S,o⟩:=c;refine fH S o λd v u F1 _ h w l i=>?_
 cases d with|lst x=>obtain⟨p,m,e1,j,n⟩:=l;exact⟨p,e1,⟨m,jl.of (h.sub _ _ j)⟩,i _ _ _ h (Pd j n)⟩|_=>exact i.elim
def vm(lo:Int)(n:Nat):List D:=(List.range n).map λi=>.int (lo+(i:Nat))
theorem JI{K}{F}{lo:Int}{n:Nat}:Walk K (Itr lo n) F (vm lo n):=λH h l j=>by
 refine⟨λi d e=>?_,?_⟩;unfold vm at e;rw[afF]at e
 by_cases c:i<n
 rw[afV c]at e;have e:D.int (lo+i)=d:=af2 e;subst e;exact⟨c,λx m⟨e1,k⟩=>⟨h,by subst e1;exact .refl j,k⟩⟩;rw[afO (by rw[afN];lia)]at e;cases e;show n<=(vm lo n).length;unfold vm;rw[afB,afN];exact afI n
def small(i:Int):Bool:=decide (-(2^62)<=i)&&decide (i<2^62)
def nX(ds:List D):M (List D):=match ds with
 |[.int j]=>if small j then .ok (vm 0 j.toNat)else ao
 |_=>ao
theorem NC(h:Gl X "range")(i:X.mg "range"=none)(k:PA X [a] (uQ X.K E fs))(hs:starEach [a] X.env=[(false,eval a X.env)]:=by rfl):PI X t (.Call (.Name "range" p) [a] [] pos) (LI X.K E λρ=>fs ρ>>=nX):=
 Cm (OW h i k hs) λu H R d=>by
  obtain⟨w,x,ρ,F,S,o⟩:=d;refine jP S o λl y m F1 _ n z q s=>?_
  match l,q,s with
  |[],_,o=>exact o.elim
  |[.int j],r,o=>
   obtain⟨v,e,e1⟩:=pU r;have e1:v=.int j:=e1;subst e e1;have o:aH E m (if small j then(.ok (vm 0 j.toNat):M (List D))else ao) _:=o
   by_cases c:small j=true
   rw[afz c]at o;unfold small at c;rw[afL]at c;exact⟨j,rfl,age c.1,age c.2,o _ _ _ n JI⟩;rw[afy c]at o;exact o.elim
  |[.cK],_,o=>exact o.elim
  |[.bl _],_,o=>exact o.elim
  |[.lst _],_,o=>exact o.elim
  |[.tup _],_,o=>exact o.elim
  |[.fn _],_,o=>exact o.elim
  |[.obj _ _ _],_,o=>exact o.elim
  |[.arr _],_,o=>exact o.elim
  |a::_::_,_,o=>cases a<;>exact o.elim
theorem RB{K}(r:aR K F [d,d'] vs):∃v c,vs=[v,c]/\eW K F d v/\eW K F d' c:=by obtain⟨v,t,e,h,i⟩:=r;obtain⟨c,j,k⟩:=pU i;subst j;exact⟨v,c,e,h,k⟩
def two(ds:List D):M (D×D):=match ds with|[a,b]=>.ok (a,b)|_=>ao
theorem L0(h:two ds=.ok p):ds=[p.1,p.2]:=by
 match ds,h with
 |[a,b],h=>injection h with h;rw[<-h]
 |[],h=>cases h
 |[_],h=>cases h
 |_::_::_::_,h=>cases h
theorem G0(h:two ds=.error c):c=none:=by
 match ds,h with
 |[a,b],h=>cases h
 |[],h=>injection h with h;exact h.symm
 |[_],h=>injection h with h;exact h.symm
 |_::_::_::_,h=>injection h with h;exact h.symm
def AB(ds:List D):M (List D):=two ds>>=λp=>eO p.1>>=λi=>eO p.2>>=λj=>if small i&&small j then .ok (vm i (j-i).toNat)else ao
theorem Vd(m:Gl X "range")(n:X.mg "range"=none)(r:PA X [a,b] (uQ X.K E fs))(hs:starEach [a,b] X.env=[(false,eval a X.env),(false,eval b X.env)]:=by rfl)(k:starEach [b] X.env=[(false,eval b X.env)]:=by rfl):
  PI X G (.Call (.Name "range" p) [a,b] [] pos) (LI X.K E λρ=>fs ρ>>=AB):=
 Cm (OX m n r hs k) λI H R l=>by
  obtain⟨N,P,ρ,F,S,o⟩:=l;refine jP S o λs Q t F1 _ u T w d=>?_
  unfold AB at d;cases q:two s with
  |error c=>rw[q,G0 q]at d;exact d.elim
  |ok p=>
   rw[q]at d;have e:=L0 q;obtain⟨x,y⟩:=p;subst e;obtain⟨v,z,e,A,B⟩:=RB w;subst e;cases x with
   |int i=>
    cases y with
    |int j=>
     have e1:v=.int i:=A;have C:z=.int j:=B;subst e1 C;have d:aH E t (if small i&&small j then(.ok (vm i (j-i).toNat):M (List D))else ao) _:=d
     by_cases h:(small i&&small j)=true
     rw[afz h]at d;unfold small at h;rw[afL,afL,afL]at h;exact⟨i,j,rfl,⟨age h.1.1,age h.1.2,age h.2.1,age h.2.2⟩,d _ _ _ u JI⟩;rw[afy h]at d;exact d.elim
    |_=>exact d.elim
   |_=>exact d.elim
def ja:List D->List D->List D|x::c,y::d=>.tup [x,y]::ja c d|_,_=>[]
theorem Fi:∀{xs c:List D}{i:Nat}{d:D},(ja xs c)[i]?=some d->∃x y,xs[i]?=some x/\c[i]?=some y/\d=.tup [x,y]|[],_,_,_,h=>by simp[ja]at h|_::_,[],_,_,h=>by simp[ja]at h|x::xs,y::c,0,d,h=>by simp[ja]at h;exact⟨x,y,rfl,rfl,h.symm⟩|x::xs,y::c,i+1,d,h=>by simp only[ja,List.getElem?_cons_succ]at h;obtain⟨j,k,l,m,n⟩:=Fi h;exact⟨j,k,by simpa using l,by simpa using m,n⟩
theorem pairs_len:∀xs c,xs.length<=(ja xs c).length\/c.length<=(ja xs c).length
 |[],_=>.inl (agQ _)
 |_::_,[]=>.inr (agQ _)
 |x::xs,y::c=>by rcases pairs_len xs c with h|h;exact .inl (aiY h);exact .inr (aiY h)
theorem RC{K}{F}{a b}{vs us:List V}{xs m:List D}(h:F a=some (.lst vs))(r:aR K F xs vs)(h':F b=some (.lst us))(r':aR K F m us):Walk K (Itz K a b) F (ja xs m):=λH S j n=>by have s:jl K H a vs:=jl.of (n _ _ (j _ _ h));have c:jl K H b us:=jl.of (n _ _ (j _ _ h'));refine⟨λi d e=>?_,vs,us,s,c,?_⟩;obtain⟨x,y,e1,A,B⟩:=Fi e;subst B;obtain⟨v,t,C⟩:=r.get e1;obtain⟨u,w,G⟩:=r'.get A;refine⟨⟨vs,us,v,u,s,c,t,w⟩,λz W zz=>?_⟩;obtain⟨T,p,q,I,N,P,Q,R⟩:=zz;have k:=Q vs s;rw[t]at k;injection k with k;have l:=R us c;rw[w]at l;injection l with l;subst k l I P;have g:=bx.laid (o:=.tup [v,u]) n N;exact⟨_,g,T,[v,u],rfl,bh,v,[u],rfl,(C.mono j).mono g.aM,u,[],rfl,(G.mono j).mono g.aM,rfl⟩;rcases pairs_len xs m with q|q;exact .inl (by rw[<-r.length];exact q);exact .inr (by rw[<-r'.length];exact q)
def v5(ds:List D):M (List D):=two ds>>=λp=>mW p.1>>=λc=>mW p.2>>=λd=>.ok (ja c d)
theorem Yy(t:Gl X "zip")(u:X.mg "zip"=none)(w:PA X [a,b] (uQ X.K E fs))(hs:starEach [a,b] X.env=(false,eval a X.env)::starEach [b] X.env:=by rfl)(kI:(backTo pos (starEach [b] X.env)).any (·.1)=false:=by rfl):
  PI X (.Tuple elts P r) (.Call (.Name "zip" p) [a,b] [] pos) (LI X.K E λρ=>fs ρ>>=v5):=
 Cm (XS t u w hs kI) λQ H R i=>by
  obtain⟨T,W,ρ,F,S,o⟩:=i;refine jP S o λz Z H1 F1 _ j S1 A d=>?_
  unfold v5 at d;cases q:two z with
  |error c=>rw[q,G0 q]at d;exact d.elim
  |ok p=>
   rw[q]at d;have e:=L0 q;obtain⟨x,y⟩:=p;subst e;obtain⟨v,v',e,B,C⟩:=RB A;subst e;cases x with
   |lst xs=>
    cases y with|lst ys=>obtain⟨l,G,e1,s,I⟩:=B;obtain⟨N,k,m,h,n⟩:=C;subst e1 m;exact⟨l,N,G,k,rfl,jl.of (j.sub _ _ s),jl.of (j.sub _ _ h),d _ _ _ j (RC s I h n)⟩|_=>exact d.elim
   |_=>exact d.elim
def numbered(n:Nat):List D->List D|[]=>[]|x::c=>.tup [.int (n:Nat),x]::numbered (n+1) c
theorem xo:∀{xs:List D}{n i:Nat}{d:D},(numbered n xs)[i]?=some d->∃x,xs[i]?=some x/\d=.tup [.int ((n+i:Nat):Int),x]|[],_,_,_,h=>by simp[numbered]at h|x::xs,n,0,d,h=>by simp[numbered]at h;exact⟨x,rfl,h.symm⟩|x::xs,n,i+1,d,h=>by simp only[numbered,List.getElem?_cons_succ]at h;obtain⟨c,j,k⟩:=xo h;exact⟨c,by simpa using j,by rw[k,show n+1+i=n+(i+1)by lia]⟩
theorem xq:∀xs n,(numbered n xs).length=xs.length|[],_=>rfl|x::xs,n=>by simp[numbered,xq xs]
theorem Pe{K}{F}{a}{vs:List V}{xs:List D}(h:F a=some (.lst vs))(r:aR K F xs vs):Walk K (Ite K a) F (numbered 0 xs):=λH y k l=>by have j:jl K H a vs:=jl.of (l _ _ (k _ _ h));refine⟨λi d e=>?_,vs,j,by rw[xq,r.length];exact afI _⟩;obtain⟨x,e1,m⟩:=xo e;rw[agG]at m;subst m;obtain⟨v,n,q⟩:=r.get e1;refine⟨⟨vs,v,j,n⟩,λz A⟨T,p,s,t,u,w⟩=>?_⟩;have c:=w vs j;rw[n]at c;injection c with c;subst c s u;have g:=bx.laid (o:=.tup [.int (i:Nat),v]) l t;exact⟨_,g,T,_,rfl,bh,_,_,rfl,rfl,v,[],rfl,(q.mono k).mono g.aM,rfl⟩
def jQ(ds:List D):M (List D):=match ds with|[.lst l]=>.ok (numbered 0 l)|_=>ao
theorem Ve(j:Gl X "enumerate")(k:X.mg "enumerate"=none)(m:PA X [a] (uQ X.K E fs))(hs:starEach [a] X.env=[(false,eval a X.env)]:=by rfl):PI X (.Tuple elts x d) (.Call (.Name "enumerate" p) [a] [] pos) (LI X.K E λρ=>fs ρ>>=jQ):=
 Cm (UT j k m hs) λy H R c=>by
  obtain⟨z,A,ρ,F,S,o⟩:=c;refine jP S o λn B C F1 _ h G s t=>?_
  match n,s,t with
  |[],_,o=>exact o.elim
  |[.lst l],r,o=>obtain⟨v,e,q,u,e1,i,w⟩:=pU r;subst e e1;exact⟨q,u,rfl,jl.of (h.sub _ _ i),o _ _ _ h (Pe i w)⟩
  |[.cK],_,o=>exact o.elim
  |[.bl _],_,o=>exact o.elim
  |[.int _],_,o=>exact o.elim
  |[.tup _],_,o=>exact o.elim
  |[.fn _],_,o=>exact o.elim
  |[.obj _ _ _],_,o=>exact o.elim
  |[.arr _],_,o=>exact o.elim
  |a::_::_,_,o=>cases a<;>exact o.elim
end
theorem cZ{b}{l:List b}{i j}{x y}(h:(l.set i x)[j]?=some y):(j=i/\y=x/\i<l.length)\/(j≠i/\l[j]?=some y):=by
 by_cases e:i=j
 subst e
 by_cases a:i<l.length
 rw[afK a]at h;injection h with h;exact .inl ⟨rfl,h.symm,a⟩;rw[afO (by rw[afZ];lia)]at h;cases h;rw[afD e]at h;exact .inr ⟨λq=>e q.symm,h⟩
theorem SR.set{K}{l}{m}{ρ}{n:St}{H F:Hp}(S:SR K l m ρ n H F)(i){d:D}{v:V}(r:eW K F d v)(t:i≠0):SR K l m (ρ.set i (~~~d)) (n.set i (some v)) H F where
 gr:=S.gr
 pin:=λw e=>by rw[afD t];exact S.pin w e
 len:=by rw[afZ,afZ];exact S.len
 J:=λj A e=>by rcases cZ e with⟨rfl,b,B⟩|⟨g,b⟩;injection b with b;injection b with b;subst b;exact⟨v,afK (by rw[<-S.len];exact B),r⟩;obtain⟨u,c,f⟩:=S.J j A b;exact⟨u,by rw[afD (λq=>g q.symm)];exact c,f⟩
 mine:=λj x e o=>by rcases cZ e with⟨_,b,_⟩|⟨g,b⟩;injection b with b;subst b;cases o;obtain⟨a,c,f⟩:=S.mine j x b o;exact⟨a,by rw[afD (λq=>g q.symm)];exact c,f⟩
 ne:=λj k x y a h e1 p b s c f=>by rcases cZ e1 with⟨_,z,_⟩|⟨g,C⟩;injection z with z;subst z;cases p;rcases cZ b with⟨_,z,_⟩|⟨E,G⟩;injection z with z;subst z;cases s;rw[afD (λq=>g q.symm)]at c;rw[afD (λq=>E q.symm)]at f;exact S.ne j k x y a h C p G s c f
def iK(ρ:ak):List Nat->ak|[]=>ρ|v::a=>(iK ρ a).set v none
theorem mY{ρ}{i}{x}:∀{vs:List Nat},(iK ρ vs)[i]?=some (some x)->ρ[i]?=some (some x)/\i∉vs
 |[],h=>⟨h,by simp⟩
 |v::vs,h=>by rcases cZ h with⟨_,z,_⟩|⟨a,z⟩;cases z;obtain⟨b,c⟩:=mY z;exact⟨b,by simp only[List.mem_cons,not_or];exact⟨a,c⟩⟩
theorem jR:∀{vs:List Nat},i∉vs->(ig a vs)[i]?=a[i]?|[],_=>rfl|v::vs,h=>by simp only[List.mem_cons,not_or]at h;show((ig a vs).set v none)[i]?=_;rw[afD (λq=>h.1 q.symm)];exact jR h.2
theorem xr(ρ):∀vs,(iK ρ vs).length=ρ.length|[]=>rfl|v::vs=>by unfold iK;rw[afZ,xr ρ vs]
theorem SR.ig{K}(S:SR K g h ρ k H F)(vs)(l:0∉vs):SR K g h (iK ρ vs) (L2.ig k vs) H F where
 gr:=S.gr
 pin:=λw e=>by rw[jR l];exact S.pin w e
 len:=by rw[xr,b5];exact S.len
 J:=λi d e=>by obtain⟨b,c⟩:=mY e;rw[jR c];exact S.J i d b
 mine:=λi d e m=>by obtain⟨b,c⟩:=mY e;rw[jR c];exact S.mine i d b m
 ne:=λi j x y a f e1 n o p b c=>by obtain⟨q,r⟩:=mY e1;obtain⟨b1,s⟩:=mY o;rw[jR r]at b;rw[jR s]at c;exact S.ne i j x y a f q n b1 p b c
abbrev QF:=D->ak->Option ak
def WT(K:W.Frag)(g:TG)(t:QF)(is:List Nat):Prop:=∀(f:Hp)h(j:ak)(c:St)(H F:Hp)(d:D)(v:V)Q(b:ak),SR K f h j c H F->eW K F d v->t d j=some b->
 (∀a,SR K f h b a H F->(∀e,(∀i∈is,i∈e)->ig a e=ig c e)->Q a H)->g v c H Q
def aI(i:Nat):QF:=λd a=>some (a.set i (~~~d))
theorem Cn:∀{vs:List Nat},i∈vs->ig (k.set i x) vs=ig k vs
 |[],h=>by cases h
 |v::vs,h=>by
  show(ig (k.set i x) vs).set v none=(ig k vs).set v none
  by_cases e:i∈vs
  rw[Cn e];have ev:v=i:=by rcases afU.mp h with q|q;exact q.symm;exact absurd q e
  subst ev;refine agm λj=>?_
  by_cases l:v=j
  subst l
  by_cases c:v<k.length
  rw[afK (by rw[b5,afZ];exact c),afK (by rw[b5];exact c)];rw[afO (by rw[afZ,b5,afZ];lia),afO (by rw[afZ,b5];lia)];rw[afD l,afD l]
  by_cases n:j∈vs
  --both r b there
  have o:∀d a,d.length=a.length->∀f,j∈f->(ig d f)[j]?=(ig a f)[j]?:=λd a c f=>by
   induction f with
   |nil=>intro q;cases q
   |cons u p s=>
    intro q;show((ig d p).set u none)[j]?=((ig a p).set u none)[j]?
    by_cases m:u=j
    subst m
    by_cases g:u<d.length
    rw[afK (by rw[b5];exact g),afK (by rw[b5,<-c];exact g)];rw[afO (by rw[afZ,b5];lia),afO (by rw[afZ,b5,<-c];lia)];rw[afD m,afD m];exact s ((afU.mp q).resolve_left λz=>m z.symm)
  exact o _ _ (afZ ..) vs n;rw[jR n,jR n,afD l]
theorem xu{K}(i)(a:i≠0:=by decide):WT K (vt i) (aI i) [i]:=λf g j k H F d v Q b S r e h=>by injection e with e;subst e;exact h _ (S.set i r a) λl c=>Cn (c i (by simp))
def jS:List Nat->List D->ak->Option ak|[],[],a=>some a|i::b,d::c,a=>jS b c (a.set i (~~~d))|_,_,_=>none
def G1:List Nat->ZM|[]=>aao|i::a=>WI (vt i) (G1 a)
def b4(is:List Nat):QF:=λd a=>match d with| .tup b=>jS is b a|_=>none
theorem Co:∀{is:List Nat}{ds:List D}{ρ ρ':ak},jS is ds ρ=some ρ'->ds.length=is.length
 |[],[],_,_,_=>rfl
 |i::is,d::ds,ρ,ρ',h=>by simp[Co (is:=is) (ds:=ds) h]
 |[],_::_,_,_,h=>by cases h
 |_::_,[],_,_,h=>by cases h
theorem Fj{K}:∀is,0∉is->∀(c:Hp)(f:su)(ρ:ak)(b:St)(H F:Hp)ds(vs:List V)Q(ρ':ak),SR K c f ρ b H F->aR K F ds vs->jS is ds ρ=some ρ'->(∀a,SR K c f ρ' a H F->(∀g,(∀i∈is,i∈g)->ig a g=ig b g)->Q a H)->G1 is vs b H Q
 |[],_,c,f,ρ,b,H,F,[],vs,Q,ρ',S,r,e,h=>by have r:vs=[]:=r;have e:ρ=ρ':=af2 e;subst r e;exact⟨rfl,h b S λ_ _=>rfl⟩
 |i::is,l,c,f,ρ,b,H,F,d::ds,vs,Q,ρ',S,⟨v,t,e1,m,n⟩,e,h=>by
  subst e1;refine⟨v,t,rfl,?_⟩;show G1 is t (b.set i (some v)) H Q;refine Fj is (λz=>l (afA _ z)) c f _ _ H F ds t Q ρ' (S.set i m (λz=>l (by rw[z];exact afH))) n e λa o hw=>h a o λg k=>?_
  rw[hw g λj p=>k j (afA _ p)];exact Cn (k i afH)
 |[],_,_,_,_,_,_,_,_::_,_,_,_,_,_,e,_=>by cases e
 |_::_,_,_,_,_,_,_,_,[],_,_,_,_,_,e,_=>by cases e
theorem xw{K}(is)(g:0∉is:=by decide):WT K (aap K is.length (G1 is)) (b4 is) is:=λi j k l H F d v Q b S r e h=>by
 cases d with
 |tup m=>obtain⟨a,c,e1,n,f⟩:=r;exact⟨a,c,e1,kH.of (S.gr.sub _ _ n),by rw[<-f.length];exact Co e,Fj is g i j k l H F m c Q b S f e h⟩
 |_=>cases e
def WU:Option b->M b|some a=>.ok a|none=>ao
def br(fZ:QF)(c:ak->M Bool)(el:ak->M D)(ρ:ak):List D->List D->M (List D)
 |[],a=>.ok a
 |d::f,a=>WU (fZ d ρ)>>=λe=>c e>>=λb=>if b then(el e>>=λy=>if a.length<sizeLine then br fZ c el ρ f (a++[y])else ao)else br fZ c el ρ f a
def Pf(a:ak->M (List D))(fZ:QF)(b:ak->M Bool)(el:ak->M D)(vs:List Nat):ak->M (List D):=λc=>a c>>=λd=>br fZ b el (iK c vs) d []
def ZR(f:ak->M (List D)):ak->M D:=λa=>f a>>=λout=>.ok (.lst out)
def jM(a:ak->M (List D))(fZ:QF)(b:ak->M Bool)(el:ak->M D)(vs:List Nat):ak->M D:=ZR (Pf a fZ b el vs)
def G2(K:W.Frag)(H F:Hp)(Q:VK)(ds:List D):Prop:=∀p c a b,bx H F a b->H p=none->b p=none->a p=some (.lst c)->aR K b ds c->Q (.ref p) a
def Vf(K:W.Frag)(E:XK)(f:ak->M (List D)):TE:=λb H Q=>∃(c:Hp)(d:su)(a:ak)(F:Hp),SR K c d a b H F/\aH E H (f a) (G2 K H F Q)
section
variable{X:Cx}{E:XK}{pos:Pos}
def bM:ak->M Bool:=λ_=>.ok true
def Vg:QE X [] (mU X.K E bM):=λa s b H Q I⟨c,d,e,F,S,o⟩=>UQ a s b H Q I (o H F (.refl S.gr.sub))
def Vh(h:PT X c (mU X.K E f)):QE X [c] (mU X.K E f):=UR h
theorem JJ{K:W.Frag}(ps:WT K g fZ is)(hc:∀i∈is,i∈vs)(h0:0∉vs):
  ∀σ H Q,Vf K E (Pf xs fZ f el vs) σ H Q->ZP (LI K E xs) g (mU K E f) (tD K E el) vs σ H Q:=λσ H Q ns=>by
 obtain⟨H0,F0,l,F,S,o⟩:=ns;have o:aH E H (xs l>>=λc=>br fZ f el (iK l vs) c []) (G2 K H F Q):=o;refine⟨H0,F0,l,F,S,o.bind.imp (.refl _) λc e q Jq Z F1 B wk=>?_⟩;intro s N
 let Iv:Nat->Hp->Prop:=λi P=>∃(R:Hp)(bY:List D)(w:List V),P s=some (.lst w)/\R s=none/\aR K R bY w/\SR K H0 F0 (iK l vs) (ig σ vs) P R/\bu Z P/\bu F1 R/\(∀b,R b≠none->F1 b≠none\/Z b=none)/\
  aH E Z (br fZ f el (iK l vs) (c.drop i) bY) (G2 K H F Q)
 refine⟨λi m P=>m=c.length-i/\i<=c.length/\Iv i P,⟨c.length,by simp,agQ _,F1,[],[],bh,?_,rfl,?_,?_,.refl _,λb z=>.inl z,?_⟩,?_⟩;cases z:F1 s with
 |none=>rfl
 |some u=>rw[B.sub _ _ z]at N;cases N
 exact(((S.grow B).ig vs h0).grow (bx.JG B.sub N));exact(bx.JG (F:=F1) (o:=.lst []) B.sub N).same;exact q.imp B.same λd _ z=>z
 rintro i m P ⟨rfl,hi,R,bY,w,h1,h2,h3,h4,h5,h6,h7,h⟩;obtain⟨e2,wstop⟩:=wk P R h6 h4.gr.sub
 by_cases n:i<c.length
 refine .inr ?_;have hd:c[i]?=some c[i]:=afE n;obtain⟨go,yl⟩:=e2 i c[i] hd;have ok:c.drop i=c[i]::c.drop (i+1):=ahj n;rw[ok]at h;refine⟨go,λH'=>Iv (i+1) H',λH' z=>⟨c.length-(i+1),by omega,rfl,n,z⟩,λx H' y=>?_⟩;obtain⟨F3,p,r3⟩:=yl x H' y;have h:aH E Z (WU (fZ c[i] (iK l vs))>>=λk=>(f k>>=λb=>if b then(el k>>=λy=>if bY.length<sizeLine then br fZ f el (iK l vs) (c.drop (i+1)) (bY++[y])else ao)else br fZ f el (iK l vs) (c.drop (i+1)) bY)) (G2 K H F Q):=by exact h
 cases qt:fZ c[i] (iK l vs)with
 |none=>rw[qt]at h;exact h.elim
 |some k=>
  rw[qt]at h;have S3:=h4.grow p;have n3:F3 s=none:=p.jN h2 (by rw[h1];simp);refine ps H0 F0 _ _ H' F3 c[i] x _ k S3 r3 qt λmg S4 hw=>⟨?_,?_⟩
  rw[hw vs hc];refine agm λj=>?_
  by_cases hj:j∈vs
  have ha:∀(τ C:St),τ.length=C.length->∀ws:List Nat,j∈ws->(ig τ ws)[j]?=(ig C ws)[j]?:=λτ C hl ws=>by
   induction ws with
   |nil=>intro q;cases q
   |cons u w ih=>
    intro q;show((ig τ w).set u none)[j]?=((ig C w).set u none)[j]?
    by_cases eu:u=j
    subst eu
    by_cases n:u<τ.length
    rw[afK (by rw[b5];exact n),afK (by rw[b5,<-hl];exact n)];rw[afO (by rw[afZ,b5];omega),afO (by rw[afZ,b5,<-hl];omega)];rw[afD eu,afD eu];exact ih ((afU.mp q).resolve_left λz=>eu z.symm)
  exact ha _ _ (b5 ..) vs hj;rw[jR hj];have h:aH E Z ((f k>>=λb=>if b then(el k>>=λy=>if bY.length<sizeLine then br fZ f el (iK l vs) (c.drop (i+1)) (bY++[y])else ao)else br fZ f el (iK l vs) (c.drop (i+1)) bY)) (G2 K H F Q):=h;refine Ci S4 (h.imp (h5.trans p.same) λ_ _ z=>z) λb H4 F4 eb A S5 G=>?_
  rw[eb]at h;have n4:F4 s=none:=A.jN n3 (by rw[p.same _ _ h1];simp);have S6:SR K H0 F0 (iK l vs) (ig σ vs) H4 F4:=S3.grow A;cases b with
  |false=>refine GP ⟨F4,bY,w,(p.trans A).same _ _ h1,n4,h3.mono (p.trans A).aM,S6,h5.trans (p.trans A).same,h6.trans (p.trans A).aM,λb z=>?_,h⟩;rcases(p.trans A).new b z with y|y;exact h7 b y;exact .inr (h5.free y)
  |true=>
   refine GQ ?_;have G:aH E Z ((el k>>=λy=>if bY.length<sizeLine then br fZ f el (iK l vs) (c.drop (i+1)) (bY++[y])else ao)) (G2 K H F Q):=h;refine fH S5 (G.imp (h5.trans (p.trans A).same) λ_ _ z=>z) λy v H5 F5 ey g5 S7 r7 o7=>?_
   rw[ey]at G;have n5:F5 s=none:=g5.jN n4 (by rw[(p.trans A).same _ _ h1];simp);have t:=(p.trans A).trans g5;have G:aH E Z ((if bY.length<sizeLine then br fZ f el (iK l vs) (c.drop (i+1)) (bY++[y])else ao)) (G2 K H F Q):=G;have hz:bY.length<sizeLine:=by
    by_cases hz:bY.length<sizeLine
    exact hz;rw[afy hz]at G;exact G.elim
   rw[afz hz]at G;have hp:=t.same _ _ h1;refine⟨w,hp,by rw[<-h3.length];exact hz,F5,bY++[y],w++[v],bh,n5,(h3.mono t.aM).append (.one r7),?_,?_,h6.trans t.aM,λb z=>?_,?_⟩
   --hs hk item is written into hs list,which is not dF
   have I:=S6.grow g5;refine⟨⟨λb u z=>?_,I.gr.aM,λb u z=>?_,I.gr.new⟩,I.pin,I.len,I.J,λj es z oy=>?_,I.ne⟩;have hb:b≠s:=λr=>by rw[r,(S.gr.trans B).same.free N]at z;cases z
   rw[aK hb];exact I.gr.same _ _ z;have hb:b≠s:=λr=>by subst r;rw[n5]at z;cases z
   rw[aK hb];exact I.gr.sub _ _ z;obtain⟨a,q1,q3,q4,q5⟩:=I.mine j es z oy;have hb:a≠s:=λr=>by obtain⟨a',T,p3,p4,p5⟩:=((S.grow B).ig vs h0).mine j es z oy;obtain⟨u,p2⟩:=p5.some;rw[q1]at T;injection T with T;injection T with T;injection T with T;rw[<-T,r,N]at p2;cases p2
   exact⟨a,q1,q3,q4,q5.mono (aK hb) (.refl _)⟩;intro b u z;have hb:b≠s:=λr=>by subst r;rw[N]at z;cases z
   rw[aK hb];exact t.same _ _ (h5 _ _ z);rcases t.new b z with y|y;exact h7 b y;exact .inr (h5.free y);exact G
 have e:i=c.length:=by omega
 subst e;refine .inl ⟨wstop,?_⟩;rw[aic]at h;have h:G2 K H F Q bY:=h;exact h s w P R (B.trans ⟨h5,h6,h4.gr.sub,h7⟩) (B.same.free N) h2 h1 h3
theorem N_D{K:W.Frag}:∀i H Q,tD K E (ZR f) i H Q->Vf K E f i H Q:=λi H Q j=>by
 obtain⟨n,s,l,F,S,o⟩:=j;rw[cM]at o;have o:aH E H (f l>>=λout=>(.ok (.lst out):M D)) λd=>∀v h a,bx H F h a->eW K a d v->Q v h:=o
 refine⟨n,s,l,F,S,o.bind.imp (.refl _) λt _ q p k h a g w x y r=>?_⟩;have q:∀v h a,bx H F h a->eW K a (.lst t) v->Q v h:=q;have m:bu a (fD a p (.lst k)):=λb u z=>by
  have c:b≠p:=λe=>by rw[e,x]at z;cases z
  rw[aK c];exact z
 refine q _ h (fD a p (.lst k)) ⟨g.same,g.aM.trans m,λb u z=>?_,λb z=>?_⟩ ⟨p,k,rfl,bh,r.mono m⟩
 by_cases c:b=p
 rw[c,bh]at z;rw[c,y];exact z;rw[aK c]at z;exact g.sub _ _ z
 by_cases c:b=p
 rw[c];exact .inr w;rw[aK c]at z;exact g.new b z
theorem ND{K:W.Frag}(b:WT K g fZ is)(c:∀i∈is,i∈vs)(f:0∉vs):
  ∀a H Q,tD K E (jM d fZ e el vs) a H Q->ZP (LI K E d) g (mU K E e) (tD K E el) vs a H Q:=λa H Q h=>JJ b c f a H Q (N_D a H Q h)
theorem WV(G:Good X E)(l:X.N.Nodup)(m:PI X k iter (LI X.K E c))(n:Az X.N X.env.scope scope b)(d:WT X.K g fZ is) (e:∀i∈is,i∈b.map (·.2))(o:∀(s:Shared)(H:Hp)(C:Addr)(cl:List (Str×Addr))(a:List Addr)(xe:afr),Good ((X.lD s H scope (compEnvC scope cl C X.env) a).cI xe) E->PG ((X.lD s H scope (compEnvC scope cl C X.env) a).cI xe) k g)(p:∀(s:Shared)(H:Hp)(C:Addr)(cl:List (Str×Addr))(a:List Addr)(xe:afr),Good ((X.lD s H scope (compEnvC scope cl C X.env) a).cI xe) E->QE ((X.lD s H scope (compEnvC scope cl C X.env) a).cI xe) f (mU X.K E h))(he:∀(s:Shared)(H:Hp)(C:Addr)(cl:List (Str×Addr))(a:List Addr)(xe:afr),Good ((X.lD s H scope (compEnvC scope cl C X.env) a).cI xe) E->PE ((X.lD s H scope (compEnvC scope cl C X.env) a).cI xe) j (tD X.K E el))(hs:∀x,foldedSetIterable iter X.env x=pure x:=by intro _;rfl) (q:0∉b.map (·.2):=by decide):PE X (.ListComp j [⟨k,iter,f,0⟩] scope pos) (tD X.K E (jM c fZ h el (b.map (·.2)))):=
 bJ (XY G l m n o p he hs) (ND d e q)
end
inductive Fl where
 |nx (ρ:ak)|rt (d:D) (ρ:ak)|bk (ρ:ak)|ct (ρ:ak)
def zh(K:W.Frag)(E:XK)(c:Hp)(e:su)(B:Hp)(m:M Fl)(Z:BZ):Prop:=aH E c m λf=>match f with| .nx b=>∀a H F,SR K c e b a H F->bu B F->Z.nx a H| .rt d b=>∀v a H F,SR K c e b a H F->eW K F d v->Z.rt v H| .bk b=>∀a H F,SR K c e b a H F->bu B F->Z.bk a H| .ct b=>∀a H F,SR K c e b a H F->bu B F->Z.ct a H
theorem zh.grow{K}(o:zh K E c e B m Z)(s:bu B f):zh K E c e f m Z:=aH.imp o (.refl _) λg _ q=>by
 cases g with|nx b=>exactλa H F S t=>q a H F S (s.trans t)|rt d b=>exact q|bk b=>exactλa H F S t=>q a H F S (s.trans t)|ct b=>exactλa H F S t=>q a H F S (s.trans t)
def gx(K:W.Frag)(E:XK)(f:ak->M Fl):TS:=λZ d H=>∃(a:Hp)(b:su)(c:ak)(F:Hp),SR K a b c d H F/\zh K E a b F (f c) Z
section
variable{X:Cx}{E:XK}{pos:Pos}{st:Stmt}{sts:List Stmt}{f g:ak->M Fl}
def dG{t t'}(h:PS X st t)(k:∀Z a H,t' Z a H->t Z a H):PS X st t':=λb s a H Z I hw=>h b s a H Z I (k Z a H hw)
def k6(h:lS X sts t)(k:∀Z a H,t' Z a H->t Z a H):lS X sts t':=λb s a H Z I hw=>h b s a H Z I (k Z a H hw)
def JK(g:ak->M Fl):Fl->M Fl| .nx a=>g a|b=>.ok b
def aq(f g:ak->M Fl):ak->M Fl:=λa=>f a>>=JK g
def bV:ak->M Fl:=λa=>.ok (.nx a)
def Vi:lS X [] (gx X.K E bV):=k6 Ur λZ a H⟨b,c,d,F,S,o⟩=>o a H F S (.refl _)
def BF(h:PS X st (gx X.K E f)):lS X [st] (gx X.K E f):=mj h
theorem Cp(i:PS X st (gx X.K E f))(j:lS X sts (gx X.K E g)):lS X (st::sts) (gx X.K E (aq f g)):=k6 (mT i j) λZ p H b=>by
 obtain⟨c,e,h,F,S,o⟩:=b;refine⟨c,e,h,F,S,aH.imp (aH.bind o) (.refl _) λk _ q=>?_⟩;cases k with|nx a=>exactλl r m n t=>⟨c,e,a,m,n,zh.grow q t⟩|rt d h=>exact q|bk a=>exact q|ct a=>exact q
theorem pV{K}{f}{i:St}{H:Hp}{Q:VK}{a:Hp}{j}{ρ:ak}{F:Hp}(S:SR K a j ρ i H F){l:Type}{k:D->M l}{P}(o:aH E a (f ρ>>=k) P)(h:∀d v b c,f ρ=.ok d->bx H F b c->SR K a j ρ i b c->eW K c d v->aH E a (k d) P->Q v b):tD K E f i H Q:=by have m:=o.bind;refine⟨a,j,ρ,F,S,?_⟩;rw[cM];exact m.imp S.gr.same λd e q v b c g r=>h d v b c e g (S.grow g) r q
theorem L1{K}{f}{j:St}{H:Hp}{Q}{a:Hp}{l:su}{ρ:ak}{F:Hp}(S:SR K a l ρ j H F){m:Type}{k}{P:m->Prop}(o:aH E a (f ρ>>=k) P)(h:∀b c i,f ρ=.ok b->bx H F c i->SR K a l ρ j c i->aH E a (k b) P->Q b c):mU K E f j H Q:=by have n:=o.bind;refine⟨a,l,ρ,F,S,?_⟩;rw[jO];exact n.imp S.gr.same λd e q c i g=>h d c i e g (S.grow g) q
theorem v7{K}{f}{i:St}{H:Hp}{Q}{a:Hp}{j:su}{ρ:ak}{F:Hp}(S:SR K a j ρ i H F){l:Type}{k}{P:l->Prop}(o:aH E a (f ρ>>=k) P)(h:∀d v b c,f ρ=.ok d->bx H F b c->SR K a j ρ i b c->aR K c d v->aH E a (k d) P->Q v b):uQ K E f i H Q:=by have m:=o.bind;refine⟨a,j,ρ,F,S,?_⟩;rw[LZ];exact m.imp S.gr.same λd e q v b c g r=>h d v b c e g (S.grow g) r q
variable{e c:Expr}{es:List Expr}{fe:ak->M D}{fb:ak->M Bool}{fs:ak->M (List D)}
def aU(i:Nat)(f:ak->M D):ak->M Fl:=λa=>f a>>=λd=>.ok (.nx (a.set i (~~~d)))
theorem JL{K:W.Frag}{i:Nat}(b:i≠0):∀Z a H,gx K E (aU i fe) Z a H->OT (tD K E fe) (vt i) Z a H:=λZ a H⟨l,m,n,F,S,o⟩=>
 pV S o λd v h j _ g k r q=>q _ h j (k.set i r b) g.aM
theorem L3(a:X.N.Nodup)(he:PE X e (tD X.K E fe))(b:i≠0:=by decide)(d:X.N[i]?=some x:=by rfl)(h:Loc X.env.scope x:=by walk_at "v")(hs:swapsWith e (some (.Name x pos')) pos.line X.env=pure false:=by rfl)(j:X.fn x=true\/X.env.scope.names.lookup x=some .local:=by walk_at "v"):
  PS X (.Assign [.Name x pos'] e pos) (gx X.K E (aU i fe)):=dG (vU a d h he hs j) (JL b)
theorem JM{i:Nat}{y:Str}{u:Pos}{d p iter:Expr}{j:List Expr}{scope:Scope}{a}{spos:Pos}{l}{g:TG}{fZ:QF}{is:List Nat}{m:ak->M Bool}{el:ak->M D}(G:Good X E)(w:X.N.Nodup)(z:PI X p iter (LI X.K E l)) (A:Az X.N X.env.scope scope a) (q:WT X.K g fZ is) (r:∀i∈is,i∈a.map (·.2))(B:∀(s:Shared)(H:Hp)(C:Addr)(cl:List (Str×Addr))(b:List Addr)(xe:afr),Good ((X.lD s H scope (compEnvC scope cl C X.env) b).cI xe) E->PG ((X.lD s H scope (compEnvC scope cl C X.env) b).cI xe) p g)(F:∀(s:Shared)(H:Hp)(C:Addr)(cl:List (Str×Addr))(b:List Addr)(xe:afr),Good ((X.lD s H scope (compEnvC scope cl C X.env) b).cI xe) E->QE ((X.lD s H scope (compEnvC scope cl C X.env) b).cI xe) j (mU X.K E m))(he:∀(s:Shared)(H:Hp)(C:Addr)(cl:List (Str×Addr))(b:List Addr)(xe:afr),Good ((X.lD s H scope (compEnvC scope cl C X.env) b).cI xe) E->PE ((X.lD s H scope (compEnvC scope cl C X.env) b).cI xe) d (tD X.K E el))(I:X.N[i]?=some y:=by rfl) (o:X.env.scope.names.lookup y=some .local:=by rfl) (P:X.env.scope.kind=.function:=by rfl) (Q:(u.line==pos.line)=true:=by rfl) (R:(scope.names.any λ(n,k)=>n==y&&(k==.local||k==.cell))=false:=by rfl)(hs:∀x,foldedSetIterable iter X.env x=pure x:=by intro _;rfl) (S:i≠0:=by decide) (t:0∉a.map (·.2):=by decide):PS X (.Assign [.Name y u] (.ListComp d [⟨p,iter,j,0⟩] scope pos) spos) (gx X.K E (aU i (jM l fZ m el (a.map (·.2))))):=
 dG (Fg G w I o (Nr P o Q R) z A B F he hs) λZ v H h=>by have T:=JL (K:=X.K) (i:=i) S Z v H h;exact ND q r t v H _ T
theorem SR.setN{K}(S:SR K H0 F0 ρ I H F)(g:bx H F N v)(i)(h0:i≠0)(P:H p=none)(hf:v p=none)(Q:iI K N v p x):SR K H0 F0 (ρ.set i (some x)) (I.set i (some (.ref p))) N v:=by
 have A:=S.grow g;have n:∀(j:Nat)y,ρ[j]?=some (some y)->y.own=true->I[j]?=some (some (.ref p))->False:=λj y e B h=>by obtain⟨a,b,_,_,h4⟩:=S.mine j y e B;obtain⟨o,R⟩:=h4.some;rw[b]at h;injection h with h;injection h with h;injection h with h;rw[h,P]at R;cases R
 refine⟨A.gr,λw e=>by rw[afD h0];exact S.pin w e,by rw[afZ,afZ];exact S.len,λj d e=>?_,λj y e B=>?_,λj k y z a r e1 T W Z b l=>?_⟩;rcases cZ e with⟨_,z,_⟩|⟨m,z⟩;injection z with z;have:=Q.own;rw[<-z]at this;cases this;obtain⟨u,b,l⟩:=A.J j d z;exact⟨u,by rw[afD (λq=>m q.symm)];exact b,l⟩;rcases cZ e with⟨rfl,z,s⟩|⟨m,z⟩;injection z with z;subst z;exact⟨p,afK (by rw[<-S.len];exact s),hf,S.gr.same.free P,Q⟩;obtain⟨a,b,l⟩:=A.mine j y z B;exact⟨a,by rw[afD (λq=>m q.symm)];exact b,l⟩;rcases cZ e1 with⟨rfl,C,s⟩|⟨m,C⟩;rcases cZ W with⟨e3,_,_⟩|⟨G,t⟩;exact absurd e3.symm r;rw[afK (by rw[<-S.len];exact s)]at b;rw[afD (λq=>G q.symm)]at l;injection b with b;injection b with b;injection b with b;subst b;exact n k z t Z l;rcases cZ W with⟨rfl,t,s⟩|⟨G,t⟩;rw[afK (by rw[<-S.len];exact s)]at l;rw[afD (λq=>m q.symm)]at b;injection l with l;injection l with l;injection l with l;subst l;exact n j y C T b;rw[afD (λq=>m q.symm)]at b;rw[afD (λq=>G q.symm)]at l;exact S.ne j k y z a r C T t Z b l
theorem SR.adq{K}(S:SR K b d ρ h H F)(i)(r:aR K F ds vs)(j:i≠0)(a:H p=none):SR K b d (ρ.set i (some (.ow ds))) (h.set i (some (.ref p))) (fD H p (.lst vs)) F:=by
 have k:F p=none:=by
  cases q:F p with
  |none=>rfl
  |some o=>rw[S.gr.sub _ _ q]at a;cases a
 exact S.setN (bx.JG S.gr.sub a) i j a k ⟨vs,bh,r⟩
def xy(i:Nat)(fs:ak->M (List D)):ak->M Fl:=λa=>fs a>>=λb=>if b.length<=sizeLine then .ok (.nx (a.set i (some (.ow b))))else ao
theorem RD{i:Nat}{x}{pos' h}(k:X.N.Nodup)(he:PA X es (uQ X.K E fs))(l:i≠0:=by decide)(m:X.N[i]?=some x:=by rfl)(n:Loc X.env.scope x:=by walk_at "v")(hs:swapsWith (.List es h) (some (.Name x pos')) pos.line X.env=pure false:=by rfl)(q:X.fn x=true\/X.env.scope.names.lookup x=some .local:=by walk_at "v"):
  PS X (.Assign [.Name x pos'] (.List es h) pos) (gx X.K E (xy i fs)):=dG (vU k m n (LR he) hs q) λZ v H b=>by
 obtain⟨w,y,z,F,S,o⟩:=b;refine v7 S o λr A B F1 _ s t j a=>?_
 by_cases d:r.length<=sizeLine
 rw[afz d]at a;exact⟨by rw[<-j.length];exact d,λp u=>a _ _ _ (t.adq i j l u) s.aM⟩;rw[afy d]at a;exact a.elim
def dF:L->L| .ow a=>.J (.lst a)| .ce C b a=>.J (.obj C b a)|x=>x
def bE(i:Nat)(ρ:ak):ak:=match ρ[i]? with|some (some x)=>ρ.set i (some (dF x))|_=>ρ
theorem JN{a}{l:List a}{i}{x}(h:l[i]?=some x):l.set i x=l:=by
 refine agm λj=>?_
 by_cases e:i=j
 subst e;rw[afK (agi.mp h).1,h];rw[afD e]
theorem SR.xB{K}(S:SR K R F0 ρ T H F)(q:ρ[i]?=some (some x))(m:x.own=true):∃a o,T[i]?=some (some (.ref a))/\F a=none/\H a=some o/\R a=none/\iI K H F a x/\bu F (fD F a o)/\SR K R F0 (ρ.set i (some (dF x))) T H (fD F a o):=by
 obtain⟨a,A,W,Z,r⟩:=S.mine i x q m;obtain⟨o,s⟩:=r.some;have fs:bu F (fD F a o):=λb u e=>by
  have l:b≠a:=λz=>by rw[z,W]at e;cases e
  rw[aK l];exact e
 have hl:i<ρ.length:=(agi.mp q).1;refine⟨a,o,A,W,s,Z,r,fs,⟨⟨S.gr.same,S.gr.aM.trans fs,λb u e=>?_,λb z=>?_⟩,S.pin,by rw[afZ];exact S.len,λj d e=>?_,λj y e B=>?_,λj k y z a' G e1 o1 e2 o2 g1 g2=>?_⟩⟩
 by_cases l:b=a
 rw[l,bh]at e;rw[l,s];exact e;rw[aK l]at e;exact S.gr.sub _ _ e
 by_cases l:b=a
 rw[l];exact .inr Z;rw[aK l]at z;exact S.gr.new b z;rcases cZ e with⟨rfl,z,_⟩|⟨I,z⟩;injection z with z;refine⟨_,A,?_⟩;cases x with
 |J d=>cases m
 |ow ds=>injection z with z;subst z;obtain⟨N,h,P⟩:=r;rw[s]at h;injection h with h;subst h;exact⟨a,N,rfl,bh,P.mono fs⟩
 |ce C xs ds=>injection z with z;subst z;obtain⟨dx,N,h,P,k3⟩:=r;rw[s]at h;injection h with h;subst h;exact⟨a,dx,N,rfl,bh,P,k3.mono fs⟩
 obtain⟨v,t,q2⟩:=S.J j d z;exact⟨v,t,q2.mono fs⟩
 ·rcases cZ e with⟨_,z,_⟩|⟨I,z⟩
  ·injection z with z;subst z;cases x<;>first|(cases m;done)|(cases B;done)
  obtain⟨Q,t,q3,q4,q5⟩:=S.mine j y z B;refine⟨Q,t,?_,q4,q5.mono rfl fs⟩;have na:Q≠a:=λw=>by subst w;exact S.ne j i y x Q I z B q m t A
  rw[aK na];exact q3
 ·rcases cZ e1 with⟨_,n,_⟩|⟨I,n⟩
  ·injection n with n;subst n;cases x<;>first|(cases m;done)|(cases o1;done)
  ·rcases cZ e2 with⟨_,p,_⟩|⟨hk,p⟩
   ·injection p with p;subst p;cases x<;>first|(cases m;done)|(cases o2;done)
   exact S.ne j k y z a' G n o1 p o2 g1 g2
theorem SR.bE{K:W.Frag}{b}{h}{ρ}{j:St}{H F:Hp}(S:SR K b h ρ j H F)(i):∃l,SR K b h (bE i ρ) j H l/\bu F l:=by
 unfold DL.bE
 match q:ρ[i]? with|none=>exact⟨F,S,.refl _⟩|some none=>exact⟨F,S,.refl _⟩|some (~~~d)=>exact⟨F,by show SR K b h (ρ.set i (~~~d)) j H F;rw[JN q];exact S,.refl _⟩|some (some (.ow m))=>obtain⟨a,o,_,_,_,_,_,fs,k⟩:=S.xB q rfl;exact⟨_,k,fs⟩|some (some (.ce C n m))=>obtain⟨a,o,_,_,_,_,_,fs,k⟩:=S.xB q rfl;exact⟨_,k,fs⟩
theorem v8(i:Nat)(h:lS X sts (gx X.K E f)):lS X sts (gx X.K E λρ=>f (bE i ρ)):=k6 h λZ l H a=>by obtain⟨b,d,ρ,F,S,o⟩:=a;obtain⟨j,k,fs⟩:=S.bE i;exact⟨b,d,_,j,k,zh.grow o fs⟩
def xC(H:Hp)(a:Addr):Hp:=λb=>if b=a then none else H b
def jx(h:b≠a):xC H a b=H b:=afy h
def iL:xC H a a=none:=afz rfl
theorem sJ(h:xC H a b=some u):b≠a/\H b=some u:=by
 by_cases e:b=a
 rw[e,iL]at h;cases h;rw[jx e]at h;exact⟨e,h⟩
def NF:bu (xC H a) H:=λb u e=>(sJ e).2
theorem SR.put{K}(S:SR K H0 F0 ρ R H F)(q:ρ[i]?=some (some x))(B:x.own=true)(h:R[i]?=some (some (.ref a)))(g:bx (xC H a) F C G)(T:G a=none)(W:iI K C G a y):SR K H0 F0 (ρ.set i (some y)) R C G:=by
 obtain⟨l,I,h3,Z,h5⟩:=S.mine i x q B;have ea:l=a:=by rw[I]at h;injection h with h;injection h with h;injection h with h
 subst ea;have out:∀b,b≠l->xC H l b=H b:=λb n=>jx n
 have hS:∀b u,b≠l->H b=some u->C b=some u:=λb u n e=>g.same b u ((out b n).trans e)
 have o:∀{j:Nat}{z:L},(ρ.set i (some y))[j]?=some (some z)->z.own=true->∃p,ρ[j]?=some (some p)/\p.own=true:=λ{j z}e r=>by rcases cZ e with⟨rfl,_,_⟩|⟨_,w⟩;exact⟨x,q,B⟩;exact⟨z,w,r⟩
 refine⟨⟨λb u e=>?_,S.gr.aM.trans g.aM,g.sub,λb z=>?_⟩,S.pin,by rw[afZ];exact S.len,λj d e=>?_,λj z e r=>?_,λj k z w m N e1 o1 e2 o2 g1 g2=>?_⟩;exact hS b u (λz=>by rw[z,Z]at e;cases e) (S.gr.same _ _ e)
 by_cases n:b=l
 rw[n]at z;exact absurd T z;rcases g.new b z with w|w;exact S.gr.new b w;exact .inr (S.gr.same.free ((out b n).symm.trans w));rcases cZ e with⟨_,z,_⟩|⟨hj,z⟩;injection z with z;have:=W.own;rw[<-z]at this;cases this;obtain⟨v,s,q2⟩:=S.J j d z;exact⟨v,s,q2.mono g.aM⟩;rcases cZ e with⟨rfl,w,_⟩|⟨hj,w⟩;injection w with w;subst w;exact⟨l,I,T,Z,W⟩;obtain⟨m,s,q3,q4,q5⟩:=S.mine j z w r;have na:m≠l:=λt=>by subst t;exact S.ne j i z x m hj w r q B s I
 obtain⟨u,A⟩:=q5.some;refine⟨m,s,?_,q4,q5.mono ((hS m u na A).trans A.symm) g.aM⟩;exact g.jN q3 (λw=>by rw[(out m na).symm.trans w]at A;cases A);obtain⟨p,z1,P⟩:=o e1 o1;obtain⟨w',z2,Q⟩:=o e2 o2;exact S.ne j k p w' m N z1 P z2 Q g1 g2
theorem bx.hole(s:bu F H)(h:F a=none):bx (xC H a) F (fD H a o) F where
 same:=λb u e=>by obtain⟨d,e⟩:=sJ e;rw[aK d];exact e
 aM:=.refl _
 sub:=λb u e=>by
  have d:b≠a:=λz=>by rw[z,h]at e;cases e
  rw[aK d];exact s _ _ e
 new:=λb z=>.inl z
theorem SR.write{K}{h:Hp}{j}{ρ:ak}{d:St}{H F:Hp}(S:SR K h j ρ d H F){i:Nat}{ds es:List D}{us}{a}(q:ρ[i]?=some (some (.ow ds)))(b:d[i]?=some (some (.ref a)))(r:aR K F es us):SR K h j (ρ.set i (some (.ow es))) d (fD H a (.lst us)) F:=by
 obtain⟨m,o,k,p,l,s,t⟩:=S.ow i ds q;have n:m=a:=by rw[k]at b;injection b with b;injection b with b;injection b with b
 subst n;exact S.put q rfl k (bx.hole S.gr.sub l) l ⟨us,bh,r⟩
def ownOf(i:Nat)(ρ:ak):M (List D):=match ρ[i]? with|some (some (.ow a))=>.ok a|_=>ao
theorem RE(h:ownOf i ρ=.ok ds):ρ[i]?=some (some (.ow ds)):=by
 unfold ownOf at h
 match q:ρ[i]?,h with
 |some (some (.ow es)),h=>injection h with h;rw[h]
 |some (~~~es),h=>cases h
 |some (some (.ce _ _ _)),h=>cases h
 |some none,h=>cases h
 |none,h=>cases h
theorem RG{i:Nat}{ρ}{c:Option Addr}(h:ownOf i ρ=.error c):c=none:=by
 unfold ownOf at h
 match q:ρ[i]?,h with
 |some (some (.ow es)),h=>cases h
 |some (~~~es),h=>injection h with h;exact h.symm
 |some (some (.ce _ _ _)),h=>injection h with h;exact h.symm
 |some none,h=>injection h with h;exact h.symm
 |none,h=>injection h with h;exact h.symm
theorem v9{i}{ρ}{a}{H:Hp}{k:List D->M a}{P:a->Prop}(o:aH E H (ownOf i ρ>>=k) P):∃ds,ρ[i]?=some (some (.ow ds))/\aH E H (k ds) P:=by
 cases q:ownOf i ρ with|error c=>rw[q,RG q]at o;exact o.elim|ok ds=>rw[q]at o;exact⟨ds,RE q,o⟩
def sL(i:Nat)(f:ak->M D):ak->M Fl:=λa=>ownOf i a>>=λb=>f a>>=λd=>if b.length<sizeLine then .ok (.nx (a.set i (some (.ow (b++[d])))))else ao
theorem RH{i:Nat}{x:Str}{h m j}(he:PE X e (tD X.K E fe))(A:X.N[i]?=some x:=by rfl)(B:Av X.env.scope x:=by walk_at "v")(C:(x==("__debug__":Str))=false:=by decide)(n:(x==("__classdict__":Str))=false:=by decide)(k:starEach [e] X.env=[(false,eval e X.env)]:=by rfl) (hs:swapsWith (.Call (.Attribute (.Name x h) "append" m) [e] [] j) none pos.line X.env=pure false:=by rfl)(l5:attributeBase (.Name x h) "append" X.env (eval (.Name x h) X.env)=eval (.Name x h) X.env:=by rfl)(hfew:((backTo j (starEach [e] X.env)).all (λx=>!x.1)&&(backToKw j (keywordEach [] X.env)).all (λx=>x.1.isSome)&&decide ([e].length+([]:List Keyword).length+(if([]:List Keyword).isEmpty then 0 else 1)<30))=true:=by rfl)(n9:(m.endLine==j.line)=true:=by rfl):PS X (.Expr (.Call (.Attribute (.Name x h) "append" m) [e] [] j) pos) (gx X.K E (sL i fe)):=by
 refine dG (uN (Rj aht ah3 ah4 Fb (f6 A B C n) (iA he qy k) (l5:=l5) (hfew:=hfew) (n9:=n9) (hs:=k) (hplain:=rfl)) hs) λZ G H p=>?_
 obtain⟨H0,F0,ρ,F,S,o⟩:=p;obtain⟨s,q,o⟩:=v9 o;obtain⟨a,I,b,P,h3,h4,h5⟩:=S.ow i s q;refine⟨_,b,.inl ⟨rfl,I,jl.of P⟩,pV S o λd v H' Q _ R w r l=>?_⟩;obtain⟨T,t,y,W,k3,k4,z⟩:=w.ow i s q;rw[y]at b;injection b with b;injection b with b;injection b with b;subst b
 by_cases u:s.length<sizeLine
 rw[afz u]at l;exact⟨T,t,v,rfl,rfl,W,by rw[<-z.length];exact u,l G _ Q (w.write q y (z.append (.one r))) R.aM⟩;rw[afy u]at l;exact l.elim
def bF(f:ak->M D):ak->M Fl:=λa=>f a>>=λd=>.ok (.rt d a)
theorem G3(he:PE X e (tD X.K E fe)):PS X (.Return (some e) pos) (gx X.K E (bF fe)):=dG (vS he) λZ a H⟨j,k,l,F,S,o⟩=>pV S o λd v b h _ _ i r q=>q v a b h i r
def dH(c:ak->M Bool)(f g:ak->M Fl):ak->M Fl:=λa=>c a>>=λb=>if b then f a else g a
theorem WW{a b:List Stmt}(m:PT X c (mU X.K E fb))(n:lS X a (gx X.K E f))(p:lS X b (gx X.K E g)):PS X (.If c a b pos) (gx X.K E (dH fb f g)):=dG (aal m n p) λZ r H⟨d,h,i,F,S,o⟩=>
 L1 S o λb s j _ k l q=>by
  cases b with|true=>exact GQ ⟨d,h,i,j,l,zh.grow q k.aM⟩|false=>exact GP ⟨d,h,i,j,l,zh.grow q k.aM⟩
theorem RI(G:Good X E)(c:iu X.K C)(d:Gl X x)(h:X.mg x=some (.ref C))(a:(x==("__debug__":Str))=false:=by decide):PS X (.Raise (some (.Call (.Name x i) [] [] b)) none pos) (gx X.K E λ_=>raises C):=
 dG (Rq G c d h a) λZ j H⟨k,l,m,F,S,o⟩=>o H S.gr.same
def Vj:PS X (.Continue pos) (gx X.K E λρ=>.ok (.ct ρ)):=dG Je λZ a H⟨b,d,ρ,F,S,o⟩=>o a H F S (.refl _)
def RJ:PS X (.Break pos) (gx X.K E λρ=>.ok (.bk ρ)):=dG QY λZ a H⟨b,d,ρ,F,S,o⟩=>o a H F S (.refl _)
theorem NG(he:PE X e (tD X.K E fe))(hs:swapsWith e none pos.line X.env=pure false:=by rfl):PS X (.Expr e pos) (gx X.K E λρ=>fe ρ>>=λ_=>.ok (.nx ρ)):=dG (uN he hs) λZ a H⟨k,l,ρ,F,S,o⟩=>pV S o λd v b h _ i j r q=>q a b h j i.aM
def wc(k:ak->M Fl):Fl->M Fl| .nx a=>k a| .ct a=>k a| .bk a=>.ok (.nx a)| .rt d a=>.ok (.rt d a)
def eU(fZ:QF)(body:ak->M Fl):List D->ak->M Fl|[],a=>.ok (.nx a)|d::h,a=>WU (fZ d a)>>=λb=>body b>>=wc (eU fZ body h)
def o4(a:ak->M (List D))(fZ:QF)(body:ak->M Fl):ak->M Fl:=λb=>a b>>=λd=>eU fZ body d b
theorem L4(hp:PassesOwn (model X.prog X.w) X.A X.env X.xe)(hc:X.calm=true)(hi:PI X tg iter (LI X.K E I))(N:WT X.K gt fZ is)(hg:PG X tg gt)(hb:lS X body (gx X.K E f))(hs:∀x,foldedSetIterable iter X.env x=pure x:=by intro _;rfl):PS X (.For tg iter body [] pos) (gx X.K E (o4 I fZ f)):=dG (Xp hp hc hi hg hb hs) λZ σ H P=>by
 obtain⟨p,v,Q,F,S,o⟩:=P;refine⟨p,v,Q,F,S,(aH.bind o).imp S.gr.same λh e q Jq H1 F1 g1 wk=>?_⟩
 let Iv:Nat->St->Hp->Prop:=λi a j=>∃(b:ak)(n:Hp),SR X.K p v b a j n/\bu F1 n/\zh X.K E p v F1 (eU fZ f (h.drop i) b) Z
 refine⟨λi m a j=>m=h.length-i/\i<=h.length/\Iv i a j,⟨h.length,by simp,agQ _,Q,F1,S.grow g1,.refl _,zh.grow q g1.aM⟩,?_⟩;rintro i m B H2 ⟨rfl,hi,r,F2,R,k,l⟩;obtain⟨T,wstop⟩:=wk H2 F2 k R.gr.sub
 by_cases s:i<h.length
 refine .inr ?_;have hd:h[i]?=some h[i]:=afE s;obtain⟨go,yl⟩:=T i h[i] hd;rw[ahj s]at l;have l:zh X.K E p v F1 (WU (fZ h[i] r)>>=λb=>f b>>=wc (eU fZ f (h.drop (i+1)))) Z:=l;refine⟨go,λa j=>Iv (i+1) a j,λa j z=>⟨h.length-(i+1),by omega,rfl,s,z⟩,λx j y=>?_⟩;obtain⟨F3,G,r3⟩:=yl x j y;cases W:fZ h[i] r with
 |none=>rw[W]at l;exact l.elim
 |some u=>
  rw[W]at l;have l:aH E p (f u>>=wc (eU fZ f (h.drop (i+1)))) _:=l;refine N p v r B j F3 h[i] x _ u (R.grow G) r3 W λok S4 _=>⟨p,v,u,F3,S4,?_⟩
  refine(aH.bind l).imp (.refl _) λfl _ z=>?_
  cases fl with|nx b=>exactλa j n C t=>⟨b,n,C,(k.trans G.aM).trans t,z⟩|ct b=>exactλa j n C t=>⟨b,n,C,(k.trans G.aM).trans t,z⟩|bk b=>exactλa j n C t=>z a j n C ((k.trans G.aM).trans t)|rt d Q=>exact z
 have e:i=h.length:=by omega
 subst e;rw[aic]at l;exact .inl ⟨wstop,l B H2 F2 R k⟩
end
set_option maxRecDepth 8000 in
theorem Vk(l)(xs)(n:Nat)(b:Addr)(a)(m:Nat)(dd)(e)(k:¬(!xs.isEmpty&&Builtin.List.listTooLong (xs.size+a.size))=true)(f:xs.size<=sizeLine)(i:xs.size+a.size<=sizeLine+1):
  Meets (Builtin.«list.extend» ⟨[.ref l,.ref b],[]⟩) (λ_ R s=>s.heap.get? l=some {cls:=.type "list",data:=.seq xs n}/\s.heap.get? b=some {cls:=.type "tuple",dict:=dd,data:=.seq a m,slots:=e}/\R (.ok (.ret Value.none)) {s with heap:=s.heap.update l (Obj.mapSeq λx=>x++a)}):=by
 refine .of_wp λprog w A R s h=>?_
 obtain⟨o,g,d,p,os⟩:=s;obtain⟨c,j,h⟩:=h;have k1:=PySem.AutoSeq1.idx_int;have k2:=PySem.AutoSeq1.sub_tuple_tuple;have k3:=PySem.AutoSeq1.sub_list_list;have q:=PySem.AutoSeq1.sub_tuple_list;have k5:=PySem.AutoSeq1.sub_list_tuple;have hz:(xs++a).size<=sizeLine+1:=by rw[Array.size_append];exact i
 wp_walk using(wpAny_updateSeq c rfl (hz:=f) (_hz':=hz)),wpAny_loadPart' c,wpAny_loadPart' j
 exact⟨_,rfl,h⟩
section
variable{X:Cx}{E:XK}{pos:Pos}{st:Stmt}{sts:List Stmt}{f g:ak->M Fl}{e c a b:Expr}{es:List Expr}{fe fa fb:ak->M D}{ft:ak->M Bool}{fs:ak->M (List D)}
def c6(c:ak->M Bool)(body:ak->M Fl):Nat->ak->M Fl
 |0,_=>ao
 |n+1,d=>c d>>=λb=>if b then body d>>=wc (c6 c body n)else .ok (.nx d)
theorem RK(fuel:ak->Nat)(I:PassesOwn (model X.prog X.w) X.A X.env X.xe)(N:PT X c (mU X.K E ft))(P:lS X body (gx X.K E f)):PS X (.While c body [] pos) (gx X.K E λρ=>c6 ft f (fuel ρ) ρ):=
 dG (Jf I N P) λZ W H v=>by
  obtain⟨n,p,ρ,F,S,o⟩:=v;refine⟨λm i l=>∃(h:ak)(j:Hp),SR X.K n p h i l j/\bu F j/\zh X.K E n p F (c6 ft f m h) Z,⟨fuel ρ,ρ,F,S,.refl _,o⟩,?_⟩;rintro m x H2 ⟨k,F2,Q,q,s⟩;cases m with
  |zero=>exact s.elim
  |succ m=>
   have s:aH E n (ft k>>=λb=>if b then f k>>=wc (c6 ft f m)else .ok (.nx k)) _:=s;refine L1 Q s λb R B _ C G u=>?_
   cases b with
   |true=>
    have u:aH E n (f k>>=wc (c6 ft f m)) _:=u;refine GQ ⟨λi l=>∃(h:ak)(j:Hp),SR X.K n p h i l j/\bu F j/\zh X.K E n p F (c6 ft f m h) Z,λi l z=>⟨m,agc m,z⟩,n,p,k,B,G,?_⟩;refine(aH.bind u).imp (.refl _) λT _ z=>?_
    have y:=q.trans C.aM;cases T with|nx h=>exactλi l j r t=>⟨h,j,r,y.trans t,z⟩|ct h=>exactλi l j r t=>⟨h,j,r,y.trans t,z⟩|bk h=>exactλi l j r t=>z i l j r (y.trans t)|rt d ρ=>exact z
   |false=>exact GP (u x R B G (q.trans C.aM))
def aa1:V->List V->Hp->VK->Prop:=λx i H Q=>∃l b d h,x=.ref l/\i=[.ref b]/\H l=some (.lst d)/\H b=some (.tup h)/\d.length+h.length<=sizeLine/\Q .cK (fD H l (.lst (d++h)))
theorem Vl:MtM X "list.extend" aa1:=by
 intro t s Z H x vs v us Q I B C h;obtain⟨l,b,xs,zs,rfl,rfl,w,G,hz,q⟩:=h;cases B;obtain⟨u,rfl,N⟩:=C.one;cases N;obtain⟨z,d,n,r,hl,e⟩:=I.LV w;obtain⟨sr,y,⟨P,R,j,A,k⟩,z2⟩:=I.tuple (kH.of G);have S:=y.length;have m:d.toArray.size+sr.toArray.size<=sizeLine:=by rw[afX,afX];lia
 have i:¬(!d.toArray.isEmpty&&Builtin.List.listTooLong (d.toArray.size+sr.toArray.size))=true:=by rw[B9 m,Bool.and_false];exact afJ
 obtain⟨T,W,o,p⟩:=P;have j:T=.type "tuple":=j;have k:o=.seq sr.toArray A:=k;subst j k;refine aix F.slot_list_extend ⟨_,e,rfl⟩ F.entry_list_extend (F.args_list_extend_2 _ _) (Vk l d.toArray n b sr.toArray A W p i (by rw[afX];lia) (by lia)) ⟨e,R,?_⟩;refine⟨.cK,_,I.XG (t':=s.toks) (its':=d++sr) w e (by simp) (r.append y) ?_,rfl,q⟩;rw[afM]
 lia
def JO:D->M (List D)| .lst d=>.ok d| .tup d=>.ok d|_=>ao
def JP(i:Nat)(f:ak->M D):ak->M Fl:=λh=>ownOf i h>>=λj=>f h>>=λd=>JO d>>=λes=>if j.length+es.length<=sizeLine then .ok (.nx (h.set i (some (.ow (j++es)))))else ao
theorem RM(he:PE X e (tD X.K E fe))(hN:X.N[i]?=some x:=by rfl)(hv:Av X.env.scope x:=by walk_at "v")(hd:(x==("__debug__":Str))=false:=by decide)(z:(x==("__classdict__":Str))=false:=by decide)(n:starEach [e] X.env=[(false,eval e X.env)]:=by rfl) (hs:swapsWith (.Call (.Attribute (.Name x u) "extend" I) [e] [] w) none pos.line X.env=pure false:=by rfl)(l5:attributeBase (.Name x u) "extend" X.env (eval (.Name x u) X.env)=eval (.Name x u) X.env:=by rfl)(hfew:((backTo w (starEach [e] X.env)).all (λx=>!x.1)&&(backToKw w (keywordEach [] X.env)).all (λx=>x.1.isSome)&&decide ([e].length+([]:List Keyword).length+(if([]:List Keyword).isEmpty then 0 else 1)<30))=true:=by rfl)(n9:(I.endLine==w.line)=true:=by rfl):PS X (.Expr (.Call (.Attribute (.Name x u) "extend" I) [e] [] w) pos) (gx X.K E (JP i fe)):=by
 refine dG (uN (Rj aht PySem.F.slot_list_extend PySem.F.type_list_extend (WQ.or O2 Vl) (f6 hN hv hd z) (iA he qy n) (l5:=l5) (hfew:=hfew) (n9:=n9) (hs:=n) (hplain:=rfl)) hs) λZ P H A=>?_
 obtain⟨Q,F0,R,F,S,o⟩:=A;obtain⟨k,q,o⟩:=v9 o;obtain⟨a,vs,j,h2,h3,h4,h5⟩:=S.ow i k q;refine⟨_,j,.inl ⟨rfl,vs,jl.of h2⟩,pV S o λd v H' T _ W p r h=>?_⟩;obtain⟨a',s,B,k2,k3,k4,y⟩:=p.ow i k q;rw[B]at j;injection j with j;injection j with j;injection j with j;subst j;cases d with
 |lst l=>
  have h:aH E Q (if k.length+l.length<=sizeLine then(.ok (.nx (R.set i (some (.ow (k++l))))):M Fl)else ao) _:=h;obtain⟨b,C,e1,G,t⟩:=r
  by_cases m:k.length+l.length<=sizeLine
  rw[afz m]at h;subst e1;exact .inl ⟨a',b,s,C,rfl,rfl,k2,p.gr.sub _ _ G,by rw[<-y.length,<-t.length];exact m,h P _ T (p.write q B (y.append t)) W.aM⟩;rw[afy m]at h;exact h.elim
 |tup l=>
  have h:aH E Q (if k.length+l.length<=sizeLine then(.ok (.nx (R.set i (some (.ow (k++l))))):M Fl)else ao) _:=h;obtain⟨b,C,e1,G,t⟩:=r
  by_cases m:k.length+l.length<=sizeLine
  rw[afz m]at h;subst e1;exact .inr ⟨a',b,s,C,rfl,rfl,k2,p.gr.sub _ _ G,by rw[<-y.length,<-t.length];exact m,h P _ T (p.write q B (y.append t)) W.aM⟩;rw[afy m]at h;exact h.elim
 |_=>exact h.elim
structure Div(X:Cx):Prop where
 seer:X.base.NoSeer
 tree:X.prog.given.tree=none
 depth:X.A.depth+Builtin.pylongFrames<recursionLimit
 head:∃env l,X.stack=env::l/\env.scope.isGenerator=false/\env.scope.isCoroutine=false/\env.builtins=builtinsNs/\env.globals=mainGlobals
theorem Div.room(d:Div X)(I:Inv X aC o H s):PylongRoom (model X.prog X.w) X.A s:=by obtain⟨h,l,i,j,k,m,n⟩:=d.head;have fr:=I.ok.frames;rw[i]at fr;exact PylongRoom.of I.nolimit d.depth (SeerAt.of (d.seer.keeps I.bk) d.tree fr j k m n)
theorem RN(k:Div X):Jh X (binaryOp .FloorDiv) (rI (λ_ j=>j≠0) λi j=>.int (i.fdiv j)):=by intro d s o H x y v u Q I l m h;obtain⟨i,j,rfl,rfl,n,q⟩:=h;obtain⟨t,rfl⟩:=l;obtain⟨p,rfl⟩:=m;exact floordiv_int n ⟨.int (i.fdiv j),H,I.tok _,⟨_,rfl⟩,q⟩ (.inr (k.room I))
theorem Vm(d:Div X)(h:PE X a (tD X.K E fa))(i:PE X b (tD X.K E fb)):PE X (.BinOp a .FloorDiv b pos) (tD X.K E (aL oj fa fb)):=Cf (RN d) U1 h i
def NH(x:D):M D:=eO x>>=λi=>.ok (.int (Builtin.Int.intBits i))
theorem Vn:WQ X "int.bit_length" (λx xs H Q=>∃i,x=.int i/\xs=[]/\Q (.int (Builtin.Int.intBits i)) H):=by intro d s l H x xs v m Q I j k h;obtain⟨i,rfl,rfl,q⟩:=h;obtain⟨t,rfl⟩:=j;cases k;exact call_int_bit_length ⟨.int _,H,I.tok _,⟨_,rfl⟩,q⟩
theorem Vo(k:PE X a (tD X.K E fa))(l5:attributeBase a "bit_length" X.env (eval a X.env)=eval a X.env:=by rfl)(n9:(l.endLine==pos.line)=true:=by rfl):
  PE X (.Call (.Attribute a "bit_length" l) [] [] pos) (tD X.K E λρ=>fa ρ>>=NH):=bJ (XF PySem.F.plainAttrs_int PySem.F.slot_int_bit_length PySem.F.type_int_bit_length Vn k l5 n9) λp H Q h=>by
 obtain⟨q,r,ρ,F,S,o⟩:=h;rw[cM]at o;refine fH S o λd v s F1 _ m t n j=>?_
 cases d with|int i=>have e:v=.int i:=n;subst e;exact⟨rfl,i,rfl,rfl,j _ _ _ m rfl⟩|_=>exact j.elim
end
def ai(n:Nat)(ds:List D):ak:=ds.map (λd=>~~~d)++List.replicate (n-ds.length) none
def L5:Fl->M D| .nx _=>.ok .cK| .rt d _=>.ok d|_=>ao
def aA(a:ak->M Fl)(n:Nat)(ds:List D):M D:=a (ai n ds)>>=L5
theorem xD{K:W.Frag}(s:bu F H)(r:aR K F ds vs):SR K H ⟨F,none⟩ (ai N.length ds) (L2.start N vs) H F:=by
 have b:∀i(x:L),(ai N.length ds)[i]?=some (some x)->∃d,x=.J d/\ds[i]?=some d:=λi x e=>by
  unfold ai at e
  by_cases f:i<ds.length
  rw[agj (by rw[afB];exact f),afF,afE f]at e;injection e with e;injection e with e;exact⟨_,e.symm,afE f⟩;rw[agK (by rw[afB];lia),ahs]at e;split at e<;>cases e
 refine⟨.refl s,(λ_ z=>nomatch z),?_,λi d e=>?_,λi l e g=>?_,λi j l p a _ e g=>?_⟩;unfold ai L2.start;rw[afM,afM,afB,afB,ahA,ahA,r.length];obtain⟨h,c,m⟩:=b i _ e;injection c with c;subst c;obtain⟨v,k,n⟩:=r.get m;refine⟨v,?_,n⟩;unfold L2.start;have o:i<vs.length:=(agi.mp k).1;rw[agj (by rw[afB];exact o),afF,k];rfl;obtain⟨h,c,_⟩:=b i _ e;subst c;cases g;obtain⟨h,c,_⟩:=b i _ e;subst c;cases g
section
variable{P:Program}{w:World}{K:W.Frag}{mg:afs}{base:Heap}
theorem okD{x a:Str}{st}{f:Addr}{n}{N ps}{k:Nat}{p}(F:LX K x a st f n)(S:fj N ps (aP st))(c:∀(b:Value)(A:Around)(aN:List Env)(s:Shared)(H:Hp)(E:XK),cG k (A.deeper (envOfC a (aP st) s.heap.objs.size f b))->
   lS (mq (kB P w) P w K mg base N a (aP st) f b A aN s H E) (gG st) (gx K E p)):eH P w K mg base (kB P w) (k+1) f n ps (Ud K ps.length (aA p N.length)):=by
 refine F.ZQ S (λy H Q E⟨e,t,s,r,u,o⟩=>by rw[<-r.length];exact u) λb A aN s H y Q E z g=>?_
 obtain⟨e,t,B,r,u,o⟩:=g;refine⟨_,c b A aN s H E z,H,⟨e,none⟩,ai N.length t,e,xD B r,?_⟩;rw[cM]at o;refine(aH.bind o).imp (.refl _) λC _ q=>?_
 cases C with|nx h=>exactλi j l m _=>q .cK j l m.gr rfl|rt d h=>exactλv i j l m G=>q v j l m.gr G|bk h=>exact q.elim|ct h=>exact q.elim
theorem div_def{N}{a:Str}{st:Stmt}{ps}{f:Addr}{b:Value}{A:Around}{aN}{s:Shared}{H:Hp}{E:XK}{k:Nat}(S:fj N ps (aP st))(hs:base.NoSeer)(c:P.given.tree=none)(d:cG k (A.deeper (envOfC a (aP st) s.heap.objs.size f b)))(e:40<=k):
  Div (mq (kB P w) P w K mg base N a (aP st) f b A aN s H E):=by
 refine⟨hs,c,?_,_,_,rfl,S.gen,S.co,rfl,rfl⟩;have:=d.dp;show(A.deeper (envOfC a (aP st) s.heap.objs.size f b)).depth+100<recursionLimit
 lia
end
mutual
def Cq:D->Bool| .cK=>true| .bl _=>true| .int _=>true| .tup ds=>NI ds|_=>false
def NI:List D->Bool|[]=>true|d::ds=>Cq d&&NI ds
end
mutual
theorem eW.Cq{K}(e:∀b vs,F b=some (.tup vs)->c b=some (.tup vs)):∀{d:D}{v:V},DL.Cq d=true->eW K F d v->eW K c d v| .cK,_,_,h=>h| .bl _,_,_,h=>h| .int _,_,_,h=>h| .tup ds,v,f,⟨a,vs,g,i,j⟩=>⟨a,vs,g,e _ _ i,aR.Cq e (ds:=ds) f j⟩
theorem aR.Cq{K}(e:∀b vs,F b=some (.tup vs)->c b=some (.tup vs)):∀{ds:List D}{vs:List V},NI ds=true->aR K F ds vs->aR K c ds vs|[],_,_,h=>h|d::ds,_,f,⟨v,r,g,i,j⟩=>by unfold NI at f;rw[afL]at f;exact⟨v,r,g,eW.Cq e f.1 i,aR.Cq e f.2 j⟩
end
theorem bx.bor{K:W.Frag}(g:bx H (fD F a o) d f)(h:F a=none):bx H F d (xC f a)where
 same:=g.same
 aM:=λb u e=>by
  have c:b≠a:=λz=>by rw[z,h]at e;cases e
  rw[jx c];exact g.aM b u (by rw[aK c];exact e)
 sub:=λb u e=>g.sub b u (sJ e).2
 new:=λb z=>by
  have c:b≠a:=λq=>z (by rw[q,iL])
  rw[jx c]at z;rcases g.new b z with w|w;rw[aK c]at w;exact .inl w;exact .inr w
section
variable{X:Cx}{E:XK}{pos:Pos}{st:Stmt}{sts:List Stmt}{f g:ak->M Fl}{e c a b:Expr}{es:List Expr}{fe fa fb:ak->M D}{ft:ak->M Bool}{fs:ak->M (List D)}
def ads(h:PE X e (Vf X.K E fs)):PE X e (tD X.K E (ZR fs)):=bJ h N_D
def qE(i:Nat)(fs:ak->M (List D)):ak->M Fl:=λd=>fs d>>=λh=>.ok (.nx (d.set i (some (.ow h))))
theorem Fo{K:W.Frag}(h:i≠0):∀Z d H,gx K E (qE i fs) Z d H->OT (Vf K E fs) (vt i) Z d H:=λZ d H⟨j,k,l,F,S,o⟩=>
 ⟨j,k,l,F,S,(aH.bind o).imp S.gr.same λw _ q p m n s g t u v r=>q _ n s (S.setN g i h t u ⟨m,v,r⟩) g.aM⟩
theorem G4(d:X.N.Nodup)(he:PE X e (Vf X.K E fs))(h:i≠0:=by decide)(j:X.N[i]?=some x:=by rfl)(k:Loc X.env.scope x:=by walk_at "v")(hs:swapsWith e (some (.Name x pos')) pos.line X.env=pure false:=by rfl)(l:X.fn x=true\/X.env.scope.names.lookup x=some .local:=by walk_at "v"):
  PS X (.Assign [.Name x pos'] e pos) (gx X.K E (qE i fs)):=dG (vU d j k he hs l) (Fo h)
theorem Fp{i:Nat}{y:Str}{w:Pos}{l r iter:Expr}{m:List Expr}{scope:Scope}{d}{spos:Pos}{o}{g:TG}{fZ:QF}{is:List Nat}{p:ak->M Bool}{el:ak->M D}(G:Good X E)(A:X.N.Nodup)(B:PI X r iter (LI X.K E o)) (F:Az X.N X.env.scope scope d) (t:WT X.K g fZ is) (u:∀i∈is,i∈d.map (·.2))(I:∀(s:Shared)(H:Hp)(C:Addr)(cl:List (Str×Addr))(j:List Addr)(xe:afr),Good ((X.lD s H scope (compEnvC scope cl C X.env) j).cI xe) E->PG ((X.lD s H scope (compEnvC scope cl C X.env) j).cI xe) r g)(P:∀(s:Shared)(H:Hp)(C:Addr)(cl:List (Str×Addr))(j:List Addr)(xe:afr),Good ((X.lD s H scope (compEnvC scope cl C X.env) j).cI xe) E->QE ((X.lD s H scope (compEnvC scope cl C X.env) j).cI xe) m (mU X.K E p))(he:∀(s:Shared)(H:Hp)(C:Addr)(cl:List (Str×Addr))(j:List Addr)(xe:afr),Good ((X.lD s H scope (compEnvC scope cl C X.env) j).cI xe) E->PE ((X.lD s H scope (compEnvC scope cl C X.env) j).cI xe) l (tD X.K E el))(Q:X.N[i]?=some y:=by rfl) (q:X.env.scope.names.lookup y=some .local:=by rfl) (R:X.env.scope.kind=.function:=by rfl) (S:(w.line==pos.line)=true:=by rfl) (T:(scope.names.any λ(n,k)=>n==y&&(k==.local||k==.cell))=false:=by rfl)(hs:∀x,foldedSetIterable iter X.env x=pure x:=by intro _;rfl) (W:i≠0:=by decide) (v:0∉d.map (·.2):=by decide):PS X (.Assign [.Name y w] (.ListComp l [⟨r,iter,m,0⟩] scope pos) spos) (gx X.K E (qE i (Pf o fZ p el (d.map (·.2))))):=
 dG (Fg G A Q q (Nr R q S T) B F I P he hs) λZ z H h=>JJ t u v z H _ (Fo (K:=X.K) (i:=i) W Z z H h)
theorem Vp{K}(o:G2 K H F Q ds)(g:bx H F h F1)(d:h p=none)(r:aR K F1 ds us):Q (.ref p) (fD h p (.lst us)):=by
 have i:F1 p=none:=by
  cases q:F1 p with
  |none=>rfl
  |some u=>rw[g.sub _ _ q]at d;cases d
 exact o p us _ F1 (g.trans (bx.JG g.sub d)) (g.same.free d) i bh r
def RO(fa fb:ak->M D):ak->M (List D):=λd=>fa d>>=λx=>fb d>>=λy=>mW x>>=λa=>mW y>>=λb=>if a.length+b.length<=sizeLine then .ok (a++b)else ao
theorem Yz(w:PE X a (tD X.K E fa))(z:PE X b (tD X.K E fb)):PE X (.BinOp a .Add b pos) (Vf X.K E (RO fa fb)):=bJ (Q5 Rk w z) λσ H Q i=>by
 obtain⟨H0,F0,ρ,F,S,o⟩:=i;refine fH S o λx v H1 F1 _ A B C G=>fH B G λy u I F2 _ r s N d=>?_
 cases x with
 |lst j=>
  cases y with
  |lst k=>
   have d:aH E I (if j.length+k.length<=sizeLine then(.ok (j++k):M (List D))else ao) _:=d
   by_cases m:j.length+k.length<=sizeLine
   rw[afz m]at d;obtain⟨l,P,e1,R,t⟩:=C.mono r.aM;obtain⟨T,W,n,q,h⟩:=N;exact⟨l,T,P,W,e1,n,s.gr.sub _ _ R,s.gr.sub _ _ q,by rw[<-t.length,<-h.length];exact m,λp Z=>Vp d (A.trans r) Z (t.append h)⟩;rw[afy m]at d;exact d.elim
  |_=>exact d.elim
 |_=>exact d.elim
def RP(fs:ak->M (List D)):ak->M (List D):=λd=>fs d>>=λh=>match h with|[.lst l]=>.ok l|_=>ao
theorem Vq(i:Gl X "list")(j:X.mg "list"=none)(k:PA X [e] (uQ X.K E fs))(he:starEach [e] X.env=[(false,eval e X.env)]:=by rfl):PE X (.Call (.Name "list" p) [e] [] pos) (Vf X.K E (RP fs)):=
 bJ (zc GN i j (by decide+kernel) k (he:=he) (kI:=rfl)) λy H Q d=>by
  obtain⟨z,A,B,F,S,o⟩:=d;refine jP S o λm C G F1 _ h I n s=>?_
  match m,n,s with
  |[],_,o=>exact o.elim
  |[.lst l],r,o=>obtain⟨v,e,q,t,e1,u,w⟩:=pU r;subst e e1;exact⟨q,t,rfl,.inl (jl.of (h.sub _ _ u)),λp x=>Vp o h x w⟩
  |[.cK],_,o=>exact o.elim
  |[.bl _],_,o=>exact o.elim
  |[.int _],_,o=>exact o.elim
  |[.tup _],_,o=>exact o.elim
  |[.fn _],_,o=>exact o.elim
  |[.obj _ _ _],_,o=>exact o.elim
  |[.arr _],_,o=>exact o.elim
  |a::_::_,_,o=>cases a<;>exact o.elim
def AD(d:D):M D:=if Cq d then .ok d else ao
theorem RQ{d}{a}{o}(h:d a=some o)(i:∀vs,o≠.tup vs):∀b vs,d b=some (.tup vs)->xC d a b=some (.tup vs):=λb vs e=>by
 have j:b≠a:=λz=>by rw[z,h]at e;injection e with e;exact i vs e
 rw[jx j];exact e
theorem iI.YA{K}{H F}{a}{x}{o}(h:iI K H F a x)(e:H a=Option.some o):∀vs,o≠.tup vs:=λvs z=>by
 subst z;cases x with
 |J d=>exact h
 |ow j=>obtain⟨k,i,_⟩:=h;rw[i]at e;cases e
 |ce C l j=>obtain⟨m,k,i,_⟩:=h;rw[i]at e;cases e
theorem xE(i)(ρ):bE i ρ=ρ\/∃x,ρ[i]?=some (some x)/\x.own=true/\bE i ρ=ρ.set i (some (dF x)):=by
 unfold bE
 match q:ρ[i]? with|none=>exact .inl rfl|some none=>exact .inl rfl|some (~~~d)=>exact .inl (JN q)|some (some (.ow h))=>exact .inr ⟨_,rfl,rfl,rfl⟩|some (some (.ce C j h))=>exact .inr ⟨_,rfl,rfl,rfl⟩
theorem YB(i:Nat)(h:PE X e (tD X.K E fe)):PE X e (tD X.K E λρ=>fe (bE i ρ)>>=AD):=bJ h λC H Q m=>by
 obtain⟨n,p,ρ,F,S,o⟩:=m;rw[cM]at o;have o:=o.bind;rcases xE i ρ with z|⟨x,q,s,z⟩;rw[z]at o;refine⟨n,p,ρ,F,S,?_⟩;rw[cM];refine o.imp (.refl _) λd _ w=>?_
 unfold AD at w
 by_cases j:Cq d=true
 rw[afz j]at w;exact w;rw[afy j]at w;exact w.elim;obtain⟨a,u,G,t,y,I,A,N,B⟩:=S.xB q s;rw[z]at o;refine⟨n,p,_,_,B,?_⟩;rw[cM];refine o.imp (.refl _) λd _ w=>?_
 unfold AD at w
 by_cases j:Cq d=true
 rw[afz j]at w;have w:∀v k l,bx H F k l->eW X.K l d v->Q v k:=w;intro v k l g r;refine w v k (xC l a) (g.bor (K:=X.K) t) (eW.Cq ?_ j r);exact RQ (g.aM a u bh) (A.YA y);rw[afy j]at w;exact w.elim
theorem RS(i:Nat)(h:PT X e (mU X.K E ft)):PT X e (mU X.K E λρ=>ft (bE i ρ)):=mV h λt H Q j=>by obtain⟨k,l,ρ,F,S,o⟩:=j;have o:X0 E H F (ft (bE i ρ)) Q:=o;rcases xE i ρ with z|⟨x,q,m,z⟩;rw[z]at o;exact⟨k,l,ρ,F,S,o⟩;obtain⟨a,u,v,n,y,A,B,C,p⟩:=S.xB q m;rw[z,jO]at o;refine⟨k,l,_,_,p,?_⟩;rw[jO];exact o.imp (.refl _) λd _ w r s g=>w r (xC s a) (g.bor (K:=X.K) n)
def RT(i:Nat)(fb:ak->M D):ak->M D:=λd=>ownOf i d>>=λh=>fb d>>=λy=>eO y>>=λk=>l6 h k
theorem Vr(i:Nat)(t:PE X b (tD X.K E fb))(hs:uO b:=by exactλ_ _=>rfl)(v:X.N[i]?=some x:=by rfl)(w:Av X.env.scope x:=by walk_at "v")(A:(x==("__debug__":Str))=false:=by decide)(j:(x==("__classdict__":Str))=false:=by decide):
  PE X (.Subscript (.Name x np) b pos) (tD X.K E (RT i fb)):=bJ (Ju Np (f6 v w A j) t hs) λσ H Q l=>by
 obtain⟨H0,F0,ρ,F,S,o⟩:=l;rw[cM]at o;obtain⟨m,q,o⟩:=v9 o;obtain⟨p,B,C,G,h3,h4,I⟩:=S.ow i m q;refine⟨_,C,fH S o λy u s P _ n S2 R h=>?_⟩;cases y with
 |int k=>
  have h:aH E s (l6 m k) _:=h;have T:u=.int k:=R;unfold l6 at h;cases r:Jt m k with|none=>rw[r]at h;exact h.elim|some d=>rw[r]at h;obtain⟨z,W,Z⟩:=zg I r;exact⟨p,B,k,z,rfl,T,jl.of (n.same _ _ G),W,h z s P n (Z.mono n.aM)⟩
 |_=>exact h.elim
def G5(i:Nat)(fe fb:ak->M D):ak->M Fl:=λh=>fe h>>=λd=>ownOf i h>>=λl=>fb h>>=λy=>eO y>>=λk=>match B6 l.length k with|some j=>.ok (.nx (h.set i (some (.ow (l.set j d)))))|none=>ao
theorem Vs(i:Nat)(he:PE X e (tD X.K E fe))(Q:PE X b (tD X.K E fb))(R:X.N[i]?=some x:=by rfl)(T:Av X.env.scope x:=by walk_at "v")(W:(x==("__debug__":Str))=false:=by decide)(s:(x==("__classdict__":Str))=false:=by decide)(ha:∀v,assign (.Subscript (.Name x m) b sp) X.env v=(do
   let r<-holding [v] (eval (.Name x m) X.env)
   let t<-holding [v,r] (eval b X.env)
   standAt sp
   holding [v,r,t] (setItem r t v)
   release [v,r,t] []):=by intro _;rfl)
  (hs:swapsWithSole [.Subscript (.Name x m) b sp] e pos.line X.env=pure false:=by rfl) (hw:swappedStores [.Subscript (.Name x m) b sp] e X.env=pure none:=by rfl) (h:(assignEach [.Subscript (.Name x m) b sp] X.env).map (·.2)=[assign (.Subscript (.Name x m) b sp) X.env]:=by rfl):
  PS X (.Assign [.Subscript (.Name x m) b sp] e pos) (gx X.K E (G5 i fe fb)):=dG (Q3 he (Q0 (f6 R T W s) Q Jv ha) hs hw h) λZ σ H w=>by
 obtain⟨H0,F0,ρ,F,S,o⟩:=w;refine pV S o λd v H1 F1 _ g1 B r1 o1=>?_
 obtain⟨n,q,o2⟩:=v9 o1;obtain⟨p,vs,h,h2,h3,h4,h5⟩:=B.ow i n q;refine⟨_,h,pV B o2 λy u H2 F2 _ C G r2 l=>?_⟩;obtain⟨p',z,I,k2,k3,k4,P⟩:=G.ow i n q;rw[I]at h;injection h with h;injection h with h;injection h with h;subst h;cases y with
 |int k=>
  have e4:u=.int k:=r2;have l:aH E H0 (match B6 n.length k with|some j=>(.ok (.nx (ρ.set i (some (.ow (n.set j d))))):M Fl)|none=>ao) _:=l;cases A:B6 n.length k with|none=>rw[A]at l;exact l.elim|some j=>rw[A]at l;exact⟨p',z,k,j,rfl,e4,k2,by rw[<-P.length];exact A,l σ _ F2 (G.write q I (aR.set (r1.mono C.aM) j P)) (g1.trans C).aM⟩
 |_=>exact l.elim
end
def LJ(K:W.Frag)(E:XK)(f:ak->M (D×ak)):TE:=λc H Q=>∃(a:Hp)(d:su)(e:ak)(F:Hp),SR K a d e c H F/\aH E a (f e) λp=>∀v g b,SR K a d p.2 c g b->bu F b->eW K b p.1 v->Q v g
def L6(K:W.Frag)(n:Nat)(h:L->List D->M (D×L)):Sp:=λd H Q E=>∃(F:Hp)(p:Addr)(x:L)(args:List D)(a:List V),d=.ref p::a/\iI K H F p x/\F p=none/\bu F H/\aR K F args a/\args.length=n/\
 aH E (xC H p) (h x args) λr=>∀v c b,bx (xC H p) F c b->b p=none->iI K c b p r.2->eW K b r.1 v->Q v c
def cV(i:Nat)(ρ:ak):M L:=match ρ[i]? with
 |some (some x)=>if x.own then .ok x else ao
 |_=>ao
theorem jm(o:aH E H (cV i ρ>>=k) P):∃x,ρ[i]?=some (some x)/\x.own=true/\aH E H (k x) P:=by
 unfold cV at o
 match q:ρ[i]?,o with
 |none,o=>exact o.elim
 |some none,o=>exact o.elim
 |some (some x),o=>
  cases a:x.own with|false=>simp only[a]at o;exact o.elim|true=>simp only[a]at o;exact⟨x,rfl,a,o⟩
section
variable{X:Cx}{E:XK}{pos:Pos}{st:Stmt}{sts:List Stmt}{f g:ak->M Fl}{e c a b:Expr}{es:List Expr}{fe fa fb:ak->M D}{ft:ak->M Bool}{fs:ak->M (List D)}{fr:ak->M (D×ak)}
theorem zj{K:W.Frag}(S:SR K i l ρ m H F)(o:aH E i (fr ρ>>=k) P)(h:∀p v j d,fr ρ=.ok p->SR K i l p.2 m j d->bu F d->eW K d p.1 v->aH E i (k p) P->Q v j):LJ K E fr m H Q:=
 ⟨i,l,ρ,F,S,o.bind.imp (.refl _) λp e q v j d n fs r=>h p v j d e n fs r q⟩
def JQ(i:Nat)(fr:ak->M (D×ak)):ak->M Fl:=λd=>fr d>>=λp=>.ok (.nx (p.2.set i (~~~p.1)))
theorem NJ(d:X.N.Nodup)(he:PE X e (LJ X.K E fr))(h:i≠0:=by decide)(j:X.N[i]?=some x:=by rfl)(k:Loc X.env.scope x:=by walk_at "v")(hs:swapsWith e (some (.Name x pos')) pos.line X.env=pure false:=by rfl)(l:X.fn x=true\/X.env.scope.names.lookup x=some .local:=by walk_at "v"):
  PS X (.Assign [.Name x pos'] e pos) (gx X.K E (JQ i fr)):=dG (vU d j k he hs l) λZ t H⟨u,w,y,F,S,o⟩=>zj S o λp v m n _ s fs r q=>q _ m n (s.set i r h) fs
def Cr(fr:ak->M (D×ak)):ak->M Fl:=λd=>fr d>>=λp=>.ok (.nx p.2)
theorem RU(he:PE X e (LJ X.K E fr))(hs:swapsWith e none pos.line X.env=pure false:=by rfl):PS X (.Expr e pos) (gx X.K E (Cr fr)):=dG (uN he hs) λZ d H⟨k,l,m,F,S,o⟩=>zj S o λp v h i _ j fs r q=>q d h i j fs
def Vt:PS X (.Return none pos) (gx X.K E λρ=>.ok (.rt .cK ρ)):=dG Us λZ d H⟨h,i,ρ,F,S,o⟩=>o .cK d H F S rfl
def L7(i:Nat)(fr:ak->M (D×ak)):ak->M Fl:=λd=>ownOf i d>>=λ_=>fr d>>=λp=>ownOf i p.2>>=λh=>if h.length<sizeLine then .ok (.nx (p.2.set i (some (.ow (h++[p.1])))))else ao
theorem NK(he:PE X e (LJ X.K E fr))(C:X.N[i]?=some x:=by rfl)(G:Av X.env.scope x:=by walk_at "v")(I:(x==("__debug__":Str))=false:=by decide)(n:(x==("__classdict__":Str))=false:=by decide)(j:starEach [e] X.env=[(false,eval e X.env)]:=by rfl) (hs:swapsWith (.Call (.Attribute (.Name x l) "append" w) [e] [] m) none pos.line X.env=pure false:=by rfl)(l5:attributeBase (.Name x l) "append" X.env (eval (.Name x l) X.env)=eval (.Name x l) X.env:=by rfl)(hfew:((backTo m (starEach [e] X.env)).all (λx=>!x.1)&&(backToKw m (keywordEach [] X.env)).all (λx=>x.1.isSome)&&decide ([e].length+([]:List Keyword).length+(if([]:List Keyword).isEmpty then 0 else 1)<30))=true:=by rfl)(n9:(w.endLine==m.line)=true:=by rfl):PS X (.Expr (.Call (.Attribute (.Name x l) "append" w) [e] [] m) pos) (gx X.K E (L7 i fr)):=by
 refine dG (uN (Rj aht ah3 ah4 Fb (f6 C G I n) (iA he qy j) (l5:=l5) (hfew:=hfew) (n9:=n9) (hs:=j) (hplain:=rfl)) hs) λZ P H s=>?_
 obtain⟨H0,F0,ρ,F,S,o⟩:=s;obtain⟨Q,q,o⟩:=v9 o;obtain⟨a,R,d,T,h3,h4,h5⟩:=S.ow i Q q;refine⟨_,d,.inl ⟨rfl,R,jl.of T⟩,zj S o λp v H' W _ y fs r h=>?_⟩;obtain⟨k,z,h⟩:=v9 h;obtain⟨a',t,A,k2,k3,k4,B⟩:=y.ow i k z;rw[A]at d;injection d with d;injection d with d;injection d with d;subst d
 by_cases u:k.length<sizeLine
 rw[afz u]at h;exact⟨a',t,v,rfl,rfl,k2,by rw[<-B.length];exact u,h P _ W (y.write z A (B.append (.one r))) fs⟩;rw[afy u]at h;exact h.elim
theorem G6{K:W.Frag}(S:SR K l w ρ m H F)(q:ρ[i]?=some (some x))(s:x.own=true)(d:m[i]?=some (some (.ref p)))(r:aR K F ds vs)(y:ds.length=n)(A:bu B F)(o:aH E l (h x ds>>=λr=>(.ok (r.1,ρ.set i (some r.2)):M (D×ak))) λp=>∀v k j,SR K l w p.2 m k j->bu B j->eW K j p.1 v->Q v k):L6 K n h (.ref p::vs) H Q E:=by
 obtain⟨t,C,G,I,N⟩:=S.mine i x q s;have P:t=p:=by rw[C]at d;injection d with d;injection d with d;injection d with d
 subst P;refine⟨F,t,x,ds,vs,rfl,N,G,S.gr.sub,r,y,(aH.bind o).imp (λb u e=>?_) λr _ z v k j g R T Z=>?_⟩;rw[jx (λz=>by rw[z,I]at e;cases e)];exact S.gr.same _ _ e;exact z v k j (S.put q s d g R T) (A.trans g.aM) Z
def sM(i n:Nat)(h:L->List D->M (D×L))(fs:ak->M (List D)):ak->M (D×ak):=λd=>cV i d>>=λx=>fs d>>=λj=>if j.length=n then h x j>>=λr=>.ok (r.1,d.set i (some r.2))else ao
theorem Vu(i){k n:Nat}{fa}{u:FuncData}{ps}{h:L->List D->M (D×L)}{x y:Str}{p j:Pos}(B:eH X.prog X.w X.K X.mg X.base (kB X.prog X.w) k fa u ps (L6 X.K n h))(G:Good X E)(C:cG k X.A)(I:Gl X x)(P:X.mg x=some (.ref fa))(R:W.keepIn X.K (.ref fa)=true) (T:Binds X.K u ps []) (Z:PA X es (uQ X.K E fs)) (hN:X.N[i]?=some y:=by rfl) (hv:Av X.env.scope y:=by walk_at "v") (l:(x==("__debug__":Str))=false:=by decide) (m:(y==("__debug__":Str))=false:=by decide) (r:(y==("__classdict__":Str))=false:=by decide) (he:starEach (.Name y j::es) X.env=(false,eval (.Name y j) X.env)::starEach es X.env:=by rfl)(kI:(backTo pos (starEach es X.env)).any (·.1)=false:=by rfl):PE X (.Call (.Name x p) (.Name y j::es) [] pos) (LJ X.K E (sM i n h fs)):=
 bJ (BA B C I P R T .nil G.passes (iA (f6 hN hv m r) Z he) l he kI) λσ H Q s=>by
  obtain⟨H0,F0,ρ,F,S,o⟩:=s;obtain⟨x,q,v,o⟩:=jm o;obtain⟨a,z,_⟩:=S.mine i x q v;refine⟨_,z,v7 S o λds vs H1 F1 _ g1 S1 r1 d=>?_⟩;show L6 X.K n h ((.ref a::vs)++[]) H1 Q E;rw[agh]
  by_cases t:ds.length=n
  rw[afz t]at d;exact G6 S1 q v z r1 t g1.aM d;rw[afy t]at d;exact d.elim
theorem kL:∀{xs:List Str}{vs:List V},xs.contains x=false->(xs.zip vs).lookup x=none|[],_,_=>rfl|y::xs,[],_=>rfl|y::xs,v::vs,h=>by rw[aiI,agM];rw[ag9,agB]at h;rw[h.1];exact kL h.2
def cellOf(C:Addr)(m:Str):L->M L
 | .ce d h i=>if d=C/\h.contains m=false then .ok (.ce d h i)else ao
 |_=>ao
def sN(i n:Nat)(C:Addr)(m:Str)(h:L->List D->M (D×L))(fs:ak->M (List D)):ak->M (D×ak):=λd=>cV i d>>=λx=>cellOf C m x>>=λ_=>fs d>>=λj=>if j.length=n then h x j>>=λr=>.ok (r.1,d.set i (some r.2))else ao
theorem cell_in(o:aH E H (cellOf C m x>>=k) P):∃xs ds,x=.ce C xs ds/\xs.contains m=false/\aH E H (k x) P:=by
 cases x with
 |J d=>exact o.elim
 |ow ds=>exact o.elim
 |ce i xs ds=>
  have o:aH E H ((if i=C/\xs.contains m=false then(.ok (.ce i xs ds):M L)else ao)>>=k) P:=o
  by_cases h:i=C/\xs.contains m=false
  rw[afz h]at o;exact⟨xs,ds,by rw[h.1],h.2,o⟩;rw[afy h]at o;exact o.elim
theorem NL(i:Nat){k n:Nat}{C fa}{v:FuncData}{ps}{h:L->List D->M (D×L)}{m y:Str}{d l:Pos}{pl}(cl:vj X.K C)(P:Bd X.K C m fa)(R:eH X.prog X.w X.K X.mg X.base (kB X.prog X.w) k fa v ps (L6 X.K n h))(G:Good X E)(T:cG k X.A)(W:Binds X.K v ps [])(Z:PA X (e::es) (uQ X.K E fs))(hN:X.N[i]?=some y:=by rfl) (hv:Av X.env.scope y:=by walk_at "v") (p:(y==("__debug__":Str))=false:=by decide) (r:(y==("__classdict__":Str))=false:=by decide) (s:starEach (e::es) X.env=(false,eval e X.env)::starEach es X.env:=by rfl) (kI:(backTo pos (starEach es X.env)).any (·.1)=false:=by rfl)(ht:eval (.Call (.Attribute (.Name y l) m d) (e::es) [] pos) X.env=(do
   let z<-eval (.Name y l) X.env
   standAt d.atName
   let(f,first)<-holding [z] (getMethod z m pl)
   callWith pos f first (backTo pos (starEach (e::es) X.env)) (backToKw pos (keywordEach [] X.env))):=by rfl):
  PE X (.Call (.Attribute (.Name y l) m d) (e::es) [] pos) (LJ X.K E (sN i n C m h fs)):=
 bJ (wZ (pl:=pl) (f6 hN hv p r) cl P R T W .nil G.passes Z s kI ht) λσ H Q t=>by
  obtain⟨H0,F0,ρ,F,S,o⟩:=t;obtain⟨x,q,B,o⟩:=jm o;obtain⟨xs,cs,ex,hc,o2⟩:=cell_in o;clear o;obtain⟨a,I,h2,h3,h4⟩:=S.mine i x q B;subst ex;obtain⟨dx,us,k1,k2,k3⟩:=h4;refine⟨_,I,a,dx,_,rfl,k1,kL hc,v7 S o2 λds vs H1 F1 _ g1 S1 r1 j=>?_⟩;rw[agh]
  by_cases u:ds.length=n
  rw[afz u]at j;exact G6 S1 q B I r1 u g1.aM j;rw[afy u]at j;exact j.elim
def qF(i:Nat)(C:Addr)(m:Str)(h:L->List D->M (D×L)):ak->M (D×ak):=λd=>cV i d>>=λx=>cellOf C m x>>=λ_=>h x []>>=λr=>.ok (r.1,d.set i (some r.2))
theorem Cs(i:Nat){k:Nat}{C fa}{r:FuncData}{ps}{h:L->List D->M (D×L)}{m y:Str}{d j:Pos}{pl}(cl:vj X.K C)(v:Bd X.K C m fa)(z:eH X.prog X.w X.K X.mg X.base (kB X.prog X.w) k fa r ps (L6 X.K 0 h))(G:Good X E)(B:cG k X.A)(I:Binds X.K r ps [])(P:X.N[i]?=some y:=by rfl) (R:Av X.env.scope y:=by walk_at "v") (l:(y==("__debug__":Str))=false:=by decide) (n:(y==("__classdict__":Str))=false:=by decide)(T:eval (.Call (.Attribute (.Name y j) m d) [] [] pos) X.env=(do
   let s<-eval (.Name y j) X.env
   standAt d.atName
   let(f,first)<-holding [s] (getMethod s m pl)
   callWith pos f first (backTo pos (starEach [] X.env)) (backToKw pos (keywordEach [] X.env))):=by rfl):
  PE X (.Call (.Attribute (.Name y j) m d) [] [] pos) (LJ X.K E (qF i C m h)):=
 bJ (Jk (pl:=pl) (f6 P R l n) cl v z B I .nil G.passes T) λσ H Q p=>by obtain⟨H0,F0,ρ,F,S,o⟩:=p;obtain⟨x,q,t,o⟩:=jm o;obtain⟨xs,cs,W,Z,o2⟩:=cell_in o;clear o;obtain⟨a,u,h2,h3,h4⟩:=S.mine i x q t;subst W;obtain⟨dx,us,k1,k2,k3⟩:=h4;exact⟨_,u,a,dx,_,rfl,k1,kL Z,G6 S q t u (show aR X.K F [] []from rfl) rfl (.refl _) o2⟩
def Ct(i:Nat)(C:Addr)(m:Str)(h:L->List D->M (D×L))(fr:ak->M (D×ak)):ak->M (D×ak):=λd=>cV i d>>=λx=>cellOf C m x>>=λ_=>fr d>>=λp=>cV i p.2>>=λj=>h j [p.1]>>=λr=>.ok (r.1,p.2.set i (some r.2))
theorem JR(i:Nat){k:Nat}{C fa}{B:FuncData}{ps}{h:L->List D->M (D×L)}{m y:Str}{d l:Pos}{pl}(cl:vj X.K C)(R:Bd X.K C m fa)(T:eH X.prog X.w X.K X.mg X.base (kB X.prog X.w) k fa B ps (L6 X.K 1 h))(G:Good X E)(W:cG k X.A)(Z:Binds X.K B ps [])(ha:PE X e (LJ X.K E fr))(hN:X.N[i]?=some y:=by rfl) (hv:Av X.env.scope y:=by walk_at "v") (n:(y==("__debug__":Str))=false:=by decide) (s:(y==("__classdict__":Str))=false:=by decide) (j:starEach [e] X.env=[(false,eval e X.env)]:=by rfl) (kI:(backTo pos (starEach [] X.env)).any (·.1)=false:=by rfl)(ht:eval (.Call (.Attribute (.Name y l) m d) [e] [] pos) X.env=(do
   let I<-eval (.Name y l) X.env
   standAt d.atName
   let(f,first)<-holding [I] (getMethod I m pl)
   callWith pos f first (backTo pos (starEach [e] X.env)) (backToKw pos (keywordEach [] X.env))):=by rfl):
  PE X (.Call (.Attribute (.Name y l) m d) [e] [] pos) (LJ X.K E (Ct i C m h fr)):=
 bJ (wZ (pl:=pl) (f6 hN hv n s) cl R T W Z .nil G.passes (iA ha qy j) j kI ht) λσ H Q t=>by obtain⟨H0,F0,ρ,F,S,o⟩:=t;obtain⟨x,q,ho,o⟩:=jm o;obtain⟨xs,cs,ex,hc,o2⟩:=cell_in o;clear o;obtain⟨a,P,h2,h3,h4⟩:=S.mine i x q ho;subst ex;obtain⟨dx,us,k1,k2,k3⟩:=h4;refine⟨_,P,a,dx,_,rfl,k1,kL hc,zj S o2 λp v H' F' _ S' fs r u=>?_⟩;obtain⟨x',q',z,u⟩:=jm u;exact G6 S' q' z P (aR.one r) rfl fs u
def Pg(m:Str)(C:Addr)(d:D):M D:=match d with
 | .obj h i j=>if h=C/\i.contains m=false then .ok d else ao
 |_=>ao
theorem RV(o:aH E H (Pg m C d>>=k) P):∃xs ds,d=.obj C xs ds/\xs.contains m=false/\aH E H (k d) P:=by
 cases d with
 |obj i xs ds=>
  have o:aH E H ((if i=C/\xs.contains m=false then(.ok (.obj i xs ds):M D)else ao)>>=k) P:=o
  by_cases h:i=C/\xs.contains m=false
  rw[afz h]at o;exact⟨xs,ds,by rw[h.1],h.2,o⟩;rw[afy h]at o;exact o.elim
 |_=>exact o.elim
def iC(n:Nat)(C:Addr)(m:Str)(h:List D->M D)(fe:ak->M D)(fs:ak->M (List D)):ak->M D:=λd=>fe d>>=λo=>Pg m C o>>=λ_=>fs d>>=λi=>if i.length=n then h (o::i)else ao
theorem Vv{k n:Nat}{C fa}{s:FuncData}{ps:List Str}{h:List D->M D}{m:Str}{o:Expr}{i:Pos}{pl}(cl:vj X.K C)(I:Bd X.K C m fa)(N:eH X.prog X.w X.K X.mg X.base (kB X.prog X.w) k fa s ps (Ud X.K (n+1) h))(G:Good X E)(P:cG k X.A)(R:Binds X.K s ps [])(T:PE X o (tD X.K E fe))(W:PA X (e::es) (uQ X.K E fs))(l:starEach (e::es) X.env=(false,eval e X.env)::starEach es X.env:=by rfl) (kI:(backTo pos (starEach es X.env)).any (·.1)=false:=by rfl)(Z:eval (.Call (.Attribute o m i) (e::es) [] pos) X.env=(do
   let t<-eval o X.env
   standAt i.atName
   let(f,first)<-holding [t] (getMethod t m pl)
   callWith pos f first (backTo pos (starEach (e::es) X.env)) (backToKw pos (keywordEach [] X.env))):=by rfl):
  PE X (.Call (.Attribute o m i) (e::es) [] pos) (tD X.K E (iC n C m h fe fs)):=
 bJ (wZ (pl:=pl) T cl I N P R .nil G.passes W l kI Z) λσ H Q p=>by
  obtain⟨H0,F0,ρ,F,S,o⟩:=p;rw[cM]at o;refine fH S o λd v H1 F1 _ g1 u x q=>?_
  obtain⟨xs,cs,ex,hc,q⟩:=RV q;subst ex;obtain⟨a,dx,us,e1,e2,e3,e4⟩:=id x;refine⟨a,dx,_,e1,u.gr.sub _ _ e2,kL hc,jP u q λy vs H2 F2 _ B S2 r2 j=>?_⟩;rw[agh]
  by_cases r:y.length=n
  rw[afz r]at j;exact⟨F2,_::y,S2.gr.sub,⟨v,vs,rfl,x.mono B.aM,r2⟩,by simp[r],by rw[cM];exact j.imp (.refl _) λd _ z v H' F' g' r'=>z v H' F' ((g1.trans B).trans g') r'⟩;rw[afy r]at j;exact j.elim
def zk(C:Addr)(m:Str)(h:List D->M D)(fe:ak->M D):ak->M D:=λd=>fe d>>=λo=>Pg m C o>>=λ_=>h [o]
theorem JS{k:Nat}{C fa}{n:FuncData}{ps:List Str}{h:List D->M D}{m:Str}{o:Expr}{i:Pos}{pl}(cl:vj X.K C)(s:Bd X.K C m fa)(t:eH X.prog X.w X.K X.mg X.base (kB X.prog X.w) k fa n ps (Ud X.K 1 h))(G:Good X E)(u:cG k X.A)(x:Binds X.K n ps [])(y:PE X o (tD X.K E fe))(B:eval (.Call (.Attribute o m i) [] [] pos) X.env=(do
   let p<-eval o X.env
   standAt i.atName
   let(f,first)<-holding [p] (getMethod p m pl)
   callWith pos f first (backTo pos (starEach [] X.env)) (backToKw pos (keywordEach [] X.env))):=by rfl):
  PE X (.Call (.Attribute o m i) [] [] pos) (tD X.K E (zk C m h fe)):=
 bJ (Jk (pl:=pl) y cl s t u x .nil G.passes B) λσ H Q j=>by
  obtain⟨H0,F0,ρ,F,S,o⟩:=j;rw[cM]at o;refine fH S o λd v H1 F1 _ I q r l=>?_
  obtain⟨xs,cs,N,P,l⟩:=RV l;subst N;obtain⟨a,R,us,e1,T,e3,e4⟩:=id r;refine⟨a,R,_,e1,q.gr.sub _ _ T,kL P,F1,[_],q.gr.sub,aR.one r,rfl,?_⟩;rw[cM];exact l.imp (.refl _) λd _ z v W Z g' r'=>z v W Z (I.trans g') r'
def RW(C:Addr)(x:Str):L->M D| .ce d h i=>fX C x (.obj d h i)|_=>ao
def we(i:Nat)(C:Addr)(x:Str):ak->M D:=λd=>cV i d>>=RW C x
theorem BG(i:Nat)(c:vj X.K C)(n:aZ X.K C x)(A:X.N[i]?=some y:=by rfl)(B:Av X.env.scope y:=by walk_at "v")(j:(y==("__debug__":Str))=false:=by decide)(k:(y==("__classdict__":Str))=false:=by decide)(G:attributeBase (.Name y m) x X.env (eval (.Name y m) X.env)=eval (.Name y m) X.env:=by rfl):PE X (.Attribute (.Name y m) x pos) (tD X.K E (we i C x)):=
 bJ (LO (f6 A B j k) G) λσ H Q p=>by
  obtain⟨H0,F0,ρ,F,S,o⟩:=p;rw[cM]at o;obtain⟨l,q,w,o⟩:=jm o;obtain⟨a,I,h2,h3,P⟩:=S.mine i l q w;cases l with
  |J d=>cases w
  |ow r=>exact o.elim
  |ce s z r=>
   have o:aH E H (if s=C then(match(z.zip r).lookup x with|some d=>(.ok d:M D)|none=>ao)else ao) _:=o
   by_cases t:s=C
   have h:=o;rw[afz t]at h;clear o;subst t;obtain⟨R,vs,T,k2,W⟩:=P;cases v:(z.zip r).lookup x with|none=>rw[v]at h;exact h.elim|some d=>rw[v]at h;obtain⟨u,Z,z2⟩:=aR.look W v;exact⟨_,I,a,s,R,_,u,rfl,T,c,n,Z,h u H F (.refl S.gr.sub) z2⟩
   rw[afy t]at o;exact o.elim
end
def fy(f:Str)(d:D):List Str->List D->List Str×List D
 |x::a,c::b=>if x=f then(x::a,d::b)else(x::(fy f d a b).1,c::(fy f d a b).2)
 |_,_=>([f],[d])
theorem JT{K}(r:eW K F d v):∀{xs:List Str}{ds:List D}{vs:List V},xs.length=vs.length->aR K F ds vs->∃us,nW f v (xs.zip vs)=(fy f d xs ds).1.zip us/\(fy f d xs ds).1.length=us.length/\aR K F (fy f d xs ds).2 us
 |[],ds,[],_,h=>⟨[v],rfl,rfl,aR.one r⟩
 |x::xs,[],vs,a,h=>by have h:vs=[]:=h;subst h;cases a
 |x::xs,c::ds,vs,a,⟨w,t,e,g,b⟩=>by
  subst e
  by_cases q:x=f
  refine⟨v::t,?_,?_,?_⟩;simp[nW,fy,q];simp only[fy,if_pos q];simpa using a;simp only[fy,if_pos q];exact⟨v,t,rfl,r,b⟩;obtain⟨us,i,j,k⟩:=JT (f:=f) r (xs:=xs) (ds:=ds) (vs:=t) (by simpa using a) b;refine⟨w::us,?_,?_,?_⟩;simp[nW,fy,q,i];simp only[fy,if_neg q];simp[j];simp only[fy,if_neg q];exact⟨w,us,rfl,g,k⟩
section
variable{X:Cx}{E:XK}{pos:Pos}{st:Stmt}{sts:List Stmt}{f g:ak->M Fl}{e c a b:Expr}{es:List Expr}{fe fa fb:ak->M D}{ft:ak->M Bool}{fs:ak->M (List D)}{fr:ak->M (D×ak)}
def Cu(C:Addr)(x:Str)(d:D):L->M L
 | .ce i h j=>if i=C/\h.length<1000 then .ok (.ce i (fy x d h j).1 (fy x d h j).2)else ao
 |_=>ao
theorem RX(o:aH E H (Cu C y d l>>=k) P):∃xs ds,l=.ce C xs ds/\xs.length<1000/\aH E H (k (.ce C (fy y d xs ds).1 (fy y d xs ds).2)) P:=by
 cases l with
 |J d=>exact o.elim
 |ow ds=>exact o.elim
 |ce h xs ds=>
  have o:aH E H ((if h=C/\xs.length<1000 then(.ok (.ce h (fy y d xs ds).1 (fy y d xs ds).2):M L)else ao)>>=k) P:=o
  by_cases i:h=C/\xs.length<1000
  have j:=o;rw[afz i]at j;clear o;obtain⟨m,n⟩:=i;subst m;exact⟨xs,ds,rfl,n,j⟩;rw[afy i]at o;exact o.elim
def iM(i:Nat)(C:Addr)(x:Str)(fe:ak->M D):ak->M Fl:=λh=>fe h>>=λd=>cV i h>>=λl=>Cu C x d l>>=λj=>.ok (.nx (h.set i (some j)))
theorem WX{K}{l:Hp}{m}{ρ:ak}{k:St}{H F:Hp}(S:SR K l m ρ k H F){i:Nat}{C}{xs}{ds}{y:Str}{d:D}{v:V}{a:Addr}(q:ρ[i]?=some (some (.ce C xs ds)))(h:k[i]?=some (some (.ref a)))(r:eW K F d v):
  ∃j vs,H a=some (.ins C j (xs.zip vs))/\xs.length=vs.length/\SR K l m (ρ.set i (some (.ce C (fy y d xs ds).1 (fy y d xs ds).2))) k (fD H a (.ins C j (nW y v (xs.zip vs)))) F:=by
 obtain⟨s,n,o,G,j,vs,t,p,u⟩:=S.mine i _ q rfl;have w:s=a:=by rw[n]at h;injection h with h;injection h with h;injection h with h
 subst w;obtain⟨x,z,A,B⟩:=JT (f:=y) r p u;exact⟨j,vs,t,p,S.put q rfl n (bx.hole S.gr.sub o) o ⟨j,x,by rw[bh,z],A,B⟩⟩
theorem Vw(i:Nat)(cl:vj X.K C)(r:aZ X.K C x)(he:PE X e (tD X.K E fe))(s:X.N[i]?=some y:=by rfl)(t:Av X.env.scope y:=by walk_at "v")(j:(y==("__debug__":Str))=false:=by decide)(k:(y==("__classdict__":Str))=false:=by decide)(hs:swapsWith e (some (.Attribute (.Name y u) x w)) pos.line X.env=pure false:=by rfl):PS X (.Assign [.Attribute (.Name y u) x w] e pos) (gx X.K E (iM i C x fe)):=
 dG (Rb (f6 s t j k) he hs) λZ z H m=>by
  obtain⟨H0,F0,ρ,F,S,o⟩:=m;refine pV S o λd v H1 F1 _ A n B h=>?_
  obtain⟨l,q,ho,h⟩:=jm h;obtain⟨xs,ds,G,I,P⟩:=RX h;clear h;subst G;obtain⟨a,p,_⟩:=n.mine i _ q rfl;obtain⟨Q,vs,R,T,W⟩:=WX (y:=x) n q p B;exact⟨_,p,a,C,Q,_,rfl,R,cl,r,by rw[List.length_zip,<-T,aiV];exact I,P z _ F1 W A.aM⟩
def JU(i:Nat)(C:Addr)(x:Str)(fe:ak->M D):ak->M Fl:=λd=>cV i d>>=λh=>RW C x h>>=λj=>fe d>>=λk=>eO j>>=λm=>eO k>>=λn=>cV i d>>=λl=>Cu C x (.int (m+n)) l>>=λo=>.ok (.nx (d.set i (some o)))
theorem NN(i:Nat)(cl:vj X.K C)(W:aZ X.K C x)(he:PE X e (tD X.K E fe))(hN:X.N[i]?=some y:=by rfl)(hv:Av X.env.scope y:=by walk_at "v")(r:(y==("__debug__":Str))=false:=by decide)(s:(y==("__classdict__":Str))=false:=by decide):
  PS X (.AugAssign (.Attribute (.Name y np) x ap) .Add e pos) (gx X.K E (JU i C x fe)):=
 dG (O1 (f6 hN hv r s) he Xw) λZ σ H t=>by
  obtain⟨P,F0,m,F,S,o⟩:=t;obtain⟨l,q,Q,o⟩:=jm o;obtain⟨a,R,h2,h3,h4⟩:=S.mine i l q Q;cases l with
  |J d=>cases Q
  |ow w=>exact o.elim
  |ce p T w=>
   have o:aH E P ((if p=C then(match(T.zip w).lookup x with|some d=>(.ok d:M D)|none=>ao)else ao)>>=λz=>fe m>>=λd1=>eO z>>=λj=>eO d1>>=λk=>cV i m>>=λl=>Cu C x (.int (j+k)) l>>=λA=>(.ok (.nx (m.set i (some A))):M Fl)) _:=o
   by_cases B:p=C
   have n:=o;rw[afz B]at n;clear o;subst B;obtain⟨dx,vs,k1,k2,k3⟩:=h4;cases G:(T.zip w).lookup x with
   |none=>rw[G]at n;exact n.elim
   |some z=>
    rw[G]at n;obtain⟨u,z1,z2⟩:=aR.look k3 G;refine⟨_,R,a,p,dx,_,u,rfl,k1,cl,W,z1,pV S n λd v H1 F1 _ g1 S1 r1 h=>?_⟩;cases z with
    |int j=>
     cases d with|int k=>have e1:u=.int j:=z2;have e2:v=.int k:=r1;subst e1 e2;have h:aH E P (cV i m>>=λl=>Cu p x (.int (j+k)) l>>=λA=>(.ok (.nx (m.set i (some A))):M Fl)) _:=h;obtain⟨l2,q2,hi,h⟩:=jm h;obtain⟨hb,ps,el,hl,o3⟩:=RX h;clear h;subst el;obtain⟨I,hc,w1,w2,S2⟩:=WX (y:=x) S1 q2 R (d:=.int (j+k)) (v:=.int (j+k)) rfl;exact⟨j,k,rfl,rfl,I,_,w1,by rw[List.length_zip,<-w2,aiV];exact hl,o3 σ _ F1 S2 g1.aM⟩|_=>exact h.elim
    |_=>exact h.elim
   rw[afy B]at o;exact o.elim
def Cv(r:D×L):M (List Str×List D×Addr):=match r with|(.cK,.ce C d h)=>.ok (d,h,C)|_=>ao
theorem Vx(o:aH E H (Cv r>>=k) P):∃C xs ds,r=(.cK,.ce C xs ds)/\aH E H (k (xs,ds,C)) P:=by
 obtain⟨d,l⟩:=r;cases d with
 |cK=>
  cases l with|ce C xs ds=>exact⟨C,xs,ds,rfl,o⟩|_=>exact o.elim
 |_=>exact o.elim
def xF(n:Nat)(C:Addr)(h:L->List D->M (D×L))(ds:List D):M (List Str×List D×Addr):=if ds.length=n then h (.ce C [] []) ds>>=Cv else ao
theorem G7{K}{n:Nat}{C}{h:L->List D->M (D×L)}{ds}{vs}{H F:Hp}{Q:VK}(s:bu F H)(r:aR K F ds vs)(o:aH E H (xF n C h ds) λt=>∀p d i,bx H F d i->H p=none->i p=none->iI K d i p (.ce t.2.2 t.1 t.2.1)->Q (.ref p) d):
  ∀x j,H x=none->H j=none->j≠x->L6 K n h (.ref x::(vs++[])) (fD (fD H j (.own x)) x (.ins C j [])) (λv N=>v=.cK/\Q (.ref x) N) E:=by
 intro x j l m P;rw[agh];unfold xF at o
 by_cases A:ds.length=n
 rw[afz A]at o;have R:∀{b:Addr},H b=none->F b=none:=λ{b}z=>by
  cases q:F b with
  |none=>rfl
  |some u=>rw[s _ _ q]at z;cases z
 have B:bu H (xC (fD (fD H j (.own x)) x (.ins C j [])) x):=λb u z=>by have I:=bI z l;rw[jx I,aK I,aK (bI z m)];exact z
 refine⟨F,x,.ce C [] [],ds,vs,rfl,⟨j,[],bh,rfl,rfl⟩,R l,λb u z=>NF _ _ (B _ _ (s _ _ z)),r,A,(aH.bind o).imp B λt _ z v d i g S T W=>?_⟩;have z:aH E H (Cv t>>=λt=>.ok t) λt=>∀p d i,bx H F d i->H p=none->i p=none->iI K d i p (.ce t.2.2 t.1 t.2.1)->Q (.ref p) d:=by
  cases q:Cv t with|error c=>rw[q]at z;exact z|ok w=>rw[q]at z;exact z
 obtain⟨C',xs,cs,Z,z⟩:=Vx z;subst Z;refine⟨W,z x d i ⟨λb u w=>g.same _ _ (B _ _ w),g.aM,g.sub,λb w=>?_⟩ l S T⟩;rcases g.new b w with y|y;exact .inl y;right
 by_cases G:b=x
 rw[G];exact l;rw[jx G,aK G]at y
 by_cases k:b=j
 rw[k,bh]at y;cases y;rw[aK k]at y;exact y;rw[afy A]at o;exact o.elim
theorem Fq{K}(g:bx H F k h)(l:H p=none)(m:h p=none)(n:iI K k h p (.ce C xs ds)):∃F2,bx H F k F2/\eW K F2 (.obj C xs ds) (.ref p):=by
 obtain⟨i,j,o,q,r⟩:=n;have fs:bu h (fD h p (.ins C i (xs.zip j))):=λb u z=>by
  have d:b≠p:=λe=>by rw[e,m]at z;cases z
  rw[aK d];exact z
 refine⟨fD h p (.ins C i (xs.zip j)),⟨g.same,g.aM.trans fs,λb u z=>?_,λb z=>?_⟩,p,i,j,rfl,bh,q,r.mono fs⟩
 by_cases d:b=p
 rw[d,bh]at z;rw[d,o];exact z;rw[aK d]at z;exact g.sub _ _ z
 by_cases d:b=p
 rw[d];exact .inr l;rw[aK d]at z;exact g.new b z
def cH(n:Nat)(C:Addr)(h:L->List D->M (D×L))(ds:List D):M D:=xF n C h ds>>=λt=>.ok (.obj t.2.2 t.1 t.2.1)
theorem RY(d:Mk X.K C l)(m:eH X.prog X.w X.K X.mg X.base (kB X.prog X.w) k l r ps (L6 X.K n h))(G:Good X E)(s:cG (k+1) X.A)(u:Gl X x)(v:X.mg x=some (.ref C))(y:Binds X.K r ps []) (B:PA X (e::es) (uQ X.K E fs)) (i:(x==("__debug__":Str))=false:=by decide) (he:starEach (e::es) X.env=(false,eval e X.env)::starEach es X.env:=by rfl)(kI:(backTo pos (starEach es X.env)).any (·.1)=false:=by rfl):PE X (.Call (.Name x p) (e::es) [] pos) (tD X.K E (aa fs (cH n C h))):=
 bJ (Nl d m s u v y .nil G.passes B i he kI) λσ H Q j=>by
  obtain⟨H0,F0,ρ,F,S,o⟩:=j;rw[cM]at o;refine jP S o λds vs H1 F1 _ I N P R=>?_
  refine G7 N.gr.sub P ((aH.bind R).imp (.refl _) λt _ z q T F' g W Z oa=>?_);obtain⟨F2,g2,r2⟩:=Fq g W Z oa;exact z _ T F2 (I.trans g2) r2
def JV(i n:Nat)(C:Addr)(h:L->List D->M (D×L))(fs:ak->M (List D)):ak->M Fl:=λd=>fs d>>=λj=>xF n C h j>>=λt=>.ok (.nx (d.set i (some (.ce t.2.2 t.1 t.2.1))))
theorem NO(d:Mk X.K C B)(I:eH X.prog X.w X.K X.mg X.base (kB X.prog X.w) k B P ps (L6 X.K n h))(G:Good X E)(R:cG (k+1) X.A)(T:Gl X x)(W:X.mg x=some (.ref C))(hb:Binds X.K P ps []) (hN:X.N.Nodup) (ha:PA X (e::es) (uQ X.K E fs)) (h0:i≠0:=by decide) (j:(x==("__debug__":Str))=false:=by decide) (he:starEach (e::es) X.env=(false,eval e X.env)::starEach es X.env:=by rfl)(kI:(backTo u (starEach es X.env)).any (·.1)=false:=by rfl) (hi:X.N[i]?=some y:=by rfl) (hx:Loc X.env.scope y:=by walk_at "v") (hs:swapsWith (.Call (.Name x p) (e::es) [] u) (some (.Name y pos')) pos.line X.env=pure false:=by rfl) (l:X.fn y=true\/X.env.scope.names.lookup y=some .local:=by walk_at "v"):
  PS X (.Assign [.Name y pos'] (.Call (.Name x p) (e::es) [] u) pos) (gx X.K E (JV i n C h fs)):=
 dG (vU hN hi hx (Nl d I R T W hb .nil G.passes ha j he kI) hs l) λZ σ H m=>by
  obtain⟨H0,F0,ρ,F,S,o⟩:=m;refine v7 S o λds vs H1 F1 _ g1 r r1 o1=>?_
  exact G7 (Q:=λv s=>Z.nx (σ.set i (some v)) s) r.gr.sub r1 ((aH.bind o1).imp r.gr.same λt _ z q s F' g hp l oa=>z _ s F' (r.setN g i h0 hp l oa) (g1.aM.trans g.aM))
end
def dY(n:Nat)(x:L)(ds:List D):ak:=some x::(ds.map (λd=>~~~d)++List.replicate (n-(ds.length+1)) none)
def pW(d:D)(ρ:ak):M (D×L):=cV 0 ρ>>=λx=>.ok (d,x)
def sy:Fl->M (D×L)| .nx a=>pW .cK a| .rt d a=>pW d a|_=>ao
def runC(a:ak->M Fl)(n:Nat)(x:L)(ds:List D):M (D×L):=a (dY n x ds)>>=sy
theorem Ft{K:W.Frag}(s:bu F H)(m:F p=none)(k:iI K H F p x)(r:aR K F ds vs):SR K (xC H p) ⟨F,some (.ref p)⟩ (dY N.length x ds) (L2.start N (.ref p::vs)) H F:=by
 have st:L2.start N (.ref p::vs)=some (.ref p)::(vs.map some++List.replicate (N.length-(vs.length+1)) none):=by unfold L2.start;simp
 rw[st];have b:∀i y,(dY N.length x ds)[i]?=some (some y)->(i=0/\y=x)\/∃j d,i=j+1/\y=.J d/\ds[j]?=some d:=λi y e=>by
  cases i with
  |zero=>injection e with e;injection e with e;exact .inl ⟨rfl,e.symm⟩
  |succ j=>
   unfold dY at e;rw[ag1]at e
   by_cases g:j<ds.length
   rw[agj (by rw[afB];exact g),afF,afE g]at e;injection e with e;injection e with e;exact .inr ⟨j,_,rfl,e.symm,afE g⟩;rw[agK (by rw[afB];lia),ahs]at e;split at e<;>cases e
 refine⟨⟨NF,.refl _,s,λ_ z=>.inl z⟩,λv e=>by injection e with e;subst e;rfl,?_,λi d e=>?_,λi y e n=>?_,λi j y z a h e1 o q t _ _=>?_⟩;unfold dY;simp[r.length];rcases b i _ e with⟨_,z⟩|⟨j,u,rfl,c,f⟩;have:=k.own;rw[<-z]at this;cases this;injection c with c;subst c;obtain⟨v,l,w⟩:=r.get f;refine⟨v,?_,w⟩;have A:j<vs.length:=(agi.mp l).1;rw[ag1,agj (by rw[afB];exact A),afF,l];rfl;rcases b i _ e with⟨rfl,z⟩|⟨j,u,rfl,c,f⟩;subst z;exact⟨p,rfl,m,iL,k⟩;subst c;cases n;rcases b i _ e1 with⟨rfl,B⟩|⟨_,_,_,c,_⟩;rcases b j _ q with⟨rfl,C⟩|⟨_,_,_,f,_⟩;exact h rfl;subst f;cases t;subst c;cases o
section
variable{P:Program}{w:World}{K:W.Frag}{mg:afs}{base:Heap}
theorem okC{x b:Str}{st:Stmt}{f:Addr}{C}{N ps}{k n:Nat}{G}(F:LX K x b st f C)(S:fj N ps (aP st))(T:ps.length=n+1)(l:∀(h:Value)(A:Around)(aN:List Env)(s:Shared)(H:Hp)(E:XK),cG k (A.deeper (envOfC b (aP st) s.heap.objs.size f h))->
   lS (mq (kB P w) P w K mg base N b (aP st) f h A aN s H E) (gG st) (gx K E G)):eH P w K mg base (kB P w) (k+1) f C ps (L6 K n (runC G N.length)):=by
 refine F.ZQ S (λX H Q E zz=>by obtain⟨m,p,x,I,z,e,_,_,_,r,R,_⟩:=zz;subst e;rw[af5,<-r.length,R,T]) λh A aN s H X Q E Z B=>?_
 obtain⟨m,p,x,I,z,e,oa,hf,hs,r,R,o⟩:=B;subst e;refine⟨_,l h A aN s H E Z,xC H p,⟨m,some (.ref p)⟩,dY N.length x I,m,Ft hs hf oa r,?_⟩;refine(aH.bind o).imp (.refl _) λfl _ q=>?_
 have t:∀(d:D)i,aH E (xC H p) (pW d i) (λr=>∀v g c,bx (xC H p) m g c->c p=none->iI K g c p r.2->eW K c r.1 v->Q v g)->∀v j g c,SR K (xC H p) ⟨m,some (.ref p)⟩ i j g c->eW K c d v->Q v g:=λd i o v j g c u rv=>by obtain⟨y,q,ho,o⟩:=jm o;obtain⟨a,h1,h2,h3,h4⟩:=u.mine 0 y q ho;have e:=u.pin _ rfl;rw[h1]at e;injection e with e;injection e with e;injection e with e;subst e;exact o v g c u.gr h2 h4 rv
 cases fl with|nx i=>exactλj g c u _=>t .cK i q .cK j g c u rfl|rt d i=>exact t d i q|bk i=>exact q.elim|ct i=>exact q.elim
end
section
variable{X:Cx}{E:XK}{pos:Pos}{st:Stmt}{sts:List Stmt}{f g:ak->M Fl}{e c a b:Expr}{es:List Expr}{fe fa fb:ak->M D}{ft:ak->M Bool}{fs:ak->M (List D)}{fr:ak->M (D×ak)}
def RZ(P:Program)(w:World)(K:W.Frag)(mg:afs)(base:Heap)(A:Around)(CX:QD)(E:XK)(i:Nat)(t:TA):TE:=λd H Q=>∃f h j k l,d[i]?=some (some (.ref f))/\
   eH P w K mg base CX k f h j l/\cG k A/\W.keepIn K (.ref f)=true/\Binds K h j []/\t d H λm n=>l (m++[]) n Q E
theorem JW(z:qz CX X E)(B:PA X (e::es) t)(C:X.N[i]?=some y)(G:Av X.env.scope y)(j:(y==("__debug__":Str))=false)(l:(y==("__classdict__":Str))=false)(he:starEach (e::es) X.env=(false,eval e X.env)::starEach es X.env) (kI:(backTo pos (starEach es X.env)).any (·.1)=false):PE X (.Call (.Name y p) (e::es) [] pos) (RZ X.prog X.w X.K X.mg X.base X.A CX E i t):=by rintro d s n H Q I ⟨f,fd,ps,k,sp,P,F,R,S,T,h⟩;refine agO (fP (f6 C G j l d s n H (λv m=>v=.ref f/\m=H) I ⟨_,P,rfl,rfl⟩) λu Z zz=>?_);obtain⟨x,m,I1,r1,e1,e2⟩:=zz;subst e1 e2;obtain rfl:u=Value.ref f:=r1;refine ain (h₀:=X.base) I.ok.mod.Xd S (fP (B pos d Z n m _ I1 h) λus s2⟨vs,H2,o,r,q⟩=>⟨o.E1,?_⟩) he kI;exact GD F R T .nil z o r q
def L8:D->M Addr| .fn a=>.ok a|_=>ao
def Fv(i n:Nat)(T:Addr->Option (List D->M D))(fs:ak->M (List D)):ak->M D:=λj=>O i j>>=λd=>L8 d>>=λa=>match T a with|some h=>fs j>>=ah n h|none=>ao
theorem R0(i:Nat)(G:Good X E)(u:∀f h,T f=some h->∃d ps k,eH X.prog X.w X.K X.mg X.base (kB X.prog X.w) k f d ps (Ud X.K n h)/\cG k X.A/\W.keepIn X.K (.ref f)=true/\Binds X.K d ps [])(x:PA X (e::es) (uQ X.K E fs))(z:X.N[i]?=some y:=by rfl) (B:Av X.env.scope y:=by walk_at "v") (j:(y==("__debug__":Str))=false:=by decide) (l:(y==("__classdict__":Str))=false:=by decide)(he:starEach (e::es) X.env=(false,eval e X.env)::starEach es X.env:=by rfl) (kI:(backTo pos (starEach es X.env)).any (·.1)=false:=by rfl):PE X (.Call (.Name y p) (e::es) [] pos) (tD X.K E (Fv i n T fs)):=
 bJ (JW G.passes x z B j l he kI) λσ H Q m=>by
  obtain⟨H0,F0,t,F,S,o⟩:=m;rw[cM]at o;unfold Fv O at o
  match q:t[i]?,o with
  |some (~~~.fn f),o=>
   obtain⟨v,C,r⟩:=S.J i _ q;have r:v=.ref f:=r;subst r;have o:aH E H (match T f with|some h=>fs t>>=ah n h|none=>ao) _:=o;cases s:T f with|none=>rw[s]at o;exact o.elim|some h=>rw[s]at o;obtain⟨d,ps,k,I,P,R,Z⟩:=u f h s;refine⟨f,d,ps,k,_,C,I,P,R,Z,jP S o λds vs H1 F1 _ g1 S1 r1 o1=>?_⟩;rw[agh];exact RA g1 r1 o1
  |some (~~~.cK),o=>exact o.elim
  |some (~~~.bl _),o=>exact o.elim
  |some (~~~.int _),o=>exact o.elim
  |some (~~~.tup _),o=>exact o.elim
  |some (~~~.lst _),o=>exact o.elim
  |some (~~~.arr _),o=>exact o.elim
  |some (~~~.obj _ _ _),o=>exact o.elim
  |some (some (.ow ds)),o=>exact o.elim
  |some (some (.ce _ _ _)),o=>exact o.elim
  |some none,o=>exact o.elim
  |none,o=>exact o.elim
def Ma:List Int->Int|[]=>0|n::d=>d.foldl (λa b=>if a<b then b else a) n
noncomputable def Mb:List Int->Int|[]=>0|n::d=>d.foldl (λa b=>if b<a then b else a) n
theorem fold_max:∀(ns:List Int)n m,(m=n\/m∈ns)->n<=m->(∀y∈ns,y<=m)->ns.foldl (λa b=>if a<b then b else a) n=m
 |[],n,m,h,_,_=>by rcases h with h|h;exact h.symm;cases h
 |x::ns,n,m,h,i,d=>by
  rw[ahL];have j:=d x afH;refine fold_max ns _ m ?_ ?_ λy k=>d y (afA _ k)
  by_cases q:n<x
  rw[afz q];rcases h with h|h
  lia
  rcases afU.mp h with h|h;exact .inl h;exact .inr h;rw[afy q];rcases h with h|h;exact .inl h;rcases afU.mp h with h|h;exact .inl (by lia);exact .inr h
  by_cases q:n<x
  rw[afz q];exact j;rw[afy q];exact i
theorem fold_min:∀(ns:List Int)n m,(m=n\/m∈ns)->m<=n->(∀y∈ns,m<=y)->ns.foldl (λa b=>if b<a then b else a) n=m
 |[],n,m,h,_,_=>by rcases h with h|h;exact h.symm;cases h
 |x::ns,n,m,h,i,d=>by
  rw[ahL];have j:=d x afH;refine fold_min ns _ m ?_ ?_ λy k=>d y (afA _ k)
  by_cases q:x<n
  rw[afz q];rcases h with h|h
  lia
  rcases afU.mp h with h|h;exact .inl h;exact .inr h;rw[afy q];rcases h with h|h;exact .inl h;rcases afU.mp h with h|h;exact .inl (by lia);exact .inr h
  by_cases q:x<n
  rw[afz q];exact j;rw[afy q];exact i
theorem Vy(h:m∈ns)(d:∀y∈ns,y<=m):Ma ns=m:=by
 cases ns with
 |nil=>cases h
 |cons n ns=>exact fold_max ns n m (afU.mp h) (d n afH) λy i=>d y (afA _ i)
theorem Vz(h:m∈ns)(d:∀y∈ns,m<=y):Mb ns=m:=by
 cases ns with
 |nil=>cases h
 |cons n ns=>exact fold_min ns n m (afU.mp h) (d n afH) λy i=>d y (afA _ i)
def one(ds:List D):M D:=match ds with|[d]=>.ok d|_=>ao
theorem Mc(o:aH E H (one ds>>=k) P):∃d,ds=[d]/\aH E H (k d) P:=by
 match ds,o with|[d],o=>exact⟨d,rfl,o⟩|[],o=>exact o.elim|_::_::_,o=>exact o.elim
def xG(d:D):M (List Int):=mW d>>=λl=>match iJ l with|some h=>.ok h|none=>ao
theorem G8{K}(s:bu F H)(r:eW K F d v)(o:aH E h (xG d>>=k) P):∃ns a,d=.lst (ns.map D.int)/\v=.ref a/\jl K H a (ns.map V.int)/\aH E h (k ns) P:=by
 cases d with
 |lst l=>
  have o:aH E h ((match iJ l with|some ns=>(.ok ns:M (List Int))|none=>ao)>>=k) P:=o;cases q:iJ l with|none=>rw[q]at o;exact o.elim|some ns=>rw[q]at o;have i:=o;clear o;have e0:=vZ q;subst e0;obtain⟨a,n,e1,j,m⟩:=r;exact⟨ns,a,rfl,e1,jl.of (by rw[<-m.ints];exact s _ _ j),i⟩
 |_=>exact o.elim
def Ph(ds:List D):M D:=one ds>>=λd=>xG d>>=λh=>if 0<h.length then .ok (.int (Ma h))else ao
def Pj(ds:List D):M D:=one ds>>=λd=>xG d>>=λh=>if 0<h.length then .ok (.int (Mb h))else ao
theorem YC:Ck X.K E (aaJ X.K) Ph:=λt u H F Q s r o=>by
 obtain⟨d,e,j⟩:=Mc o;clear o;subst e;obtain⟨v,e,k⟩:=pU r;clear r;subst e;obtain⟨i,a,e1,l,n,o⟩:=G8 s k j;subst l
 by_cases h:0<i.length
 rw[afz h]at o;exact⟨a,i,rfl,n,h,λm p q=>by rw[<-Vy p q];exact o _ _ _ (.refl s) rfl⟩;rw[afy h]at o;exact o.elim
theorem YD:Ck X.K E (aaK X.K) Pj:=λt u H F Q s r o=>by
 obtain⟨d,e,j⟩:=Mc o;clear o;subst e;obtain⟨v,e,k⟩:=pU r;clear r;subst e;obtain⟨i,a,e1,l,n,o⟩:=G8 s k j;subst l
 by_cases h:0<i.length
 rw[afz h]at o;exact⟨a,i,rfl,n,h,λm p q=>by rw[<-Vz p q];exact o _ _ _ (.refl s) rfl⟩;rw[afy h]at o;exact o.elim
theorem YE(d:X.calm=true)(h:Gl X "max")(i:X.mg "max"=none)(j:PA X [e] (uQ X.K E fs))(he:starEach [e] X.env=[(false,eval e X.env)]:=by rfl):PE X (.Call (.Name "max" p) [e] [] pos) (tD X.K E (aa fs Ph)):=pT YC (XJ d) h i (by decide+kernel) j (he:=he) (kI:=rfl)
theorem YF(d:X.calm=true)(h:Gl X "min")(i:X.mg "min"=none)(j:PA X [e] (uQ X.K E fs))(he:starEach [e] X.env=[(false,eval e X.env)]:=by rfl):PE X (.Call (.Name "min" p) [e] [] pos) (tD X.K E (aa fs Pj)):=pT YD (XM d) h i (by decide+kernel) j (he:=he) (kI:=rfl)
def Cw(fa fb:ak->M D):ak->M Bool:=λd=>fa d>>=λx=>fb d>>=λy=>eO x>>=λi=>xG y>>=λh=>.ok (!h.contains i)
theorem JX(i):∀ns:List Int,inV (.int i) (ns.map V.int)=ns.contains i|[]=>rfl|n::ns=>by have d:=JX i ns;unfold inV at d|-;rw[afR,agZ,d,ag9];show(n==i||_)=(i==n||_);rw[BEq.comm]
theorem Fw:∀ns:List Int,(ns.map V.int).all w6=true|[]=>rfl|n::ns=>by rw[afR,ah7,Fw ns];rfl
theorem R1(m:PE X a (tD X.K E fa))(n:PE X b (tD X.K E fb))(p:behindInMarks .NotIn b=false:=by with_unfolding_all rfl):PT X (.Compare a [.NotIn] [b] pos) (mU X.K E (Cw fa fb)):=mV (Nk GK m n p) λI H Q j=>by
 obtain⟨N,P,R,F,S,o⟩:=j;rw[jO]at o;refine fH S o λx v T F1 _ q r s t=>fH r t λy u k w _ z A B d=>?_
 cases x with|int i=>have e1:v=.int i:=s;subst e1;have d:aH E k (xG y>>=λh=>(.ok (!h.contains i):M Bool)) _:=d;obtain⟨h,l,W,C,G,d⟩:=G8 A.gr.sub B d;refine⟨l,_,C,.inl G,rfl,Fw h,_,rfl,?_⟩;show Q (!inV (.int i) (h.map V.int)) k;rw[JX];exact d k w (q.trans z)|_=>exact d.elim
mutual
def lT:D->Option PyData| .cK=>some .none| .bl b=>some (.bool b)| .int i=>some (.int i)| .tup ds=>(pX ds).map .tuple| .lst ds=>(pX ds).map .list|_=>none
def pX:List D->Option (List PyData)|[]=>some []|d::ds=>(lT d).bind λx=>(pX ds).map λxs=>x::xs
end
mutual
theorem eW.dp{K}(s:bu F H):∀{d:D}{v:V}{x:PyData},eW K F d v->lT d=some x->Dp K H v x
 | .cK,v,x,r,h=>by have r:v=.cK:=r;unfold lT at h;injection h with h;subst r h;exact .cK
 | .bl b,v,x,r,h=>by have r:v=.bl b:=r;unfold lT at h;injection h with h;subst r h;exact .bl b
 | .int b,v,x,r,h=>by have r:v=.int b:=r;unfold lT at h;injection h with h;subst r h;exact .int b
 | .tup ds,v,x,⟨a,vs,i,j,k⟩,h=>by
  unfold lT at h;cases q:pX ds with
  |none=>rw[q]at h;cases h
  |some xs=>rw[q]at h;injection h with h;subst i h;exact .tup (kH.of (s _ _ j)) (aR.dp s k q)
 | .lst ds,v,x,⟨a,vs,i,j,k⟩,h=>by
  unfold lT at h;cases q:pX ds with
  |none=>rw[q]at h;cases h
  |some xs=>rw[q]at h;injection h with h;subst i h;exact .lst (jl.of (s _ _ j)) (aR.dp s k q)
 | .fn _,_,_,_,h=>by unfold lT at h;cases h
 | .arr _,_,_,_,h=>by unfold lT at h;cases h
 | .obj _ _ _,_,_,_,h=>by unfold lT at h;cases h
theorem aR.dp{K}(s:bu F H):∀{ds:List D}{vs:List V}{xs:List PyData},aR K F ds vs->pX ds=some xs->Ca K H vs xs
 |[],vs,xs,r,h=>by have r:vs=[]:=r;unfold pX at h;injection h with h;subst r h;exact .nil
 |d::ds,vs,xs,⟨v,t,e,i,j⟩,h=>by
  unfold pX at h;cases q:lT d with
  |none=>rw[q]at h;cases h
  |some x=>
   cases l:pX ds with
   |none=>rw[q,l]at h;cases h
   |some m=>rw[q,l]at h;injection h with h;subst e h;exact .cons (eW.dp s i q) (aR.dp s j l)
end
def Pk(x y:D):M Bool:=match lT x,lT y with
 |some d,some e=>if SeqAt.shaped d&&SeqAt.shaped e then .ok (PyData.eqv d e)else ao
 |_,_=>ao
theorem WY{K}(s:bu F H)(m:eW K F x v)(n:eW K F y u)(o:aH E l (Pk x y>>=k) P):
  ∃d e,Dp K H v d/\Dp K H u e/\SeqAt.shaped d=true/\SeqAt.shaped e=true/\aH E l (k (PyData.eqv d e)) P:=by
 unfold Pk at o;cases i:lT x with
 |none=>rw[i]at o;exact o.elim
 |some d=>
  cases j:lT y with
  |none=>rw[i,j]at o;exact o.elim
  |some e=>
   rw[i,j]at o;have o:aH E l ((if SeqAt.shaped d&&SeqAt.shaped e then(.ok (PyData.eqv d e):M Bool)else ao)>>=k) P:=o
   by_cases h:(SeqAt.shaped d&&SeqAt.shaped e)=true
   rw[afz h]at o;rw[afL]at h;exact⟨d,e,eW.dp s m i,eW.dp s n j,h.1,h.2,o⟩;rw[afy h]at o;exact o.elim
theorem YG(k:X.A.units+64<cLine)(l:PE X a (tD X.K E fa))(m:PE X b (tD X.K E fb)):PT X (.Compare a [.NotEq] [b] pos) (mU X.K E λρ=>fa ρ>>=λx=>fb ρ>>=λy=>Pk x y>>=λq=>.ok (!q)):=mV (Nk (XQ k) l m (Q7 _)) λP H Q h=>by
 obtain⟨R,T,ρ,F,S,o⟩:=h;rw[jO]at o;refine fH S o λx v W F1 _ n p r s=>fH p s λy u t w _ j z B i=>?_
 obtain⟨d,e,C,G,I,N,i⟩:=WY z.gr.sub (r.mono j.aM) B i;exact⟨d,e,C,G,I,N,_,rfl,i t w (n.trans j)⟩
theorem YH(k:X.A.units+64<cLine)(l:PE X a (tD X.K E fa))(m:PE X b (tD X.K E fb)):PE X (.Compare a [.Eq] [b] pos) (tD X.K E λρ=>fa ρ>>=λx=>fb ρ>>=λy=>Pk x y>>=λq=>.ok (.bl q)):=bJ (Uw (XO k) l m (Q7 _)) λP H Q h=>by
 obtain⟨R,T,ρ,F,S,o⟩:=h;rw[cM]at o;refine fH S o λx v W F1 _ n p r s=>fH p s λy u t w _ j z B i=>?_
 obtain⟨d,e,C,G,I,N,i⟩:=WY z.gr.sub (r.mono j.aM) B i;exact⟨d,e,C,G,I,N,i _ t w (n.trans j) rfl⟩
theorem aa2(d:PE X a (tD X.K E fa))(k:PE X b (tD X.K E fb)):PE X (.Compare a [.Eq] [b] pos) (tD X.K E (kD (eL (λi j=>decide (i=j)) fa fb))):=bJ (Gz (QU d k)) λl H Q h=>BE rfl l H Q h
theorem aa3(d:PE X a (tD X.K E fa))(k:PE X b (tD X.K E fb)):PE X (.Compare a [.NotEq] [b] pos) (tD X.K E (kD (eL (λi j=>!decide (i=j)) fa fb))):=bJ (Gz (QV d k)) λl H Q h=>BE rfl l H Q h
def Pn:D->M Bool| .bl b=>.ok b|_=>ao
def YI(fa fb:ak->M D):ak->M D:=λh=>fa h>>=λd=>Pn d>>=λc=>if c then .ok (.bl true)else fb h
def Po(fa fb:ak->M D):ak->M D:=λh=>fa h>>=λd=>Pn d>>=λc=>if c then fb h else .ok (.bl false)
def Me(h:PE X a (tD X.K E fa)):PE X (.BoolOp op [a] pos) (tD X.K E fa):=Xi h
theorem YJ(l:PE X a (tD X.K E fa))(n:PE X (.BoolOp .Or (b::es) pos) (tD X.K E fb)):PE X (.BoolOp .Or (a::b::es) pos) (tD X.K E (YI fa fb)):=bJ (aaf l n) λz H Q h=>by
 obtain⟨p,s,j,F,S,o⟩:=h;rw[cM]at o;refine fH S o λd v A F1 _ k t u i=>?_
 cases d with
 |bl c=>
  have e:v=.bl c:=u;refine⟨c,e,?_⟩;cases c with|true=>exact GQ (i _ _ _ k rfl)|false=>exact GP ⟨p,s,j,F1,t,by rw[cM];exact aH.imp (m:=fb j) i (.refl _) λd _ q v w x y r=>q v w x (k.trans y) r⟩
 |_=>exact i.elim
theorem VA(l:PE X a (tD X.K E fa))(n:PE X (.BoolOp .And (b::es) pos) (tD X.K E fb)):PE X (.BoolOp .And (a::b::es) pos) (tD X.K E (Po fa fb)):=bJ (Xj l n) λz H Q h=>by
 obtain⟨p,s,j,F,S,o⟩:=h;rw[cM]at o;refine fH S o λd v A F1 _ k t u i=>?_
 cases d with
 |bl c=>
  have e:v=.bl c:=u;refine⟨c,e,?_⟩;cases c with|false=>exact GP (i _ _ _ k rfl)|true=>exact GQ ⟨p,s,j,F1,t,by rw[cM];exact aH.imp (m:=fb j) i (.refl _) λd _ q v w x y r=>q v w x (k.trans y) r⟩
 |_=>exact i.elim
theorem R3(h:PE X e (tD X.K E fe))(he:∀whole,isTrue e X.env whole=(do let v<-whole;standAt e.pos;holding [v] (truthy v)):=by intro _;rfl):PT X e (mU X.K E λρ=>fe ρ>>=Pn):=mV (Xg h he) λm H Q i=>by
 obtain⟨n,p,ρ,F,S,o⟩:=i;rw[jO]at o;refine fH S o λd v q F1 _ k r l j=>?_
 cases d with|bl c=>exact⟨c,l,j _ _ k⟩|_=>exact j.elim
def Mf(x y:D):M D:=mW x>>=λa=>eO y>>=λk=>if small k&&decide (a.length*k.toNat<=sizeLine)then .ok (.lst (List.replicate k.toNat a).flatten)else ao
theorem aR.rep{K}(r:aR K F ds vs):∀n,aR K F (List.replicate n ds).flatten (List.replicate n vs).flatten|0=>rfl|n+1=>by rw[agE,agW,agE,agW];exact r.append (aR.rep r n)
theorem YK:Pa X.K E aaH Mf:=λx y v u H F Q s m n o=>by
 rw[cM]at o;cases x with
 |lst a=>
  cases y with
  |int k=>
   have o:aH E H (if small k&&decide (a.length*k.toNat<=sizeLine)then(.ok (.lst (List.replicate k.toNat a).flatten):M D)else ao) _:=o
   by_cases d:(small k&&decide (a.length*k.toNat<=sizeLine))=true
   rw[afz d]at o;rw[afL]at d;obtain⟨h,i⟩:=d;unfold small at h;rw[afL]at h;have z:-(2^62)<=k:=age h.1;have A:k<2^62:=age h.2;have i:=age i;obtain⟨l,q,e1,r,j⟩:=m;have t:u=.int k:=n;exact⟨l,k,q,e1,t,s _ _ r,by lia,by lia,by rw[<-j.length];exact i,λp w=>BD (.refl s) (j.rep _) w o⟩;rw[afy d]at o;exact o.elim
  |_=>exact o.elim
 |_=>exact o.elim
theorem YL(d:PE X a (tD X.K E fa))(h:PE X b (tD X.K E fb)):PE X (.BinOp a .Mult b pos) (tD X.K E (aL Mf fa fb)):=Cf XH YK d h
def R4(i:Nat)(fe:ak->M D):ak->M Fl:=λd=>O i d>>=λh=>fe d>>=λj=>eO h>>=λk=>eO j>>=λl=>.ok (.nx (d.set i (~~~.int (k+l))))
theorem R5(h:O i ρ=.ok d):ρ[i]?=some (~~~d):=by
 unfold O at h
 match q:ρ[i]?,h with
 |some (~~~j),h=>injection h with h;rw[h]
 |some (some (.ow _)),h=>cases h
 |some (some (.ce _ _ _)),h=>cases h
 |some none,h=>cases h
 |none,h=>cases h
theorem R6{i}{ρ}{c}(h:O i ρ=.error c):c=none:=by
 unfold O at h
 match q:ρ[i]?,h with
 |some (~~~d),h=>cases h
 |some (some (.ow _)),h=>injection h with h;exact h.symm
 |some (some (.ce _ _ _)),h=>injection h with h;exact h.symm
 |some none,h=>injection h with h;exact h.symm
 |none,h=>injection h with h;exact h.symm
theorem YM{i}{x}{pos'}(p:X.N.Nodup)(he:PE X e (tD X.K E fe))(r:i≠0:=by decide)(s:X.N[i]?=some x:=by rfl)(t:Loc X.env.scope x:=by walk_at "v")(w:X.fn x=true\/X.env.scope.names.lookup x=some .local:=by walk_at "v"):
  PS X (.AugAssign (.Name x pos') .Add e pos) (gx X.K E (R4 i fe)):=dG (Xm p s t he Xn w) λZ R H m=>by
 obtain⟨y,T,k,F,S,o⟩:=m;have o:aH E y (O i k>>=λl=>fe k>>=λz=>eO l>>=λh=>eO z>>=λj=>(.ok (.nx (k.set i (~~~.int (h+j)))):M Fl)) _:=o;cases q:O i k with
 |error c=>rw[q,R6 q]at o;exact o.elim
 |ok l=>
  rw[q]at o;obtain⟨v,A,B⟩:=S.J i l (R5 q);refine⟨v,A,pV S o λd u C F1 _ G I P n=>?_⟩;cases l with
  |int h=>
   cases d with|int j=>have e1:v=.int h:=B;have Q:u=.int j:=P;exact⟨h,j,e1,Q,n _ C F1 (I.set i (d:=.int (h+j)) (v:=.int (h+j)) rfl r) G.aM⟩|_=>exact n.elim
  |_=>exact n.elim
theorem Pp:rR X (.type "range") (λxs H Q=>∃n,xs=[.int n]/\∀r,H r=none->Q (.ref r) (fD H r (.WC 0 n))):=by intro d s i H xs j Q I r h;obtain⟨n,rfl,q⟩:=h;obtain⟨u,rfl,t,rfl⟩:=Ji r;exact call_range_1 ⟨.ref s.heap.objs.size,_,I.laid (t':=s.toks+1+1) (o:=.WC 0 n) (λb k q=>afP _ q) (afI _) ⟨_,_,_,af8 _ rfl⟩,rfl,q _ (I.hok.fresh (afI _))⟩
theorem Fy:∀{xs:List m}{d:List n},xs.length=d.length->(∀(i:Nat)x y,xs[i]?=some x->d[i]?=some y->R x y)->Paired R xs d
 |[],[],_,_=>.nil
 |[],_::_,h,_=>by cases h
 |_::_,[],h,_=>by cases h
 |x::xs,y::d,h,k=>.cons (k 0 x y rfl rfl) (Fy (by simpa using h) λi a b j l=>k (i+1) a b (by simpa using j) (by simpa using l))
theorem En(z:X.calm=true):rR X (.type "list") (λxs H Q=>∃(r:Addr)(n:Nat),xs=[.ref r]/\H r=some (.WC 0 (n:Int))/\n<=1000/\∀l,H l=none->Q (.ref l) (fD H l (.lst ((List.range n).map λi=>.int ((i:Nat):Int))))):=by
 intro k s T H xs W Q I r h;obtain⟨p,n,rfl,A,Z,q⟩:=h;obtain⟨u,rfl,B⟩:=Ji r;cases B;obtain⟨t,u,v,e⟩:=(show iH X.prog X.w H s.heap p (.WC 0 (n:Int))from I.hok p _ A);have m:Builtin.Range.rangeSize 0 (n:Int) 1=n:=by unfold Builtin.Range.rangeSize;simp;try lia
 refine call_list_range (n:=n) (I.ok.hd z) e (by simp[Builtin.Range.small,m,Builtin.Range.rangeFitsLong];try lia) m (by lia) λC F acc' G N P o=>?_
 refine⟨.ref s.heap.objs.size,_,I.laid (t':=F) N (afI _) (show iH X.prog X.w _ C _ (.lst ((List.range n).map λi=>.int ((i:Nat):Int)))from⟨?_,acc'.toList,G,?_,by simpa using P⟩),rfl,q _ (I.hok.fresh (afI _))⟩;rw[afB,afN,aiB];lia;refine Fy (by rw[afB,afN,ag0,o.1]) λi x y d R=>?_
 rw[afF]at d;have j:i<n:=by
  by_cases j:i<n
  exact j;rw[afO (by rw[afN];lia)]at d;cases d
 rw[afV j]at d;injection d with d;obtain⟨t',S⟩:=o.2 i y (by simpa using R);subst d;exact⟨t',by rw[S];congr 1;lia⟩
def YN(fs:ak->M (List D)):ak->M (List D):=λh=>fs h>>=λi=>one i>>=λd=>eO d>>=λk=>if 0<=k/\k<=1000 then .ok (vm 0 k.toNat)else ao
theorem Pq(n){K}:aR K F (vm 0 n) ((List.range n).map λi=>V.int ((i:Nat):Int)):=by
 unfold vm;generalize List.range n=l
 induction l with|nil=>exact rfl|cons x l d=>refine⟨_,_,rfl,?_,d⟩;show V.int (x:Int)=V.int (0+(x:Int));rw[ahV]
theorem YO(x:X.calm=true)(y:Gl X "list")(z:X.mg "list"=none)(j:Gl X "range")(m:X.mg "range"=none)(A:PA X [e] (uQ X.K E fs))(he:starEach [e] X.env=[(false,eval e X.env)]:=by rfl)(i:starEach [.Call (.Name "range" s) [e] [] pos2] X.env=[(false,eval (.Call (.Name "range" s) [e] [] pos2) X.env)]:=by rfl):PE X (.Call (.Name "list" p) [.Call (.Name "range" s) [e] [] pos2] [] pos) (Vf X.K E (YN fs)):=
 bJ (zc (En x) y z (by decide+kernel) (iA (zc Pp j m (by decide+kernel) A (he:=he) (kI:=rfl)) qy i) (he:=i) (kI:=rfl)) λP H Q n=>by
  obtain⟨R,T,W,F,S,o⟩:=n;refine jP S o λZ vs B F1 _ t S1 u w=>?_
  obtain⟨d,e1,h⟩:=Mc w;clear w;subst e1;obtain⟨v,e1,C⟩:=pU u;clear u;subst e1;cases d with
  |int k=>
   have G:v=.int k:=C;subst G;have h:aH E B (if 0<=k/\k<=1000 then(.ok (vm 0 k.toNat):M (List D))else ao) _:=h
   by_cases q:0<=k/\k<=1000
   rw[afz q]at h;refine⟨k,rfl,λr I=>⟨r,k.toNat,rfl,?_,by lia,λl N=>?_⟩⟩;rw[bh,aho q.1];exact Vp h (t.trans (bx.JG t.sub I)) N (Pq k.toNat);rw[afy q]at h;exact h.elim
  |_=>exact h.elim
theorem zl{K}:∀ns:List Int,aR K F (ns.map D.int) (ns.map V.int)|[]=>rfl|n::ns=>⟨_,_,rfl,rfl,zl ns⟩
def R7(ds:List D)(fb:ak->M D):ak->M D:=λd=>fb d>>=λy=>eO y>>=λk=>l6 ds k
theorem VB{x}{t:Addr}{ns:List Int}{n}(p:Gl X x)(q:X.mg x=some (.ref t))(r:∀H,kH X.K H t (ns.map V.int))(s:PE X b (tD X.K E fb))(hs:uO b:=by exactλ_ _=>rfl)(w:(x==("__debug__":Str))=false:=by decide):
  PE X (.Subscript (.Name x n) b pos) (tD X.K E (R7 (ns.map D.int) fb)):=bJ (Ju GH (wV p q (v:=.ref t) rfl w) s hs) λP H Q i=>by
 obtain⟨R,T,W,F,S,o⟩:=i;rw[cM]at o;refine fH S o λy u l m _ A Z B h=>?_
 cases y with
 |int k=>
  have h:aH E l (l6 (ns.map D.int) k) _:=h;have C:u=.int k:=B;unfold l6 at h;cases j:Jt (ns.map D.int) k with|none=>rw[j]at h;exact h.elim|some d=>rw[j]at h;have G:aR X.K m (ns.map D.int) (ns.map V.int):=zl ns;obtain⟨z,I,N⟩:=zg G j;exact⟨t,_,k,z,rfl,C,r _,I,h z l m A N⟩
 |_=>exact h.elim
theorem Div.lD(d:Div X):Div ((X.lD s H scope cenv h).cI xe):=⟨d.seer,d.tree,d.depth,d.head⟩
end
abbrev Fz:Int->Int->Bool:=λi j=>decide (i<j)
abbrev Bf:Int->Int->Bool:=λi j=>decide (j<i)
abbrev LK:Int->Int->Bool:=λi j=>decide (j<=i)
abbrev iW:Int->Int->Bool:=λi j=>decide (i=j)
abbrev wR:Int->Int->Bool:=λi j=>!decide (i=j)
def Eo(f:ak->M D):ak->M D:=λa=>f a>>=U5
def aB(C:Addr)(x:Str)(f:ak->M D):ak->M D:=λa=>f a>>=fX C x
def NP(f:ak->M D):ak->M D:=λa=>f a>>=NH
def Bg(i:Nat)(f:ak->M D):ak->M D:=λa=>f (bE i a)>>=AD
def R8(i:Nat)(f:ak->M Bool):ak->M Bool:=λa=>f (bE i a)
def o6(i:Nat)(f:ak->M Fl):ak->M Fl:=λa=>f (bE i a)
def YQ:ak->M Fl:=λa=>.ok (.rt .cK a)
def dI(C:Addr):ak->M Fl:=λ_=>raises C
def NQ:ak->M Fl:=λa=>.ok (.ct a)
def G9:ak->M Fl:=λa=>.ok (.bk a)
def pY(f:ak->M D):ak->M Fl:=λa=>f a>>=λ_=>.ok (.nx a)
def Hf(c:ak->M Bool)(b:ak->M Fl)(fuel:ak->Nat):ak->M Fl:=λa=>c6 c b (fuel a) a
def JY(f:ak->M D):ak->M Bool:=λa=>f a>>=λd=>.ok (Uc d)
def R9(f:ak->M Bool):ak->M Bool:=λa=>f a>>=λb=>.ok (!b)
def zm(f:ak->M D):ak->M Bool:=λa=>f a>>=Pn
def VC(f g:ak->M D):ak->M Bool:=λa=>f a>>=λx=>g a>>=λy=>Pk x y>>=λq=>.ok (!q)
def YR(f g:ak->M D):ak->M D:=λa=>f a>>=λx=>g a>>=λy=>Pk x y>>=λq=>.ok (.bl q)
def fQ(fs:ak->M (List D))(k:List D->M (List D)):ak->M (List D):=λa=>fs a>>=k
def iF(f:ak->M D):ak->M (List D):=λa=>f a>>=mW
def NR:ak->Nat:=λa=>match(a[3]?:Option (Option L))with|some (some (L.J (D.int n)))=>n.natAbs+1|_=>0
def FA:ak->Nat:=λa=>match(a[0]?:Option (Option L))with|some (some (L.J (D.lst l)))=>l.length+1|_=>0
section
variable{X:Cx}{E:XK}{pos:Pos}{e:Expr}{ft:ak->M Bool}
def adt(h:PW X e (mU X.K E ft)):PT X e (mU X.K E ft):=h.pt
theorem Sa(b:Gl X x)(a:∃t,X.mg x=some (.int i t))(c:(x==("__debug__":Str))=false:=by decide):PE X (.Name x pos) (tD X.K E (aG (.int i))):=by obtain⟨t,a⟩:=a;exact UZ b a c
end
def VD(CT:Addr):D->Bool| .obj C _ _=>decide (C=CT)|_=>false
noncomputable def Hg(CT:Addr):D->Bool| .obj C _ _=>decide (C=CT)| .arr _=>true| .fn _=>true|_=>false
mutual
def cy(CS CT:Addr):D->Bool| .cK=>true| .bl _=>true| .int _=>true| .fn _=>true| .tup ds=>cP CS CT ds| .lst ds=>cP CS CT ds&&!(ds.any (Hg CT))| .arr ds=>cP CS CT ds| .obj C _ ds=>decide (C≠CS)&&cP CS CT ds
def cP(CS CT:Addr):List D->Bool|[]=>true|d::ds=>cy CS CT d&&cP CS CT ds
end
def c7(F:Hp)(sh tl:Addr):Hp:=xC (xC F tl) sh
def fz(a:b≠sh)(c:b≠tl):c7 F sh tl b=F b:=by unfold c7;rw[jx a,jx c]
def eY(h:c7 F sh tl b=some o):b≠sh/\b≠tl/\F b=some o:=by obtain⟨a,h⟩:=sJ h;obtain⟨c,h⟩:=sJ h;exact⟨a,c,h⟩
structure o8(K:W.Frag)(CS CT:Addr)(F:Hp)(sh tl:Addr):Prop where
 sh:∃dx fs,F sh=some (.ins CS dx fs)
 tl:∃tvs d ds,F tl=some (.lst tvs)/\aR K F (d::ds) tvs/\VD CT d=true
theorem o8.mono{K}{CS CT}{F b}{sh tl}(h:o8 K CS CT F sh tl)(e:bu F b):o8 K CS CT b sh tl:=by obtain⟨⟨c,f,g⟩,⟨a,d,i,j,k,l⟩⟩:=h;exact⟨⟨c,f,e _ _ g⟩,⟨a,d,i,e _ _ j,k.mono e,l⟩⟩
theorem Pr{K}(r:eW K F d v)(h:VD CT d=true)(r':eW K F d' v)(m:cy CS CT d'=true):Hg CT d'=true:=by
 cases d with
 |obj C n o=>
  obtain⟨a,p,q,e1,f,_⟩:=r;subst e1;cases d' with
  |cK=>have r':V.ref a=.cK:=r';cases r'
  |bl b=>have r':V.ref a=.bl b:=r';cases r'
  |int b=>have r':V.ref a=.int b:=r';cases r'
  |fn b=>rfl
  |tup g=>obtain⟨i,j,e,c,_⟩:=r';injection e with e;subst e;rw[f]at c;cases c
  |lst g=>obtain⟨i,j,e,c,_⟩:=r';injection e with e;subst e;rw[f]at c;cases c
  |arr g=>rfl
  |obj s k g=>obtain⟨i,l,j,e,c,_⟩:=r';injection e with e;subst e;rw[f]at c;injection c with c;injection c with c _ _;subst c;exact h
 |_=>cases h
mutual
theorem eW.c7{K}(S:o8 K CS CT F sh tl):∀{d:D}{v:V},cy CS CT d=true->eW K F d v->eW K (DL.c7 F sh tl) d v
 | .cK,_,_,h=>h
 | .bl _,_,_,h=>h
 | .int _,_,_,h=>h
 | .fn _,_,_,h=>h
 | .tup ds,v,c,⟨a,vs,f,b,e⟩=>by
  obtain⟨⟨s,fs,g⟩,⟨i,d,t,j,p,q⟩⟩:=id S;have k:a≠sh:=λz=>by rw[z,g]at b;cases b
  have l:a≠tl:=λz=>by rw[z,j]at b;cases b
  exact⟨a,vs,f,by rw[fz k l];exact b,aR.c7 S (by unfold cy at c;exact c) e⟩
 | .lst ds,v,c,⟨a,vs,f,b,e⟩=>by
  unfold cy at c;rw[afL]at c;obtain⟨⟨s,fs,g⟩,⟨i,d,t,j,p,q⟩⟩:=id S;have k:a≠sh:=λz=>by rw[z,g]at b;cases b
  have l:a≠tl:=λz=>by
   rw[z,j]at b;injection b with b;injection b with b;subst b;obtain⟨u,us,y,A,_⟩:=p;subst y;cases ds with
   |nil=>have e:u::us=[]:=e;cases e
   |cons d' B=>obtain⟨N,E,w,G,_⟩:=e;injection w with w _;subst w;have m:=c.1;unfold cP at m;rw[afL]at m;have H:=Pr A q G m.1;have n:=c.2;rw[agZ,H]at n;cases n
  exact⟨a,vs,f,by rw[fz k l];exact b,aR.c7 S c.1 e⟩
 | .arr ds,v,c,⟨a,vs,f,b,e⟩=>by
  obtain⟨⟨s,fs,g⟩,⟨i,d,t,j,p,q⟩⟩:=id S;refine⟨a,vs,f,?_,aR.c7 S (by unfold cy at c;exact c) e⟩;rcases b with⟨o,b⟩|b;have k:a≠sh:=λz=>by rw[z,g]at b;cases b
  have l:a≠tl:=λz=>by rw[z,j]at b;cases b
  exact .inl ⟨o,by rw[fz k l];exact b⟩;exact .inr b
 | .obj C xs ds,v,c,⟨a,x,vs,f,b,e,I⟩=>by
  unfold cy at c;rw[afL,agf]at c;obtain⟨⟨s,fs,g⟩,⟨i,d,t,j,p,q⟩⟩:=id S;have k:a≠sh:=λz=>by rw[z,g]at b;injection b with b;injection b with b _ _;exact c.1 b.symm
  have l:a≠tl:=λz=>by rw[z,j]at b;cases b
  exact⟨a,x,vs,f,by rw[fz k l];exact b,e,aR.c7 S c.2 I⟩
theorem aR.c7{K}(S:o8 K CS CT F sh tl):∀{ds:List D}{vs:List V},cP CS CT ds=true->aR K F ds vs->aR K (DL.c7 F sh tl) ds vs|[],_,_,h=>h|d::ds,_,c,⟨v,r,f,b,e⟩=>by unfold cP at c;rw[afL]at c;exact⟨v,r,f,eW.c7 S c.1 b,aR.c7 S c.2 e⟩
end
structure lE(K:W.Frag)(CS:Addr)(H F:Hp)(sh tl:Addr)(aj:List D)(code:D):Prop where
 at_:∃dx tvs cv,H sh=some (.ins CS dx [("tables",.ref tl),("code",cv)])/\H tl=some (.lst tvs)/\aR K F aj tvs/\eW K F code cv
 fs:F sh=none
 ft:F tl=none
def au(CS:Addr)(a:List D)(code:D):D:=.obj CS ["tables","code"] [.lst a,code]
abbrev b6:=D×List D×D
def WZ(K:W.Frag)(CS CT:Addr)(n:Nat)(h:List D->D->List D->M b6):Sp:=λi H Q E=>∃(F:Hp)(c e:Addr)(a:List D)(code:D)(args:List D)(b:List V),i=.ref c::b/\lE K CS H F c e a code/\bu F H/\aR K F args b/\args.length=n/\
 (∃d j,a=d::j/\VD CT d=true)/\aH E H (h a code args) λr=>∀v f g,bx (c7 H c e) F f g->lE K CS f g c e r.2.1 r.2.2->eW K g r.1 v->Q v f
theorem lE.bE{K}{CS CT}{H F}{sh tl}{c}{code:D}(S:lE K CS H F sh tl c code)(s:bu F H)(t:∃d ds,c=d::ds/\VD CT d=true):
  ∃h,bu F h/\bu h H/\eW K h (au CS c code) (.ref sh)/\o8 K CS CT h sh tl/\c7 h sh tl=F:=by
 obtain⟨⟨i,a,g,m,n,l,u⟩,p,q⟩:=S;have r:sh≠tl:=QM m n (by intro z;cases z);have k:bu F (fD (fD F tl (.lst a)) sh (.ins CS i [("tables",.ref tl),("code",g)])):=λb o e=>by rw[aK (λz=>by rw[z,p]at e;cases e),aK (λz=>by rw[z,q]at e;cases e)];exact e
 have j:fD (fD F tl (.lst a)) sh (.ins CS i [("tables",.ref tl),("code",g)]) tl=some (.lst a):=by rw[aK (λz=>r z.symm),bh]
 refine⟨fD (fD F tl (.lst a)) sh (.ins CS i [("tables",.ref tl),("code",g)]),k,λb o e=>?_,?_,?_,?_⟩
 by_cases e1:b=sh
 rw[e1,bh]at e;rw[e1,m];exact e;rw[aK e1]at e
 by_cases f:b=tl
 rw[f,bh]at e;rw[f,n];exact e;rw[aK f]at e;exact s _ _ e;exact⟨sh,i,[.ref tl,g],rfl,bh,rfl,.ref tl,[g],rfl,⟨tl,a,rfl,j,l.mono k⟩,g,[],rfl,u.mono k,rfl⟩;obtain⟨d,ds,e1,f⟩:=t;refine⟨⟨i,_,bh⟩,⟨a,d,ds,j,?_,f⟩⟩;rw[e1]at l;exact l.mono k;funext b
 by_cases e1:b=sh
 rw[e1];unfold c7;rw[iL,p]
 by_cases f:b=tl
 rw[f];unfold c7;rw[jx (λz=>r z.symm),iL,q];rw[fz e1 f,aK e1,aK f]
theorem bx.Pu(g:bx H d f i):bx (c7 H sh tl) (c7 d sh tl) f (c7 i sh tl)where
 same:=λb u e=>g.same b u (eY e).2.2
 aM:=λb u e=>by obtain⟨a,c,h⟩:=eY e;rw[fz a c];exact g.aM b u h
 sub:=λb u e=>g.sub b u (eY e).2.2
 new:=λb z=>by
  have a:b≠sh:=λq=>z (by rw[q];unfold c7;exact iL)
  have c:b≠tl:=λq=>z (by rw[q];unfold c7;by_cases e:tl=sh;(rw[e];exact iL);(rw[jx e];exact iL))
  rw[fz a c]at z;rcases g.new b z with w|w;exact .inl (by rw[fz a c];exact w);exact .inr (by rw[fz a c];exact w)
theorem lE.keep{K}{CS}{H F d b}{sh tl}{a}{code:D}(S:lE K CS H F sh tl a code)(s:bu H d)(f:bu F b)(e:b sh=none)(g:b tl=none):lE K CS d b sh tl a code:=by obtain⟨⟨h,c,i,j,k,l,m⟩,n,o⟩:=S;exact⟨⟨h,c,i,s _ _ j,s _ _ k,l.mono f,m.mono f⟩,e,g⟩
def sO:c7 F sh tl sh=none:=iL
theorem sP:c7 F sh tl tl=none:=by
 unfold c7
 by_cases e:tl=sh
 rw[e];exact iL;rw[jx e];exact iL
theorem bu.c7(h:bu F a):bu (DL.c7 F sh tl) (DL.c7 a sh tl):=λb u e=>by obtain⟨c,d,e⟩:=eY e;rw[fz c d];exact h _ _ e
def zo(K:W.Frag)(CS CT:Addr)(E:XK)(a:List D)(code:D)(g:ak->M b6):TS:=λZ k H=>∃(f:Hp)(e:su)(j:ak)(F:Hp)(b c:Addr),SR K f e j k H F/\e.v=some (.ref b)/\lE K CS f (c7 e.F b c) b c a code/\o8 K CS CT e.F b c/\
 (∃d l,a=d::l/\VD CT d=true)/\aH E f (g j) λr=>∀v h i,bx (c7 f b c) (c7 e.F b c) h i->lE K CS h i b c r.2.1 r.2.2->eW K i r.1 v->Z.rt v h
def qG(CS CT:Addr)(a:List D)(code:D)(d:D):M b6:=if cy CS CT d then .ok (d,a,code)else ao
def cN(CS CT:Addr)(a:List D)(code:D)(f:ak->M Fl)(g:ak->M b6):ak->M b6:=λc=>f c>>=λe=>match e with| .nx b=>g b| .rt d _=>qG CS CT a code d|_=>ao
def jG(CS CT:Addr)(a:List D)(code:D)(f:ak->M Fl):ak->M b6:=cN CS CT a code f λ_=>ao
section
variable{X:Cx}{E:XK}{pos:Pos}{st:Stmt}{sts:List Stmt}{f:ak->M Fl}{e c a b:Expr}{es:List Expr}{fe fa fb:ak->M D}{fs:ak->M (List D)}{CS CT:Addr}{aj:List D}{code:D}{g:ak->M b6}
theorem JZ{K}{j}{k:su}{sh tl}{Q:VK}{d:D}{v:V}{h i:Hp}(A:lE K CS j (c7 k.F sh tl) sh tl aj code)(B:o8 K CS CT k.F sh tl)(gr:bx j k.F h i)(m:eW K i d v)(o:aH E j (qG CS CT aj code d) λr=>∀v h i,bx (c7 j sh tl) (c7 k.F sh tl) h i->lE K CS h i sh tl r.2.1 r.2.2->eW K i r.1 v->Q v h):Q v h:=by
 unfold qG at o
 by_cases l:cy CS CT d=true
 rw[afz l]at o;exact o v h (c7 i sh tl) gr.Pu (A.keep gr.same (bu.c7 gr.aM) sO sP) (eW.c7 (B.mono gr.aM) l m);rw[afy l]at o;exact o.elim
theorem Pw(p:PS X st (gx X.K E f))(r:lS X sts (zo X.K CS CT E aj code g)):lS X (st::sts) (zo X.K CS CT E aj code (cN CS CT aj code f g)):=k6 (mT p r) λZ I H i=>by
 obtain⟨l,m,s,F,u,w,S,x,A,B,y,o⟩:=i;refine⟨l,m,s,F,S,aH.imp (aH.bind o) (.refl _) λz _ q=>?_⟩;cases z with|nx h=>exactλj C n k t=>⟨l,m,h,n,u,w,k,x,A,B,y,q⟩|rt d h=>exactλv j C n k G=>JZ A B k.gr G q|bk h=>exact q.elim|ct h=>exact q.elim
theorem Px(h:lS X sts (gx X.K E f)):lS X sts (zo X.K CS CT E aj code (jG CS CT aj code f)):=k6 h λZ t H j=>by
 obtain⟨k,l,m,F,u,w,S,x,A,B,y,o⟩:=j;refine⟨k,l,m,F,S,aH.imp (aH.bind o) (.refl _) λn _ q=>?_⟩;cases n with|nx i=>exact q.elim|rt d i=>exactλv p z C r s=>JZ A B r.gr s q|bk i=>exact q.elim|ct i=>exact q.elim
def pZ(CS CT:Addr):Option L->Option L
 |~~~d=>if cy CS CT d then ~~~d else none
 |_=>none
def om(CS CT:Addr)(sd:D)(ρ:ak):ak:=match ρ with|[]=>[]|_::r=>~~~sd::r.map (pZ CS CT)
theorem SR.rebase{K}(S:SR K W u ρ w H F)(A:u.v=some (.ref sh))(B:o8 K CS CT F sh tl)(f:bu (c7 F sh tl) G)(g:bu G l)(s:bu l n)(r:eW K l sd (.ref sh)):
  SR K n ⟨l,some (.ref sh)⟩ (om CS CT sd ρ) w n l:=by
 have pin:=S.pin _ A;have h:∀i x,(om CS CT sd ρ)[i]?=some (some x)->(i=0/\x=.J sd)\/∃d,x=.J d/\ρ[i]?=some (~~~d)/\cy CS CT d=true:=λi x e=>by
  cases ρ with
  |nil=>simp[om]at e
  |cons y r=>
   cases i with
   |zero=>injection e with e;injection e with e;exact .inl ⟨rfl,e.symm⟩
   |succ j=>
    unfold om at e;rw[ag1,afF]at e;cases q:r[j]? with
    |none=>rw[q]at e;cases e
    |some z=>
     rw[q]at e;have e:pZ CS CT z=some x:=by injection e
     cases z with
     |none=>cases e
     |some z=>
      cases z with
      |J d=>
       have e:(if cy CS CT d then some (L.J d)else none)=some x:=e
       by_cases m:cy CS CT d=true
       rw[afz m]at e;injection e with e;exact .inr ⟨d,e.symm,by rw[ag1];exact q,m⟩;rw[afy m]at e;cases e
      |ow I=>cases e
      |ce C Z I=>cases e
 refine⟨.refl s,λv e=>by injection e with e;subst e;exact pin,?_,λi d e=>?_,λi x e o=>?_,λi j x y a N e1 p _ _ _ _=>?_⟩;rw[<-S.len];cases ρ with|nil=>rfl|cons y r=>simp[om]
 rcases h i _ e with⟨rfl,z⟩|⟨t,k,P,Q⟩;injection z with z;subst z;exact⟨_,pin,r⟩;injection k with k;subst k;obtain⟨v,R,T⟩:=S.J i _ P;exact⟨v,R,((eW.c7 B Q T).mono f).mono g⟩;rcases h i _ e with⟨_,z⟩|⟨t,k,_⟩;subst z;cases o;subst k;cases o;rcases h i _ e1 with⟨_,z⟩|⟨t,k,_⟩;subst z;cases p;subst k;cases p
def Py(d:D->M D)(aj:List D)(k:Int)(t:D):M (List D):=d t>>=λh=>match B6 aj.length k with|some j=>.ok (aj.set j h)|none=>ao
def spP(K:W.Frag)(CS CT:Addr)(m:D->M D):Sp:=λn H Q E=>∃(F:Hp)(d h:Addr)(aj:List D)(code:D)(k:Int)(t:D)(j:V),n=[.ref d,.int k,j]/\lE K CS H F d h aj code/\bu F H/\eW K F t j/\
 aH E H (Py m aj k t) λtabs'=>∀i l,bx (c7 H d h) F i l->lE K CS i l d h tabs' code->Q .cK i
def kF(CT:Addr):List D->Bool|d::_=>VD CT d|[]=>false
theorem sQ(h:kF CT ds=true):∃d es,ds=d::es/\VD CT d=true:=by
 cases ds with
 |nil=>cases h
 |cons d es=>exact⟨d,es,rfl,h⟩
def cS(CS CT:Addr)(i:D->M D)(aj:List D)(code:D)(fs:ak->M (List D))(fe:ak->M D):ak->M b6:=λh=>fs h>>=λj=>two j>>=λp=>eO p.1>>=λk=>if cy CS CT p.2 then Py i aj k p.2>>=λtabs'=>if kF CT tabs' then(match fe (om CS CT (au CS tabs' code) h)with
 | .ok d=>qG CS CT tabs' code d
 | .error _=>ao)else ao else ao
theorem Sb{k:Nat}{fa}{fd:FuncData}{ps:List Str}{T}{y:Str}{h I m rp:Pos}{pl}(cl:vj X.K CS)(hm:Bd X.K CS "put" fa)(Fn:eH X.prog X.w X.K X.mg X.base (kB X.prog X.w) k fa fd ps (spP X.K CS CT T))(G:Good X E)(hr:cG k X.A)(hb:Binds X.K fd ps [])(ha:PA X (a::es) (uQ X.K E fs))(he:PE X e (tD X.K E fe))(hN:X.N[0]?=some y:=by rfl) (P:Av X.env.scope y:=by walk_at "v") (W:(y==("__debug__":Str))=false:=by decide) (h1:(y==("__classdict__":Str))=false:=by decide) (xs:starEach (a::es) X.env=(false,eval a X.env)::starEach es X.env:=by rfl) (kI:(backTo m (starEach es X.env)).any (·.1)=false:=by rfl)(h2:eval (.Call (.Attribute (.Name y I) "put" h) (a::es) [] m) X.env=(do
   let ov<-eval (.Name y I) X.env
   standAt h.atName
   let(f,first)<-holding [ov] (getMethod ov "put" pl)
   callWith m f first (backTo m (starEach (a::es) X.env)) (backToKw m (keywordEach [] X.env))):=by rfl) (hs:swapsWith (.Call (.Attribute (.Name y I) "put" h) (a::es) [] m) none pos.line X.env=pure false:=by rfl):
  lS X [.Expr (.Call (.Attribute (.Name y I) "put" h) (a::es) [] m) pos,.Return (some e) rp] (zo X.K CS CT E aj code (cS CS CT T aj code fs fe)):=
 k6 (mT (uN (wZ (pl:=pl) (f6 hN P W h1) cl hm Fn hr hb .nil G.passes ha xs kI h2) hs) (mj (vS he))) λZ σ H hi=>by
  obtain⟨l,Q,ρ,F,sh,tl,S,P,A,B,T,o⟩:=hi;have pin:=S.pin _ P;obtain⟨⟨dx,hl,hp⟩,_⟩:=id B;obtain⟨⟨ns,hk,cv,a1,a2,a3,a4⟩,_,_⟩:=id A;refine⟨_,pin,sh,ns,_,rfl,S.gr.same _ _ a1,rfl,v7 S o λds vs H1 F1 _ g1 j r1 i=>?_⟩;have i:aH E l (two ds>>=λp=>eO p.1>>=λk=>if cy CS CT p.2 then Py _ aj k p.2>>=λtabs'=>if kF CT tabs' then(match fe (om CS CT (au CS tabs' code) ρ)with| .ok d=>qG CS CT tabs' code d| .error _=>ao)else ao else ao) _:=i;cases q:two ds with
  |error c=>rw[q,G0 q]at i;exact i.elim
  |ok p=>
   rw[q]at i;have e0:=L0 q;obtain⟨x,t⟩:=p;subst e0;obtain⟨v,tv,e1,r2,r3⟩:=RB r1;subst e1;cases x with
   |int k=>
    have e2:v=.int k:=r2;subst e2;have i:aH E l (if cy CS CT t then Py _ aj k t>>=λtabs'=>if kF CT tabs' then(match fe (om CS CT (au CS tabs' code) ρ)with| .ok d=>qG CS CT tabs' code d| .error _=>ao)else ao else ao) _:=i
    by_cases hc:cy CS CT t=true
    rw[afz hc]at i;have B1:o8 X.K CS CT F1 sh tl:=B.mono j.gr.aM;have s2:bu (c7 F1 sh tl) H1:=λb u z=>j.gr.sub _ _ (eY z).2.2
    have A1:lE X.K CS H1 (c7 F1 sh tl) sh tl aj code:=A.keep j.gr.same (bu.c7 j.gr.aM) sO sP;refine⟨c7 F1 sh tl,sh,tl,aj,code,k,t,tv,rfl,A1,s2,eW.c7 B1 hc r3,(aH.bind i).imp j.gr.same λtabs' _ z H2 F2 g2 A2=>?_⟩
    by_cases hh:kF CT tabs'=true
    rw[afz hh]at z;obtain⟨Fs,f1,f2,f3,f4,f5⟩:=A2.bE (CT:=CT) g2.sub (sQ hh);have S2:=j.rebase (CS:=CS) (CT:=CT) (sd:=au CS tabs' code) P B1 g2.aM f1 f2 f3;refine⟨H2,⟨Fs,some (.ref sh)⟩,_,Fs,S2,?_⟩;rw[cM];cases qf:fe (om CS CT (au CS tabs' code) ρ)with
    |error c=>rw[qf]at z;exact z.elim
    |ok d=>
     rw[qf]at z;have z:aH E l (qG CS CT tabs' code d) λr=>∀v H' F',bx (c7 l sh tl) (c7 Q.F sh tl) H' F'->lE X.K CS H' F' sh tl r.2.1 r.2.2->eW X.K F' r.1 v->Z.rt v H':=z
     intro v H3 F3 C rv;have R:bx (c7 l sh tl) (c7 Q.F sh tl) H2 (c7 Fs sh tl):=by have hj:bx (c7 l sh tl) (c7 Q.F sh tl) (c7 H1 sh tl) (c7 F1 sh tl):=⟨bu.c7 j.gr.same,bu.c7 j.gr.aM,bu.c7 j.gr.sub,(j.gr.Pu (sh:=sh) (tl:=tl)).new⟩;rw[f5];exact hj.trans g2
     have gB:bx (c7 l sh tl) (c7 Q.F sh tl) H3 (c7 F3 sh tl):=by
      have n:=C.Pu (sh:=sh) (tl:=tl);refine⟨λb u w=>?_,R.aM.trans n.aM,n.sub,λb w=>?_⟩;exact C.same _ _ (R.same _ _ w);rcases n.new b w with y|y;exact R.new b y;right;cases qq:c7 l sh tl b with
      |none=>rfl
      |some u=>have y2:=R.same _ _ qq;obtain⟨n1,n2,_⟩:=eY qq;rw[fz n1 n2]at y;rw[y]at y2;cases y2
     unfold qG at z
     by_cases s:cy CS CT d=true
     rw[afz s]at z;exact z v H3 (c7 F3 sh tl) gB (A2.keep C.same (by rw[<-f5];exact bu.c7 C.aM) sO sP) (eW.c7 (f4.mono C.aM) s rv);rw[afy s]at z;exact z.elim
    rw[afy hh]at z;exact z.elim;rw[afy hc]at i;exact i.elim
   |_=>exact i.elim
def VE(CS CT:Addr)(tabs':List D)(code':D)(fe:ak->M D)(ρ:ak):M b6:=if kF CT tabs' then(match fe (om CS CT (au CS tabs' code') ρ)with
 | .ok d=>qG CS CT tabs' code' d
 | .error _=>ao)else ao
theorem Sd{K:W.Frag}(n:SR K h i ρ T C F1)(Z:i.v=some (.ref sh))(B:o8 K CS CT i.F sh tl)(s:bx (c7 C sh tl) (c7 F1 sh tl) p F2)(G:lE K CS p F2 sh tl tabs' code')(z:aH E h (VE CS CT tabs' code' fe ρ) λr=>∀v j k,bx (c7 h sh tl) (c7 i.F sh tl) j k->lE K CS j k sh tl r.2.1 r.2.2->eW K k r.1 v->Q v j):tD K E fe T p Q:=by
 unfold VE at z;have B1:o8 K CS CT F1 sh tl:=B.mono n.gr.aM
 by_cases t:kF CT tabs'=true
 rw[afz t]at z;obtain⟨x,f1,f2,f3,f4,H⟩:=G.bE (CT:=CT) s.sub (sQ t);have S2:=n.rebase (CS:=CS) (CT:=CT) (sd:=au CS tabs' code') Z B1 s.aM f1 f2 f3;refine⟨p,⟨x,some (.ref sh)⟩,_,x,S2,?_⟩;rw[cM];cases I:fe (om CS CT (au CS tabs' code') ρ)with
 |error c=>rw[I]at z;exact z.elim
 |ok d=>
  rw[I]at z;have z:aH E h (qG CS CT tabs' code' d) λr=>∀v j k,bx (c7 h sh tl) (c7 i.F sh tl) j k->lE K CS j k sh tl r.2.1 r.2.2->eW K k r.1 v->Q v j:=z
  intro v N P o rv;have q:bx (c7 h sh tl) (c7 i.F sh tl) p (c7 x sh tl):=by have A:bx (c7 h sh tl) (c7 i.F sh tl) (c7 C sh tl) (c7 F1 sh tl):=⟨bu.c7 n.gr.same,bu.c7 n.gr.aM,bu.c7 n.gr.sub,(n.gr.Pu (sh:=sh) (tl:=tl)).new⟩;rw[H];exact A.trans s
  have gB:bx (c7 h sh tl) (c7 i.F sh tl) N (c7 P sh tl):=by
   have l:=o.Pu (sh:=sh) (tl:=tl);refine⟨λb u w=>?_,q.aM.trans l.aM,l.sub,λb w=>?_⟩;exact o.same _ _ (q.same _ _ w);rcases l.new b w with y|y;exact q.new b y;right;cases R:c7 h sh tl b with
   |none=>rfl
   |some u=>have S:=q.same _ _ R;obtain⟨n1,n2,_⟩:=eY R;rw[fz n1 n2]at y;rw[y]at S;cases S
  unfold qG at z
  by_cases m:cy CS CT d=true
  rw[afz m]at z;exact z v N (c7 P sh tl) gB (G.keep o.same (by rw[<-H];exact bu.c7 o.aM) sO sP) (eW.c7 (f4.mono o.aM) m rv);rw[afy m]at z;exact z.elim
 rw[afy t]at z;exact z.elim
def mZ(CS CT:Addr)(aj:List D)(fa fe:ak->M D):ak->M b6:=λd=>fa d>>=λcode'=>if cy CS CT code' then VE CS CT aj code' fe d else ao
theorem Pz(cl:vj X.K CS)(G:aZ X.K CS "code")(I:PE X a (tD X.K E fa))(he:PE X e (tD X.K E fe))(P:X.N[0]?=some y:=by rfl)(i:Av X.env.scope y:=by walk_at "v")(l:(y==("__debug__":Str))=false:=by decide)(m:(y==("__classdict__":Str))=false:=by decide)(hs:swapsWith a (some (.Attribute (.Name y Q) "code" R)) pos.line X.env=pure false:=by rfl):lS X [.Assign [.Attribute (.Name y Q) "code" R] a pos,.Return (some e) rp] (zo X.K CS CT E aj code (mZ CS CT aj fa fe)):=
 k6 (mT (Rb (f6 P i l m) I hs) (mj (vS he))) λZ σ H n=>by
  obtain⟨H0,F0,ρ,F,j,tl,S,i,A,B,ht,o⟩:=n;refine pV S o λd v H1 F1 _ g1 h T k=>?_
  have pin:=h.pin _ i;obtain⟨⟨t,p,W,x,C,a3,a4⟩,_,_⟩:=id A
  by_cases q:cy CS CT d=true
  rw[afz q]at k;have B1:o8 X.K CS CT F1 j tl:=B.mono h.gr.aM;have e1:nW "code" v [(("tables":Str),V.ref tl),("code",W)]=[(("tables":Str),V.ref tl),("code",v)]:=by show(if("tables":Str)="code" then _ else(("tables":Str),V.ref tl)::(if("code":Str)="code" then _ else _))=_;rw[afy (by decide),afz rfl]
  have r:=h.gr.same _ _ x;have ne:j≠tl:=QM x C (by intro z;cases z);refine⟨_,pin,j,CS,t,_,rfl,r,cl,G,(by show 2<1000;decide),?_⟩;rw[e1];refine Sd h i B (F2:=c7 F1 j tl) (tabs':=aj) (code':=d) ⟨λb u w=>?_,.refl _,λb u w=>?_,λb w=>.inl w⟩ ⟨⟨t,p,v,bh,?_,?_,?_⟩,sO,sP⟩ k;obtain⟨s,n2,w⟩:=eY w;rw[aK s];exact w;obtain⟨s,n2,w⟩:=eY w;rw[aK s];exact h.gr.sub _ _ w;rw[aK (λz=>ne z.symm)];exact h.gr.same _ _ C;exact a3.mono (bu.c7 h.gr.aM);exact eW.c7 B1 q T;rw[afy q]at k;exact k.elim
def jT(CS CT:Addr)(n:Nat)(h:List D->D->List D->M b6)(aj:List D)(code:D)(fs:ak->M (List D))(cs:List D->Bool):ak->M b6:=λi=>fs i>>=λd=>if d.length=n/\cs d=true then h aj code d else ao
def fR(CS CT:Addr):D->Bool| .fn _=>true|d=>cy CS CT d
theorem eW.PB{K}(S:o8 K CS CT F sh tl)(h:fR CS CT d=true)(r:eW K F d v):eW K (DL.c7 F sh tl) d v:=by
 cases d with|fn a=>exact r|_=>exact eW.c7 S h r
theorem aR.PB{K}(S:o8 K CS CT F sh tl):∀{ds:List D}{vs:List V},ds.all (fR CS CT)=true->aR K F ds vs->aR K (DL.c7 F sh tl) ds vs|[],_,_,h=>h|d::ds,_,i,⟨v,r,j,k,l⟩=>by rw[ah7,afL]at i;exact⟨v,r,j,eW.PB S i.1 k,aR.PB S i.2 l⟩
theorem YS{K}(i:SR K l m ρ H q F1)(A:lE K CS l (c7 m.F sh tl) sh tl aj code)(B:o8 K CS CT m.F sh tl)(s:∃d ds,aj=d::ds/\VD CT d=true)(t:aR K F1 ds vs)(w:ds.length=n)(x:ds.all (fR CS CT)=true)(o:aH E l (h aj code ds) λr=>∀v j k,bx (c7 l sh tl) (c7 m.F sh tl) j k->lE K CS j k sh tl r.2.1 r.2.2->eW K k r.1 v->Q v j):WZ K CS CT n h (.ref sh::vs) q Q E:=by have y:o8 K CS CT F1 sh tl:=B.mono i.gr.aM;refine⟨c7 F1 sh tl,sh,tl,aj,code,ds,vs,rfl,A.keep i.gr.same (bu.c7 i.gr.aM) sO sP,λb u z=>i.gr.sub _ _ (eY z).2.2,aR.PB y x t,w,s,o.imp i.gr.same λr _ z v j k g C G=>?_⟩;have p:bx (c7 l sh tl) (c7 m.F sh tl) (c7 q sh tl) (c7 F1 sh tl):=⟨bu.c7 i.gr.same,bu.c7 i.gr.aM,bu.c7 i.gr.sub,(i.gr.Pu (sh:=sh) (tl:=tl)).new⟩;exact z v j k (p.trans g) C G
theorem PD{k n:Nat}{fa}{t:FuncData}{ps:List Str}{h:List D->D->List D->M b6}{x y:Str}{p j u:Pos}(v:eH X.prog X.w X.K X.mg X.base (kB X.prog X.w) k fa t ps (WZ X.K CS CT n h))(G:Good X E)(z:cG k X.A)(C:Gl X x)(I:X.mg x=some (.ref fa))(P:W.keepIn X.K (.ref fa)=true) (Q:Binds X.K t ps []) (R:PA X es (uQ X.K E fs)) (T:X.N[0]?=some y:=by rfl) (l:Av X.env.scope y:=by walk_at "v") (m:(x==("__debug__":Str))=false:=by decide) (q:(y==("__debug__":Str))=false:=by decide) (r:(y==("__classdict__":Str))=false:=by decide) (he:starEach (.Name y j::es) X.env=(false,eval (.Name y j) X.env)::starEach es X.env:=by rfl)(kI:(backTo pos (starEach es X.env)).any (·.1)=false:=by rfl):lS X [.Return (some (.Call (.Name x p) (.Name y j::es) [] pos)) u] (zo X.K CS CT E aj code (jT CS CT n h aj code fs λds=>ds.all (fR CS CT))):=
 k6 (mj (vS (BA v z C I P Q .nil G.passes (iA (f6 T l q r) R he) m he kI))) λZ σ H s=>by
  obtain⟨H0,F0,ρ,F,sh,tl,S,l,A,B,ht,o⟩:=s;have pin:=S.pin _ l;refine⟨_,pin,v7 S o λds vs H1 F1 _ g1 S1 r1 d=>?_⟩;show WZ X.K CS CT n h ((.ref sh::vs)++[]) H1 Z.rt E;rw[agh]
  by_cases i:ds.length=n/\ds.all (fR CS CT)=true
  rw[afz i]at d;exact YS S1 A B ht r1 i.1 i.2 d;rw[afy i]at d;exact d.elim
end
def kE(CS:Addr)(b:List D->D->ak->M b6)(n:Nat)(a:List D)(code:D)(args:List D):M b6:=b a code (ai n (au CS a code::args))
theorem PJ{K}(s:bu F H)(r:aR K F (d::ds) (v::vs)):SR K H ⟨F,some v⟩ (ai N.length (d::ds)) (L2.start N (v::vs)) H F:=by have S:=xD (N:=N) s r;refine⟨S.gr,λw e=>?_,S.len,S.J,S.mine,S.ne⟩;injection e with e;subst e;unfold L2.start;rfl
section
variable{P:Program}{w:World}{K:W.Frag}{mg:afs}{base:Heap}
theorem okS{x b:Str}{st}{f:Addr}{p}{N ps}{k n:Nat}{CS CT:Addr}{q}(F:LX K x b st f p)(S:fj N ps (aP st))(I:ps.length=n+1)(d:∀(a:List D)(code:D)(c:Value)(A:Around)(aN:List Env)(s:Shared)(H:Hp)(E:XK),cG k (A.deeper (envOfC b (aP st) s.heap.objs.size f c))->
   lS (mq (kB P w) P w K mg base N b (aP st) f c A aN s H E) (gG st) (zo K CS CT E a code (q a code))):eH P w K mg base (kB P w) (k+1) f p ps (WZ K CS CT n (kE CS q N.length)):=by
 refine F.ZQ S (λR H Q E zz=>by obtain⟨T,h,i,a,code,args,l,e,_,_,r,t,_⟩:=zz;subst e;rw[af5,<-r.length,t,I]) λc A aN s H R Q E X m=>?_
 obtain⟨T,h,i,a,code,args,l,e,u,Z,r,t,y,o⟩:=m;subst e;obtain⟨j,f1,f2,f3,f4,B⟩:=u.bE (CT:=CT) Z y;refine⟨_,d a code c A aN s H E X,H,⟨j,some (.ref h)⟩,ai N.length (au CS a code::args),j,h,i,PJ f2 ⟨_,_,rfl,f3,r.mono f1⟩,rfl,?_,f4,y,?_⟩;show lE K CS H (c7 j h i) h i a code;rw[B];exact u;refine aH.imp o (.refl _) λr _ z v C G g A' rv=>?_
 have g:bx (c7 H h i) (c7 j h i) C G:=g;rw[B]at g;exact z v C G g A' rv
end
section
variable{M:Model}{A:Around}{E:afr}
variable{nm q nm' q':Str}{C N C' N':Addr}{bs bm bs' bm':List Value}{hdct aa5:Bool}{sn sn':List Str}{sub sub':List Value}{ab ab':Bool}{col col':Option Bool}{dd dd':Option Addr}{k0 k1 k2 k3 k5 k0' k1' k2' k3' k5':Option Value}{newId newId':String}
theorem Ep{h:Heap}{g}{d}{t:Nat}{os}{e:Addr}{i:Obj}{Q}(j:h.get? C=some (excClassObj nm q C N bs bm hdct sn sub ab col dd k0 k1 k2 k3 k5 newId)) (a:h.get? C'=some (excClassObj nm' q' C' N' bs' bm' aa5 sn' sub' ab' col' dd' k0' k1' k2' k3' k5' newId')) (he:h.get? e=some i) (hcls:i.cls=.ref C) (l5:bm'.contains (.type "BaseException")=true) (b:(Value.ref C::bm).contains (.ref C')=false)(k:Q false ⟨h,g,d,t,os⟩):wpAny M A (excMatches (.ref e) (.ref C')) Q E ⟨h,g,d,t,os⟩:=by
 have c:(Value.ref C'::bm').contains (.type "BaseException")=true:=by rw[ag9,l5,Bool.or_true]
 have f:=tc_notTuple;unfold excMatches
 repeat (first|(with_reducible refine wpAny_loadPart_at he ?_;rw[hcls])|with_reducible refine wpAny_loadPart_at a ?_|(with_reducible refine wpAny_isSubtype_exc a ?_;rw[c])|(with_reducible refine wpAny_isSubtype_exc j ?_;rw[b])|wp_step)
 exact k
end
abbrev zq(X:Cx)(e:Addr)(xe:afr):Cx:={X with A:=X.A.mark (some (.ref e)),calm:=false,xe:=xe}
theorem Inv.zq(I:L2.Inv X aC a H s)(e)(xe):L2.Inv (DL.zq X e xe) aC a H s:=
 ⟨⟨I.ok.mod,I.ok.kind,I.ok.glob,I.ok.blt,I.ok.above,I.ok.inj,I.ok.has,I.ok.ZL,(λz=>(nomatch z)),I.ok.frames,I.ok.stk,I.ok.exf,I.ok.bs,I.ok.QO,I.ok.OQ,I.ok.OR,I.ok.yY,I.ok.WE⟩,I.os,I.bare,I.base,I.loc,I.cell,I.free,I.l0,I.pin,I.hok,I.len⟩
theorem Inv.freed(ok:X.Ok)(I:L2.Inv (DL.zq X e xe) aC a H s):L2.Inv X aC a H s:=
 ⟨ok,I.os,I.bare,I.base,I.loc,I.cell,I.free,I.l0,I.pin,I.hok,I.len⟩
structure adu(X:Cx)(h:ExceptHandler)(C:Addr)(n:Int):Prop where
 row:∃y np j cp up lp rp hp,h=.ExceptHandler (some (.Name y np)) none [.Return (some (.List [.UnaryOp .USub (.Constant (.int n) j cp) up] lp)) rp] hp/\Gl X y/\X.mg y=some (.ref C)/\(y==("__debug__":Str))=false
 cls:iu X.K C
inductive m5(X:Cx):List ExceptHandler->List (Addr×Int)->Prop
 |nil:m5 X [] []
 |cons {h:ExceptHandler} {hs:List ExceptHandler} {C:Addr} {n:Int} {cs:List (Addr×Int)}:adu X h C n->m5 X hs cs->m5 X (h::hs) ((C,n)::cs)
def YT(cs:List (Addr×Int))(K:W.Frag)(D:BZ):XK:=λa _ H=>∃C n,a=.ref C/\iu K C/\cs.lookup C=some n/\∀p,H p=none->D.rt (.ref p) (fD H p (.lst [.int (-n)]))
theorem handled{X:Cx}{g}{E:St}{H:Hp}{s:Shared}{e C}{D:BZ}{n:Int}(y:vv X g)(Q:X.pn=[])(I:L2.Inv X [] E H s)(x:LH true g H s.heap e (.ref C))(c:iu X.K C)(R:∀p,H p=none->D.rt (.ref p) (fD H p (.lst [.int (-n)]))):
  ∀{hs:List ExceptHandler}{cs:List (Addr×Int)},m5 X hs cs->cs.lookup C=some n->wpAny (model X.prog X.w) X.A (handleBy (.ref e) X.env hs) (SP X [] D) X.xe s:=by
 intro hs cs S
 induction S with
 |nil=>intro q;cases q
 |@cons h hs F G cs r _ T=>
  intro q;obtain⟨⟨yy,np,j,cp,up,lp,rp,W,rfl,Z,hm,hd⟩,c'⟩:=r;obtain⟨nm,qn,N,bs,hdct,sn,sub,ab,ds,dd,k0,k1,k2,k3,k5,mN,hl,_,_⟩:=c.ex;obtain⟨h1,xs,N',h2,l,hi,sub',hb,col',ps,hc,ns,hj,e2,ha,mg,m,_,_⟩:=c'.ex;obtain⟨oe,vs,k,hcls,_⟩:=x.ex;refine wpAny_handleBy_cons (codeAny_handlers_test (uM (X:=DL.zq X e X.xe) (DL.Inv.zq I e X.xe) Z hm ?_ hd)) (by intro z;cases z);have P:=I.E1 _ _ hl;have o:=I.E1 _ _ m;obtain⟨hh,gg,d,tk,os⟩:=s
  by_cases t:C=F
  ·subst t;have en:G=n:=by
    rw[agM,ag5]at q;exact af2 q
   subst en;refine wpAny_excMatches_sub_self P k hcls (by decide) (codeAny_handlers_suite ?_);refine L2.Inv.flight Q y I x λh' I' x'=>?_
   have I2:=DL.Inv.zq I' e (notedBy (model X.prog X.w) (X.A.mark (some (.ref e))) X.env (cameBackBy (model X.prog X.w) X.A X.env X.xe));refine fP (mj (vS (LR (iA (WK Q6 LL) qy))) [] _ E H D I2 ⟨G,rfl,(by show 1<=sizeLine;decide),R⟩) λf s2 hs=>?_
   cases f with|next=>obtain⟨a,b,i,z⟩:=hs;exact⟨a,b,DL.Inv.freed I.ok i,z⟩|brk=>obtain⟨a,b,i,z⟩:=hs;exact⟨a,b,DL.Inv.freed I.ok i,z⟩|cont=>obtain⟨a,b,i,z⟩:=hs;exact⟨a,b,DL.Inv.freed I.ok i,z⟩|ret u=>obtain⟨v,a,b,i,rv,z⟩:=hs;exact⟨v,a,b,DL.Inv.freed I.ok i,rv,z⟩
  have B:(Value.ref C::[Value.type "Exception",.type "BaseException",.type "object"]).contains (.ref F)=false:=by simp[Ne.symm t]
  refine Ep P o k hcls (by decide) B ?_;refine T ?_;rw[agM]at q;rw[agq.mpr t]at q;exact q
theorem YU{X:Cx}{F:XK}{body}{h₀}{hs}{o:Pos}{cs:List (Addr×Int)}{t:BZ->TS}(G:Good X F)(Q:m5 X (h₀::hs) cs)(R:∀(D:BZ)(xe:afr),Good (X.cI xe) (YT cs X.K D)->lS (X.cI xe) body (t D)):PS0 X [.Try body (h₀::hs) [] [] o] (λD p H=>t {D with nx:=λ_ _=>False} {D with nx:=λ_ _=>False} p H):=by
 intro s p H D I h
 let j:BZ:={D with nx:=λ_ _=>False}
 let xe:afr:=λe k=>wpAny (model X.prog X.w) X.A (noteFrame e X.env) (λ_ b=>wpAny (model X.prog X.w) X.A (setFlight e none) (λ_ d=>wpAny (model X.prog X.w) X.A (handleBy e X.env (h₀::hs)) (SP X [] j) X.xe d) X.xe b) X.xe k
 have S:Good (X.cI xe) (YT cs X.K j):=by
  refine⟨λg a i s' e C tt y r x T=>?_,G.calm,G.pn,G.frame⟩;obtain⟨C0,n,rfl,c,W,Z⟩:=T;have r:L2.Inv X [] a i s':=r.sD;have N:vv X g:=⟨y.s0,y.loc,y.cell⟩;have Gt:Good (X.cI λ_ _=>True) F:=⟨λ_ _ _ _ _ _ _ _ _ _ _=>trivial,G.calm,G.pn,G.frame⟩;show wpAny (model X.prog X.w) X.A (noteFrame (.ref e) X.env) _ _ s';refine Gt.note (X:=X.cI λ_ _=>True) ⟨y.s0,y.loc,y.cell⟩ (r.cI _) x λh1 B x1=>?_
  have B:L2.Inv X [] a i {s' with heap:=h1}:=B.sD;refine L2.Inv.flight G.pn N B x1 λh2 I2 x2=>?_
  exact handled (D:=j) N G.pn I2 x2 c Z Q W
 have E:=R j xe S [] s p H j (I.cI xe) h;refine aia (wpAny_Try_except (ahf E (λf P q=>?_) λe P q=>?_))
 ·cases f with|next=>obtain⟨_,_,_,z⟩:=q;exact z.elim|brk=>obtain⟨a,i,l,z⟩:=q;exact⟨a,i,l.sD,z⟩|cont=>obtain⟨a,i,l,z⟩:=q;exact⟨a,i,l.sD,z⟩|ret u=>obtain⟨v,a,i,l,rv,z⟩:=q;exact⟨v,a,i,l.sD,rv,z⟩
 ·have q:wpAny (model X.prog X.w) X.A (noteFrame e X.env) (λ_ b=>wpAny (model X.prog X.w) X.A (setFlight e none) (λ_ d=>wpAny (model X.prog X.w) X.A (handleBy e X.env (h₀::hs)) (SP X [] j) X.xe d) X.xe b) X.xe P:=q;refine fP q λ_ s2 q2=>fP q2 λ_ s3 q3=>fP q3 λf s4 m=>?_
  cases f with|next=>obtain⟨_,_,_,z⟩:=m;exact z.elim|brk=>exact m|cont=>exact m|ret u=>exact m
theorem SR.nameNew{K}(S:SR K r C ρ s H F)(i)(E:i≠0)(G:r p=none)(I:F p=none)(t:iI K H F p x)(g:∀(j:Nat)(y:L),ρ[j]?=some (some y)->y.own=true->s[j]?=some (some (.ref p))->False):SR K r C (ρ.set i (some x)) (s.set i (some (.ref p))) H F:=by refine⟨S.gr,λw e=>by rw[afD E];exact S.pin w e,by rw[afZ,afZ];exact S.len,λj d e=>?_,λj y e N=>?_,λj k y z a h e1 v A B b c=>?_⟩;rcases cZ e with⟨_,z,_⟩|⟨f,z⟩;injection z with z;have:=t.own;rw[<-z]at this;cases this;obtain⟨u,b,c⟩:=S.J j d z;exact⟨u,by rw[afD (λq=>f q.symm)];exact b,c⟩;rcases cZ e with⟨rfl,z,l⟩|⟨f,z⟩;injection z with z;subst z;exact⟨p,afK (by rw[<-S.len];exact l),I,G,t⟩;obtain⟨a,b,c⟩:=S.mine j y z N;exact⟨a,by rw[afD (λq=>f q.symm)];exact b,c⟩;rcases cZ e1 with⟨rfl,n,l⟩|⟨f,n⟩;rcases cZ A with⟨P,_,_⟩|⟨o,m⟩;exact absurd P.symm h;rw[afK (by rw[<-S.len];exact l)]at b;rw[afD (λq=>o q.symm)]at c;injection b with b;injection b with b;injection b with b;subst b;exact g k z m B c;rcases cZ A with⟨rfl,m,l⟩|⟨o,m⟩;rw[afK (by rw[<-S.len];exact l)]at c;rw[afD (λq=>f q.symm)]at b;injection c with c;injection c with c;injection c with c;subst c;exact g j y n v b;rw[afD (λq=>f q.symm)]at b;rw[afD (λq=>o q.symm)]at c;exact S.ne j k y z a h n v m B b c
def aa6(K:W.Frag)(n:Nat)(h:L->List D->M (List D×L)):Sp:=λe H Q E=>∃(F:Hp)(p:Addr)(x:L)(args:List D)(a:List V),e=.ref p::a/\iI K H F p x/\F p=none/\bu F H/\aR K F args a/\args.length=n/\
 aH E (xC H p) (h x args) λr=>∀q d c b,bx (xC H p) F c b->b p=none->iI K c b p r.2->H q=none->b q=none->q≠p->c q=some (.lst d)->aR K b r.1 d->Q (.ref q) c
section
variable{X:Cx}{E:XK}{pos:Pos}{e c a b:Expr}{es:List Expr}{fe fa fb:ak->M D}{fs:ak->M (List D)}{fr:ak->M (D×ak)}
def VF(f:ak->M D)(lo g:DP):ak->M (List D):=λd=>f d>>=λx=>lo d>>=λl=>g d>>=λu=>El x>>=λh=>.ok (cutD h l u)
theorem YV{lo g:Option Expr}{h i}{r:Pos}(he:PE X e (tD X.K E fe))(s:PO X lo (Yo X.K E h))(t:PO X g (Yo X.K E i)):PE X (.Subscript e (.Slice lo g none r) pos) (Vf X.K E (VF fe h i)):=
 bJ (Jp Nq he s t) λW H Q d=>by
  obtain⟨Z,F0,ρ,F,S,o⟩:=d;refine fH S o λx v H1 F1 _ w y z A=>GY y A λl H2 F2 _ j B C=>GY B C λu H3 G _ k I f=>?_
  obtain⟨N,p,m,e1,P,n,f⟩:=Rx I.gr.sub (z.mono (j.trans k).aM) f;refine⟨p,m,e1,P,λq R=>?_⟩;have T:aR X.K G (cutD N l u) (Jr m l u):=by unfold cutD Jr;rw[n.length];exact(n.drop _).take _
  exact Vp f ((w.trans j).trans k) R T
def YW(i j n:Nat)(C:Addr)(m:Str)(h:L->List D->M (List D×L))(fs:ak->M (List D)):ak->M Fl:=λd=>cV i d>>=λx=>cellOf C m x>>=λ_=>fs d>>=λf=>if f.length=n then h x f>>=λr=>.ok (.nx ((d.set i (some r.2)).set j (some (.ow r.1))))else ao
theorem VG(i j:Nat){k n:Nat}{C fa:Addr}{fd:FuncData}{ps:List Str}{h:L->List D->M (List D×L)}{m y z:Str}{l P t pos':Pos}{pl:Sem Bool}(cl:vj X.K C)(hm:Bd X.K C m fa)(Fn:eH X.prog X.w X.K X.mg X.base (kB X.prog X.w) k fa fd ps (aa6 X.K n h))(G:Good X E)(hr:cG k X.A)(hb:Binds X.K fd ps [])(Q:X.N.Nodup)(ha:PA X (e::es) (uQ X.K E fs))(h0:j≠0:=by decide)(cd:i≠j:=by decide)(hN:X.N[i]?=some y:=by rfl) (hv:Av X.env.scope y:=by walk_at "v") (R:(y==("__debug__":Str))=false:=by decide) (T:(y==("__classdict__":Str))=false:=by decide) (W:starEach (e::es) X.env=(false,eval e X.env)::starEach es X.env:=by rfl) (kI:(backTo t (starEach es X.env)).any (·.1)=false:=by rfl)(ht:eval (.Call (.Attribute (.Name y P) m l) (e::es) [] t) X.env=(do
   let ov<-eval (.Name y P) X.env
   standAt l.atName
   let(f,first)<-holding [ov] (getMethod ov m pl)
   callWith t f first (backTo t (starEach (e::es) X.env)) (backToKw t (keywordEach [] X.env))):=by rfl)
  (hj:X.N[j]?=some z:=by rfl) (hx:Loc X.env.scope z:=by walk_at "v") (hs:swapsWith (.Call (.Attribute (.Name y P) m l) (e::es) [] t) (some (.Name z pos')) pos.line X.env=pure false:=by rfl) (hf:X.fn z=true\/X.env.scope.names.lookup z=some .local:=by walk_at "v"):
  PS X (.Assign [.Name z pos'] (.Call (.Attribute (.Name y P) m l) (e::es) [] t) pos) (gx X.K E (YW i j n C m h fs)):=
 dG (vU Q hj hx (wZ (pl:=pl) (f6 hN hv R T) cl hm Fn hr hb .nil G.passes ha W kI ht) hs hf) λZ σ H ok=>by
  obtain⟨H0,F0,ρ,F,S,o⟩:=ok;obtain⟨x,q,ho,o⟩:=jm o;obtain⟨xs,cs,ex,hc,o2⟩:=cell_in o;clear o;obtain⟨a,s,h2,h3,h4⟩:=S.mine i x q ho;subst ex;obtain⟨dx,us,k1,k2,k3⟩:=h4;refine⟨_,s,a,dx,_,rfl,k1,kL hc,v7 S o2 λds vs H1 F1 _ g1 v r1 B=>?_⟩;rw[agh]
  by_cases hl:ds.length=n
  rw[afz hl]at B;obtain⟨a',z1,z2,z3,z4⟩:=v.mine i _ q ho;have ea:a'=a:=by rw[z1]at s;injection s with s;injection s with s;injection s with s
  subst ea;refine⟨F1,a',_,ds,vs,rfl,z4,z2,v.gr.sub,r1,hl,(aH.bind B).imp (λb u w=>?_) λr _ w p hi H' F' g hf oa hp ns hk I rl=>?_⟩;rw[jx (λy=>by rw[y,z3]at w;cases w)];exact v.gr.same _ _ w;have S2:=v.put q ho s g hf oa;have h':H0 p=none:=v.gr.same.free hp;refine w _ H' F' (S2.nameNew j h0 h' ns ⟨hi,I,rl⟩ λj' y e1 B d=>?_) (g1.aM.trans g.aM);rcases cZ e1 with⟨rfl,_,_⟩|⟨_,e3⟩;rw[s]at d;injection d with d;injection d with d;injection d with d;exact hk d.symm;obtain⟨b,y1,_,_,y4⟩:=v.mine j' y e3 B;obtain⟨u,y5⟩:=y4.some;rw[y1]at d;injection d with d;injection d with d;injection d with d;rw[d,hp]at y5;cases y5;rw[afy hl]at B;exact B.elim
def Se(fa:ak->M D)(fr:ak->M (D×ak)):ak->M (D×ak):=λf=>fa f>>=λx=>fr f>>=λp=>U7 x p.1>>=λd=>.ok (d,p.2)
theorem YX(m:PE X a (tD X.K E fa))(n:PE X b (LJ X.K E fr))(hs:uO b:=by exactλ_ _=>rfl):PE X (.Subscript a b pos) (LJ X.K E (Se fa fr)):=bJ (Ju GH m n hs) λW H Q g=>by
 obtain⟨r,Z,ρ,F,S,o⟩:=g;refine pV S o λx v H1 F1 _ s t w y=>zj t y λp u A B _ j fs C f=>?_
 cases x with
 |tup k=>
  obtain⟨d,h⟩:=p;cases d with
  |int i=>
   have f:aH E r (l6 k i>>=λd=>(.ok (d,h):M (D×ak))) _:=f;obtain⟨l,G,e1,I,N⟩:=w.mono fs;have P:u=.int i:=C;unfold l6 at f;cases q:Jt k i with|none=>rw[q]at f;exact f.elim|some d=>rw[q]at f;obtain⟨z,R,T⟩:=zg N q;exact⟨l,G,i,z,e1,P,kH.of (j.gr.sub _ _ I),R,f z A B j (s.aM.trans fs) T⟩
  |_=>exact f.elim
 |_=>exact f.elim
end
def lF(CS CT:Addr):Option L->Option L
 |~~~d=>if fR CS CT d then ~~~d else none
 |some (.ow a)=>if cP CS CT a then some (.ow a)else none
 |some (.ce C b a)=>if cP CS CT a then some (.ce C b a)else none
 |none=>none
def AE(CS CT:Addr)(i:Nat)(sd:D)(ρ:ak):ak:=(ρ.map (lF CS CT)).set i (~~~sd)
theorem SR.turn{K}(S:SR K Z F0 ρ σ H F)(B:o8 K CS CT F sh tl)(n1:Z sh=none)(n2:Z tl=none)(m1:F0.F sh=none)(m2:F0.F tl=none)(hi:σ[i]?=some (some (.ref sh)))(g:bx (c7 H sh tl) (c7 F sh tl) H' Q)(A:lE K CS H' Q sh tl tabs' code')(hh:kF CT tabs'=true):
  ∃r,SR K Z F0 (AE CS CT i (au CS tabs' code') ρ) σ H' r/\o8 K CS CT r sh tl/\c7 r sh tl=Q:=by
 obtain⟨r,f1,f2,f3,f4,f5⟩:=A.bE (CT:=CT) g.sub (sQ hh);obtain⟨⟨hb,ps,b1⟩,⟨ns,d0,hj,b2,_,_⟩⟩:=id B;have s:∀j(x:L),(AE CS CT i (au CS tabs' code') ρ)[j]?=some (some x)->(j=i/\x=.J (au CS tabs' code'))\/∃y,ρ[j]?=some (some y)/\lF CS CT (some y)=some x:=λj x e=>by
  unfold AE at e;rcases cZ e with⟨t,m,_⟩|⟨_,e⟩;injection m with m;exact .inl ⟨t,m⟩;rw[afF]at e;cases q:ρ[j]? with
  |none=>rw[q]at e;cases e
  |some y=>
   rw[q]at e;have e:lF CS CT y=some x:=by injection e
   cases y with
   |none=>cases e
   |some y=>exact .inr ⟨y,rfl,e⟩
 have c:∀y x,lF CS CT (some y)=some x->y=x:=λy x e=>by
  cases y with
  |J d=>have e:(if fR CS CT d then some (L.J d)else none)=some x:=e;split at e;injection e;cases e
  |ow h=>have e:(if cP CS CT h then some (L.ow h)else none)=some x:=e;split at e;injection e;cases e
  |ce C R h=>have e:(if cP CS CT h then some (L.ce C R h)else none)=some x:=e;split at e;injection e;cases e
 have l:bu (c7 F sh tl) r:=g.aM.trans f1;refine⟨r,⟨⟨λb u e=>?_,λb u e=>?_,f2,λb z=>?_⟩,S.pin,by unfold AE;rw[afZ,afB];exact S.len,λj d e=>?_,λj x e E=>?_,λj k x y a ok e1 o1 e2 o2 t m=>?_⟩,f4,f5⟩;have n:b≠sh:=λw=>by rw[w,n1]at e;cases e
 have o:b≠tl:=λw=>by rw[w,n2]at e;cases e
 exact g.same _ _ (by rw[fz n o];exact S.gr.same _ _ e);have n:b≠sh:=λw=>by rw[w,m1]at e;cases e
 have o:b≠tl:=λw=>by rw[w,m2]at e;cases e
 exact l _ _ (by rw[fz n o];exact S.gr.aM _ _ e)
 by_cases n:b=sh
 rw[n];exact .inr n1
 by_cases o:b=tl
 rw[o];exact .inr n2;have f:Q b≠none:=by rw[<-f5,fz n o];exact z
 rcases g.new b f with w|w;rw[fz n o]at w;exact S.gr.new b w;rw[fz n o]at w;exact .inr (S.gr.same.free w);rcases s j _ e with⟨rfl,z⟩|⟨y,G,f⟩;injection z with z;subst z;exact⟨_,hi,f3⟩;have I:=c _ _ f;subst I;have f:(if fR CS CT d then some (L.J d)else none)=some (L.J d):=f;obtain⟨v,t,m⟩:=S.J j d G
 by_cases p:fR CS CT d=true
 exact⟨v,t,(eW.PB B p m).mono l⟩;rw[afy p]at f;cases f;rcases s j _ e with⟨_,z⟩|⟨y,G,f⟩;subst z;cases E;have I:=c _ _ f;subst I;obtain⟨a,t,m,h3,h4⟩:=S.mine j y G E;have T:a≠sh:=λw=>by rw[w,b1]at m;cases m
 have W:a≠tl:=λw=>by rw[w,b2]at m;cases m
 obtain⟨u,X⟩:=h4.some;have N:H' a=some u:=g.same _ _ (by rw[fz T W];exact X);have fa:Q a=none:=g.jN (by rw[fz T W];exact m) (by rw[fz T W,X];simp);refine⟨a,t,by rw[<-fz (F:=r) T W,f5];exact fa,h3,?_⟩;cases y with
 |J d=>cases E
 |ow h=>
  have f:(if cP CS CT h then some (L.ow h)else none)=some (L.ow h):=f
  by_cases p:cP CS CT h=true
  obtain⟨vs,k1,k2⟩:=h4;exact⟨vs,by rw[N,<-X];exact k1,(aR.c7 B p k2).mono l⟩;rw[afy p]at f;cases f
 |ce C R h=>
  have f:(if cP CS CT h then some (L.ce C R h)else none)=some (L.ce C R h):=f
  by_cases p:cP CS CT h=true
  obtain⟨dx,vs,k1,k2,k3⟩:=h4;exact⟨dx,vs,by rw[N,<-X];exact k1,k2,(aR.c7 B p k3).mono l⟩;rw[afy p]at f;cases f
 have P:∀{j:Nat}{x:L},(AE CS CT i (au CS tabs' code') ρ)[j]?=some (some x)->x.own=true->ρ[j]?=some (some x):=λ{j x}e E=>by rcases s j _ e with⟨_,z⟩|⟨y,G,f⟩;subst z;cases E;have I:=c _ _ f;subst I;exact G
 exact S.ne j k x y a ok (P e1 o1) o1 (P e2 o2) o2 t m
def VH(K:W.Frag)(E:XK)(c:Hp)(e:su)(m:M Fl)(Z:BZ):Prop:=aH E c m λf=>match f with| .nx b=>∀a H F,SR K c e b a H F->Z.nx a H| .rt d b=>∀v a H F,SR K c e b a H F->eW K F d v->Z.rt v H| .bk b=>∀a H F,SR K c e b a H F->Z.bk a H| .ct b=>∀a H F,SR K c e b a H F->Z.ct a H
def NS(F:Hp):Prop:=∀b u,F b=some u->∃o x,u=HO.Bb o x
def Sf(K:W.Frag)(E:XK)(f:ak->M Fl):TS:=λZ d H=>∃(b:Hp)(a:su)(c:ak)(F:Hp),NS a.F/\SR K b a c d H F/\VH K E b a (f c) Z
section
variable{X:Cx}{E:XK}{pos:Pos}{st:Stmt}{sts:List Stmt}{f g:ak->M Fl}{e c a b:Expr}{es:List Expr}{ft:ak->M Bool}{fe fa:ak->M D}{fs:ak->M (List D)}
theorem W_S{K}:∀Z h H,Sf K E f Z h H->gx K E f Z h H:=λZ h H⟨j,k,i,F,m,S,o⟩=>⟨j,k,i,F,S,aH.imp o (.refl _) λl _ q=>by
 cases l with
 |nx i=>exactλh H F S _=>q h H F S
 |rt d i=>exact q
 |bk i=>exactλh H F S _=>q h H F S
 |ct i=>exactλh H F S _=>q h H F S⟩
def Mg(h:PS X st (gx X.K E f)):PS X st (Sf X.K E f):=dG h W_S
def aa7(h:lS X sts (gx X.K E f)):lS X sts (Sf X.K E f):=k6 h W_S
def VI(h:PS X st (Sf X.K E f)):lS X [st] (Sf X.K E f):=mj h
theorem lG(m:PS X st (Sf X.K E f))(n:lS X sts (Sf X.K E g)):lS X (st::sts) (Sf X.K E (aq f g)):=k6 (mT m n) λZ v H i=>by
 obtain⟨j,k,p,F,l,S,o⟩:=i;refine⟨j,k,p,F,l,S,aH.imp (aH.bind o) (.refl _) λr _ q=>?_⟩;cases r with|nx h=>exactλs w t u=>⟨j,k,h,t,l,u,q⟩|rt d h=>exact q|bk h=>exact q|ct h=>exact q
theorem Sg(fuel:ak->Nat)(y:PassesOwn (model X.prog X.w) X.A X.env X.xe)(B:PT X c (mU X.K E ft))(C:lS X body (Sf X.K E f)):PS X (.While c body [] pos) (Sf X.K E (λρ=>c6 ft f (fuel ρ) ρ)):=
 dG (Jf y B C) λZ Q H t=>by
  obtain⟨n,p,ρ,F,G,S,o⟩:=t;refine⟨λm i l=>∃(h:ak)(k:Hp),SR X.K n p h i l k/\VH X.K E n p (c6 ft f m h) Z,⟨fuel ρ,ρ,F,S,o⟩,?_⟩;rintro m u R ⟨j,T,I,r⟩;cases m with
  |zero=>exact r.elim
  |succ m=>
   have r:aH E n (ft j>>=λb=>if b then f j>>=wc (c6 ft f m)else .ok (.nx j)) _:=r;refine L1 I r λb N v _ W x s=>?_
   cases b with
   |true=>
    have s:aH E n (f j>>=wc (c6 ft f m)) _:=s;refine GQ ⟨λi l=>∃(h:ak)(k:Hp),SR X.K n p h i l k/\VH X.K E n p (c6 ft f m h) Z,λi l z=>⟨m,agc m,z⟩,n,p,j,v,G,x,?_⟩;refine(aH.bind s).imp (.refl _) λP _ z=>?_
    cases P with|nx h=>exactλi l k q=>⟨h,k,q,z⟩|ct h=>exactλi l k q=>⟨h,k,q,z⟩|bk h=>exactλi l k q=>z i l k q|rt d h=>exact z
   |false=>exact GP (s u N v x)
theorem PK(d:Mk X.K C l)(m:eH X.prog X.w X.K X.mg X.base (kB X.prog X.w) k l r ps (L6 X.K 0 h))(G:Good X E)(s:cG (k+1) X.A)(u:Gl X x)(v:X.mg x=some (.ref C))(y:Binds X.K r ps []) (i:(x==("__debug__":Str))=false:=by decide):PE X (.Call (.Name x p) [] [] pos) (tD X.K E λ_=>cH 0 C h []):=
 bJ (Rf d m s u v y .nil G.passes i) λZ H Q j=>by obtain⟨H0,F0,ρ,F,S,o⟩:=j;rw[cM]at o;refine G7 (n:=0) (ds:=[]) (vs:=[]) S.gr.sub rfl ((aH.bind o).imp (.refl _) λt _ z q B F' g I N P=>?_);obtain⟨R,T,W⟩:=Fq g I N P;exact z _ B R T W
theorem J0{K}:∀d:List Addr,aR K F (d.map D.fn) (d.map V.ref)|[]=>rfl|n::h=>⟨_,_,rfl,rfl,J0 h⟩
theorem VJ(n:Gl X x)(q:X.mg x=some (.ref t))(h:Gl X y)(i:X.mg y=some (.ref u))(r:∀H,kH X.K H t (xs.map V.ref))(s:∀H,kH X.K H u (d.map V.ref))(w:xs≠[])(A:d≠[])(I:xs.length+d.length<=1000)(B:(x==("__debug__":Str))=false:=by decide)(j:(y==("__debug__":Str))=false:=by decide):
  PE X (.BinOp (.Name x N) .Add (.Name y C) pos) (tD X.K E (aG (.tup ((xs++d).map D.fn)))):=bJ (Q5 UG (wV n q (v:=.ref t) rfl B) (wV h i (v:=.ref u) rfl j)) λP H Q k=>by
 obtain⟨R,T,W,F,S,o⟩:=k;have o:∀v l m,bx H F l m->eW X.K m (.tup ((xs++d).map D.fn)) v->Q v l:=o;refine⟨t,u,_,_,rfl,rfl,r _,s _,λz=>w (by simpa using z),by simp only[List.length_map];rw[aiB];lia,λz=>absurd (by simpa using z) A,λ_ p G=>?_⟩;rw[<-agz];exact o _ _ _ (bx.laid S.gr.sub G) ⟨p,_,rfl,bh,J0 _⟩
def p6(h:Addr->Option (Addr×Int×Int))(i:Nat)(k:Int):ak->M D:=λj=>O i j>>=λd=>L8 d>>=λt=>match h t with|some (f,p,l)=>l6 [.fn f,.int p,.int l] k|none=>ao
theorem Mh(i:Nat)(B:∀t f p l,h t=some (f,p,l)->∀H,kH X.K H t [.ref f,.int p,.int l])(C:X.N[i]?=some y:=by rfl)(G:Av X.env.scope y:=by walk_at "v")(m:(y==("__debug__":Str))=false:=by decide)(n:(y==("__classdict__":Str))=false:=by decide)(hs:uO (.Constant (.int k) j I):=by exactλ_ _=>rfl):
  PE X (.Subscript (.Name y Z) (.Constant (.int k) j I) pos) (tD X.K E (p6 h i k)):=bJ (Ju GH (f6 C G m n) LL hs) λσ H Q s=>by
 obtain⟨H0,F0,A,F,S,o⟩:=s;rw[cM]at o;have o:aH E H (O i A>>=λd=>L8 d>>=λt=>match h t with|some (f,p,l)=>l6 [.fn f,.int p,.int l] k|none=>ao) _:=o;cases q:O i A with
 |error c=>rw[q,R6 q]at o;exact o.elim
 |ok d=>
  rw[q]at o;obtain⟨v,P,u⟩:=S.J i d (R5 q);cases d with
  |fn t=>
   have u:v=.ref t:=u;subst u;have o:aH E H (match h t with|some (f,p,l)=>l6 [.fn f,.int p,.int l] k|none=>ao) _:=o;cases w:h t with
   |none=>rw[w]at o;exact o.elim
   |some r=>
    obtain⟨f,p,l⟩:=r;rw[w]at o;have o:aH E H (l6 [.fn f,.int p,.int l] k) _:=o;unfold l6 at o;cases x:Jt [D.fn f,.int p,.int l] k with|none=>rw[x]at o;exact o.elim|some d=>rw[x]at o;have R:aR X.K F [D.fn f,.int p,.int l] [.ref f,.int p,.int l]:=⟨_,_,rfl,rfl,_,_,rfl,rfl,_,_,rfl,rfl,rfl⟩;obtain⟨z,T,W⟩:=zg R x;exact⟨_,P,t,_,k,z,rfl,rfl,B t f p l w H,T,o z H F (.refl S.gr.sub) W⟩
  |_=>exact o.elim
end
theorem Sh{K}{CS CT}{H F}{sh}{b}{code:D}(r:eW K F (au CS b code) (.ref sh))(s:bu F H)(k:kF CT b=true)(l:cP CS CT b=true)(m:cy CS CT code=true):
  ∃tl,o8 K CS CT F sh tl/\lE K CS H (c7 F sh tl) sh tl b code/\(∃e fs,F sh=some (.ins CS e fs))/\∃c,F tl=some (.lst c):=by
 obtain⟨a,e,C,e1,f,E,n⟩:=r;injection e1 with e1;subst e1;obtain⟨v,G,o,p,q⟩:=n;obtain⟨t,g,u,w,h⟩:=q;have h:g=[]:=h;subst h u o;obtain⟨tl,c,x,i,j⟩:=p;subst x;obtain⟨d,y,z,A⟩:=sQ k;have B:o8 K CS CT F sh tl:=⟨⟨e,_,f⟩,⟨c,d,y,i,by rw[<-z];exact j,A⟩⟩;exact⟨tl,B,⟨⟨e,c,t,s _ _ f,s _ _ i,aR.c7 B l j,eW.c7 B m w⟩,sO,sP⟩,⟨e,_,f⟩,⟨c,i⟩⟩
end DL
abbrev afu:=List DL.D->DL.M DL.D
abbrev afv:=List DL.D->DL.D->List DL.D->DL.M DL.b6
abbrev afw:=DL.ak->DL.M DL.Fl
namespace Ev
open PySem PySem.Spec PyProof.Rows L2 DL
def bC(i:Nat):Stmt:=PySem.Challenge.pw_exacttables_s01_answers.main.body.getD i (.Pass ⟨0,0,0,0⟩)
def eK(i j:Nat):Stmt:=match bC i with| .ClassDef _ _ _ body _ _ _ _ _ _ _=>body.getD j (.Pass ⟨0,0,0,0⟩)|_=>.Pass ⟨0,0,0,0⟩
def Hh:List Int:=[1,2,2,2,2,2,1]
structure GF(K:W.Frag)(mg:afs)(x:Str)(st:Stmt)(ps:List Str)(f:Addr)(fd:FuncData):Prop where
 F:LX K x x st f fd
 b:Binds K fd ps []
 m:mg x=some (.ref f)
 k:W.keepIn K (.ref f)=true
structure MF(K:W.Frag)(C:Addr)(x qual:Str)(st:Stmt)(ps:List Str)(f:Addr)(fd:FuncData):Prop where
 F:LX K x qual st f fd
 b:Binds K fd ps []
 m:Bd K C x f
structure Env(P:Program)(w:World)(K:W.Frag)(mg:afs)(base:Heap)(Y:afp)(fd:aft):Prop where
 seer:base.NoSeer
 tree:P.given.tree=none
 aa8:mg "len"=none
 VL:mg "range"=none
 aet:mg "abs"=none
 aeu:mg "sum"=none
 aev:mg "any"=none
 aew:mg "zip"=none
 W0:mg "enumerate"=none
 adv:mg "list"=none
 aex:mg "min"=none
 aey:mg "max"=none
 YY:∃t,mg "HEAVIEST"=some (.int 2000 t)
 VM:∃t,mg "MOST_LINES"=some (.int 40 t)
 abS:∃t,mg "INPUT"=some (.int 0 t)
 YZ:∃t,mg "CONSTANT"=some (.int 1 t)
 aez:∃t,mg "SUM"=some (.int 2 t)
 VN:∃t,mg "DIFFERENCE"=some (.int 3 t)
 ZS:∃t,mg "PRODUCT"=some (.int 4 t)
 Y0:∃t,mg "QUOTIENT"=some (.int 5 t)
 Y3:∃t,mg "OPPOSITE"=some (.int 6 t)
 PL:∃t,mg "HEAVIEST_VALUE"=some (.int 200 t)
 ZT:∃t,mg "LONGEST"=some (.int 6 t)
 Ue:∃t,mg "FIXED_POINT"=some (.int 1 t)
 aa9:∃t,mg "PLACES"=some (.int 6 t)
 QG:∃t,mg "MOST_UNKNOWNS"=some (.int 4 t)
 NT:∃t,mg "MOST_PARAMETERS"=some (.int 4 t)
 QH:∃t,mg "HIGHEST_POWER"=some (.int 12 t)
 xH:iu K (Y 0)
 Hi:mg "OutOfRange"=some (.ref (Y 0))
 FD:iu K (Y 1)
 PM:mg "BadList"=some (.ref (Y 1))
 sR:iu K (Y 2)
 Cy:mg "TooManyLines"=some (.ref (Y 2))
 xJ:iu K (Y 3)
 Hj:mg "NotEarlier"=some (.ref (Y 3))
 sS:iu K (Y 4)
 Cz:mg "SizesDontFit"=some (.ref (Y 4))
 AF:iu K (Y 5)
 J1:mg "FaultyRun"=some (.ref (Y 5))
 CA:iu K (Y 6)
 Mi:mg "DontHold"=some (.ref (Y 6))
 CB:iu K (Y 7)
 Mj:mg "NoResult"=some (.ref (Y 7))
 CC:iu K (Y 8)
 Ml:mg "TooLarge"=some (.ref (Y 8))
 jf:vj K (Y 9)
 Si:mg "Reader"=some (.ref (Y 9))
 Sj:Mk K (Y 9) (Y 10)
 zu:aZ K (Y 9) "numbers"
 m6:aZ K (Y 9) "place"
 rT:MF K (Y 9) "__init__" "Reader.__init__" (eK 24 0) ["self","numbers"] (Y 10) (fd 10)
 qH:MF K (Y 9) "ended" "Reader.ended" (eK 24 1) ["self"] (Y 11) (fd 11)
 lH:MF K (Y 9) "take" "Reader.take" (eK 24 2) ["self"] (Y 12) (fd 12)
 fE:MF K (Y 9) "take_row" "Reader.take_row" (eK 24 3) ["self","length"] (Y 13) (fd 13)
 jU:MF K (Y 9) "take_given" "Reader.take_given" (eK 24 4) ["self","plain","lists"] (Y 14) (fd 14)
 adw:vj K (Y 15)
 adx:mg "Line"=some (.ref (Y 15))
 ady:Mk K (Y 15) (Y 16)
 W2:aZ K (Y 15) "kind"
 Sk:aZ K (Y 15) "numbers"
 Er:MF K (Y 15) "__init__" "Line.__init__" (eK 35 0) ["self","kind","numbers"] (Y 16) (fd 16)
 adz:vj K (Y 17)
 adA:mg "Code"=some (.ref (Y 17))
 adB:Mk K (Y 17) (Y 18)
 QI:aZ K (Y 17) "unknowns"
 NU:aZ K (Y 17) "parameters"
 VO:aZ K (Y 17) "lines"
 W3:aZ K (Y 17) "outs"
 Es:MF K (Y 17) "__init__" "Code.__init__" (eK 36 0) ["self","unknowns","parameters","lines","outs"] (Y 18) (fd 18)
 abT:vj K (Y 19)
 abU:mg "Table"=some (.ref (Y 19))
 abV:Mk K (Y 19) (Y 20)
 Sl:aZ K (Y 19) "height"
 Ug:aZ K (Y 19) "width"
 VP:aZ K (Y 19) "rows"
 CD:MF K (Y 19) "__init__" "Table.__init__" (eK 50 0) ["self","height","width","rows"] (Y 20) (fd 20)
 ZU:vj K (Y 21)
 ZV:mg "Reduced"=some (.ref (Y 21))
 ZW:Mk K (Y 21) (Y 22)
 QJ:aZ K (Y 21) "table"
 NV:aZ K (Y 21) "leading"
 zw:MF K (Y 21) "__init__" "Reduced.__init__" (eK 71 0) ["self","table","leading"] (Y 22) (fd 22)
 Y4:vj K (Y 23)
 Y5:mg "Solution"=some (.ref (Y 23))
 Y6:Mk K (Y 23) (Y 24)
 PN:aZ K (Y 23) "table"
 QK:aZ K (Y 23) "only"
 xK:MF K (Y 23) "__init__" "Solution.__init__" (eK 77 0) ["self","table","only"] (Y 24) (fd 24)
 abW:vj K (Y 25)
 abX:mg "Point"=some (.ref (Y 25))
 abY:Mk K (Y 25) (Y 26)
 VQ:aZ K (Y 25) "code"
 VR:aZ K (Y 25) "kind"
 Sm:aZ K (Y 25) "inputs"
 Sn:aZ K (Y 25) "worked"
 CF:MF K (Y 25) "__init__" "Point.__init__" (eK 84 0) ["self","code","kind","inputs"] (Y 26) (fd 26)
 VS:vj K (Y 27)
 VT:mg "Shelf"=some (.ref (Y 27))
 VU:Mk K (Y 27) (Y 28)
 CG:aZ K (Y 27) "tables"
 VV:aZ K (Y 27) "code"
 sU:MF K (Y 27) "__init__" "Shelf.__init__" (eK 97 0) ["self"] (Y 28) (fd 28)
 Mm:MF K (Y 27) "held" "Shelf.held" (eK 97 1) ["self","place"] (Y 29) (fd 29)
 PR:MF K (Y 27) "put" "Shelf.put" (eK 97 2) ["self","place","table"] (Y 30) (fd 30)
 Uh:vj K (Y 31)
 Ui:mg "Elimination"=some (.ref (Y 31))
 Uj:Mk K (Y 31) (Y 32)
 I0:aZ K (Y 31) "changes"
 Ja:aZ K (Y 31) "numbers"
 sV:MF K (Y 31) "__init__" "Elimination.__init__" (eK 109 0) ["self","changes","numbers"] (Y 32) (fd 32)
 Bh:GF K mg "greatest_common" (bC 12) ["first","second"] (Y 33) (fd 33)
 Y7:GF K mg "lowest" (bC 13) ["fraction"] (Y 34) (fd 34)
 weight:GF K mg "weight" (bC 14) ["fraction"] (Y 35) (fd 35)
 zx:GF K mg "settled_fraction" (bC 15) ["fraction"] (Y 36) (fd 36)
 plus:GF K mg "plus" (bC 16) ["first","second"] (Y 37) (fd 37)
 opposite:GF K mg "opposite" (bC 17) ["fraction"] (Y 38) (fd 38)
 minus:GF K mg "minus" (bC 18) ["first","second"] (Y 39) (fd 39)
 times:GF K mg "times" (bC 19) ["first","second"] (Y 40) (fd 40)
 over:GF K mg "over" (bC 20) ["first","second"] (Y 41) (fd 41)
 wg:GF K mg "common_denominator" (bC 21) ["fractions"] (Y 42) (fd 42)
 Bj:GF K mg "numerators_over" (bC 22) ["fractions","common"] (Y 43) (fd 43)
 PU:GF K mg "take_line" (bC 37) ["reader"] (Y 44) (fd 44)
 So:GF K mg "lines_of" (bC 38) ["numbers","inputs"] (Y 45) (fd 45)
 Hl:GF K mg "need_earlier" (bC 39) ["line","place","inputs"] (Y 46) (fd 46)
 PV:GF K mg "need_outs" (bC 40) ["outs","unknowns","lines"] (Y 47) (fd 47)
 VW:GF K mg "code_of" (bC 41) ["unknowns","parameters","numbers","outs"] (Y 48) (fd 48)
 Sq:GF K mg "value_of" (bC 44) ["line","inputs","values"] (Y 49) (fd 49)
 PX:GF K mg "values_of" (bC 45) ["lines","inputs"] (Y 50) (fd 50)
 PY:GF K mg "change_of" (bC 46) ["line","value","direction","values","changes"] (Y 51) (fd 51)
 Mn:GF K mg "changes_of" (bC 47) ["lines","values","direction"] (Y 52) (fd 52)
 Ss:GF K mg "table_of" (bC 51) ["height","width","fractions"] (Y 53) (fd 53)
 Mp:GF K mg "entries_of" (bC 52) ["table"] (Y 54) (fd 54)
 k7:GF K mg "settled_table" (bC 53) ["table"] (Y 55) (fd 55)
 J2:GF K mg "need_square" (bC 54) ["table"] (Y 56) (fd 56)
 Su:GF K mg "are_same" (bC 55) ["first","second"] (Y 57) (fd 57)
 Mq:GF K mg "sum_of" (bC 56) ["first","second"] (Y 58) (fd 58)
 o9:GF K mg "difference_of" (bC 57) ["first","second"] (Y 59) (fd 59)
 scaled:GF K mg "scaled" (bC 58) ["table","factor"] (Y 60) (fd 60)
 turned:GF K mg "turned" (bC 59) ["table"] (Y 61) (fd 61)
 pq:GF K mg "joined_beside" (bC 60) ["first","second"] (Y 62) (fd 62)
 qI:GF K mg "joined_below" (bC 61) ["first","second"] (Y 63) (fd 63)
 part_of:GF K mg "part_of" (bC 62) ["table","top","left","height","width"] (Y 64) (fd 64)
 Mr:GF K mg "whole_unit" (bC 63) ["size"] (Y 65) (fd 65)
 Et:GF K mg "whole_product" (bC 64) ["left","right","width"] (Y 66) (fd 66)
 Ms:GF K mg "whole_rows" (bC 65) ["table","common"] (Y 67) (fd 67)
 PZ:GF K mg "rows_over" (bC 66) ["rows","denominator"] (Y 68) (fd 68)
 Mt:GF K mg "unit_table" (bC 67) ["size"] (Y 69) (fd 69)
 wj:GF K mg "product_of" (bC 68) ["first","second"] (Y 70) (fd 70)
 Sv:GF K mg "power_of" (bC 69) ["table","exponent"] (Y 71) (fd 71)
 Ho:GF K mg "first_filled" (bC 72) ["rows","start","column"] (Y 72) (fd 72)
 J3:GF K mg "change_rows" (bC 73) ["rows","first","second"] (Y 73) (fd 73)
 J4:GF K mg "cleared_row" (bC 74) ["row","leader","column","before"] (Y 74) (fd 74)
 reduced:GF K mg "reduced" (bC 75) ["table"] (Y 75) (fd 75)
 J5:GF K mg "divided_off" (bC 78) ["joined"] (Y 76) (fd 76)
 Mu:GF K mg "inverse_of" (bC 79) ["table"] (Y 77) (fd 77)
 J6:GF K mg "solution_of" (bC 80) ["first","second"] (Y 78) (fd 78)
 P0:GF K mg "kernel_of" (bC 81) ["table"] (Y 79) (fd 79)
 J7:GF K mg "residual_at" (bC 85) ["point"] (Y 80) (fd 80)
 P1:GF K mg "need_hold" (bC 86) ["point"] (Y 81) (fd 81)
 CH:GF K mg "derivatives_by" (bC 87) ["point","k"] (Y 82) (fd 82)
 Sw:GF K mg "moves_at" (bC 88) ["point"] (Y 83) (fd 83)
 Hq:GF K mg "fractions_of" (bC 90) ["numbers","count"] (Y 84) (fd 84)
 CJ:GF K mg "told_fractions" (bC 91) ["fractions"] (Y 85) (fd 85)
 Hr:GF K mg "told_settled" (bC 92) ["fractions"] (Y 86) (fd 86)
 Mv:GF K mg "need_range" (bC 95) ["number","low","high"] (Y 87) (fd 87)
 Mw:GF K mg "need_place" (bC 96) ["number"] (Y 88) (fd 88)
 Sx:GF K mg "point_of" (bC 101) ["code","kind","unknowns","parameters"] (Y 89) (fd 89)
 P4:GF K mg "need_kind" (bC 102) ["number"] (Y 90) (fd 90)
 zy:GF K mg "call_code" (bC 103) ["shelf","given"] (Y 91) (fd 91)
 pA:GF K mg "call_residual" (bC 104) ["shelf","given"] (Y 92) (fd 92)
 pB:GF K mg "call_implicit" (bC 105) ["shelf","given"] (Y 93) (fd 93)
 zz:GF K mg "call_pull" (bC 106) ["shelf","given"] (Y 94) (fd 94)
 eliminated:GF K mg "eliminated" (bC 110) ["rows"] (Y 95) (fd 95)
 CK:GF K mg "elimination_of" (bC 111) ["table"] (Y 96) (fd 96)
 CL:GF K mg "determinant_of" (bC 112) ["table"] (Y 97) (fd 97)
 Sy:GF K mg "trace_of" (bC 113) ["table"] (Y 98) (fd 98)
 Mx:GF K mg "with_added" (bC 114) ["rows","number"] (Y 99) (fd 99)
 qJ:GF K mg "characteristic_numbers" (bC 115) ["table"] (Y 100) (fd 100)
 My:GF K mg "put_joined" (bC 118) ["shelf","given","join"] (Y 101) (fd 101)
 CM:GF K mg "call_set" (bC 119) ["shelf","given"] (Y 102) (fd 102)
 CN:GF K mg "call_get" (bC 120) ["shelf","given"] (Y 103) (fd 103)
 CO:GF K mg "call_add" (bC 121) ["shelf","given"] (Y 104) (fd 104)
 CP:GF K mg "call_sub" (bC 122) ["shelf","given"] (Y 105) (fd 105)
 CQ:GF K mg "call_mul" (bC 123) ["shelf","given"] (Y 106) (fd 106)
 wm:GF K mg "call_scale" (bC 124) ["shelf","given"] (Y 107) (fd 107)
 zA:GF K mg "call_turn" (bC 125) ["shelf","given"] (Y 108) (fd 108)
 zB:GF K mg "call_unit" (bC 126) ["shelf","given"] (Y 109) (fd 109)
 sW:GF K mg "call_beside" (bC 127) ["shelf","given"] (Y 110) (fd 110)
 wo:GF K mg "call_below" (bC 128) ["shelf","given"] (Y 111) (fd 111)
 zC:GF K mg "call_part" (bC 129) ["shelf","given"] (Y 112) (fd 112)
 wu:GF K mg "call_power" (bC 130) ["shelf","given"] (Y 113) (fd 113)
 sX:GF K mg "call_reduce" (bC 131) ["shelf","given"] (Y 114) (fd 114)
 CU:GF K mg "call_det" (bC 132) ["shelf","given"] (Y 115) (fd 115)
 qK:GF K mg "call_inverse" (bC 133) ["shelf","given"] (Y 116) (fd 116)
 wz:GF K mg "call_solve" (bC 134) ["shelf","given"] (Y 117) (fd 117)
 sY:GF K mg "call_kernel" (bC 135) ["shelf","given"] (Y 118) (fd 118)
 qL:GF K mg "call_leading" (bC 136) ["shelf","given"] (Y 119) (fd 119)
 zD:GF K mg "call_char" (bC 137) ["shelf","given"] (Y 120) (fd 120)
 wA:GF K mg "call_trace" (bC 138) ["shelf","given"] (Y 121) (fd 121)
 zE:GF K mg "call_same" (bC 139) ["shelf","given"] (Y 122) (fd 122)
 uR:GF K mg "answer_of" (bC 142) ["call","shelf","given"] (Y 123) (fd 123)
 answers:GF K mg "answers" (bC 143) ["calls"] (Y 124) (fd 124)
 aba:mg "COUNTS"=some (.ref (Y 125))
 abb:∀H,kH K H (Y 125) (Hh.map V.int)
noncomputable def abc(N:List Str)(b scope:Scope)(a:List (Str×Nat)):Bool:=
 decide (scope.kind=.function)&&scope.names.all (λy=>decide (scope.names.lookup y.1=some y.2))&&a.all (λp=>decide (N[p.2]?=some p.1))&&
 scope.names.all (λy=>decide (y.2=.free->b.names.lookup y.1=some .cell\/b.names.lookup y.1=some .free))&&scope.names.all (λy=>decide (y.2=.local\/y.2=.cell->y.1∈a.map (·.1)\/y.1∉N))
theorem zF{N:List Str}{b scope:Scope}(a:List (Str×Nat))(h:abc N b scope a=true:=by kernel_rfl):Az N b scope a:=by simp only[abc,Bool.and_eq_true,List.all_eq_true,decide_eq_true_eq]at h;exact⟨h.1.1.1.1,h.1.1.1.2,h.1.1.2,h.1.2,h.2⟩
section
variable{X:Cx}{E:XK}{pos p:Pos}{e elt iter:Expr}{es:List Expr}{fs src:ak->M (List D)}{el:ak->M D}{k k' n:Nat}{fa C:Addr}{fd:FuncData}{ps:List Str}{x:Str}{scope:Scope}{st:Stmt}
theorem dcl{h:afu}(c:eH X.prog X.w X.K X.mg X.base (kB X.prog X.w) k fa fd ps (Ud X.K n h))(g:GF X.K X.mg x st ps fa fd)(G:Good X E)(d:cG k' X.A)(f:PA X (e::es) (uQ X.K E fs))(i:k<=k':=by decide)(j:Gl X x:=by rfl)(a:(x==("__debug__":Str))=false:=by decide)(he:starEach (e::es) X.env=(false,eval e X.env)::starEach es X.env:=by rfl) (kI:(backTo pos (starEach es X.env)).any (·.1)=false:=by rfl):PE X (.Call (.Name x p) (e::es) [] pos) (tD X.K E (aa fs (ah n h))):=NB c G (d.mono i) j g.m g.k g.b f a he kI
theorem dmk{q y:Str}{h:L->List D->M (D×L)}(a:Mk X.K C fa)(d:eH X.prog X.w X.K X.mg X.base (kB X.prog X.w) k fa fd ps (L6 X.K n h))(G:Good X E)(f:cG k' X.A)(g:X.mg x=some (.ref C))(b:MF X.K C y q st ps fa fd)(i:PA X (e::es) (uQ X.K E fs))(j:k+1<=k':=by decide)(l:Gl X x:=by rfl)(c:(x==("__debug__":Str))=false:=by decide)(he:starEach (e::es) X.env=(false,eval e X.env)::starEach es X.env:=by rfl) (kI:(backTo pos (starEach es X.env)).any (·.1)=false:=by rfl):PE X (.Call (.Name x p) (e::es) [] pos) (tD X.K E (aa fs (cH n C h))):=RY a d G (f.mono j) l g b.b i c he kI
theorem pgn(i:Nat)(a:X.N.Nodup)(b:X.N[i]?=some x:=by rfl)(c:Loc X.env.scope x:=by walk_at "v")(d:X.fn x=true\/X.env.scope.names.lookup x=some .local:=by walk_at "v"):PG X (.Name x pos) (vt i):=Nj (i:=i) a b c d
theorem da1{f:ak->M D}(h:PE X e (tD X.K E f))(hs:starEach [e] X.env=(false,eval e X.env)::starEach [] X.env:=by rfl):PA X [e] (uQ X.K E (U f af)):=mw h qC hs
noncomputable def scB(N P:List Str)(a:Scope):Bool:=decide (a.kind=.function)&&!a.isCoroutine&&!a.isGenerator&&decide N.Nodup&&decide (N.take P.length=P)&&P.all (λx=>decide (a.names.lookup x=some .local\/a.names.lookup x=some .cell))&&a.names.all (λy=>decide (y.2≠.free))
theorem Y8{N P:List Str}{a:Scope}(h:scB N P a=true):fj N P a:=by simp only[scB,Bool.and_eq_true,List.all_eq_true,decide_eq_true_eq,Bool.not_eq_true']at h;exact⟨h.1.1.1.1.1.1,h.1.1.1.1.1.2,h.1.1.1.1.2,h.1.1.1.2,h.1.1.2,h.1.2,h.2⟩
end
section
variable{P:Program}{w:World}{K:W.Frag}{mg:afs}{base:Heap}{Y:afp}{fd:aft}
theorem oD{x a:Str}{st:Stmt}{f:Addr}{g:FuncData}{ps:List Str}{k:Nat}{d:afw}(F:LX K x a st f g)(N:List Str)(b:fj N ps (aP st)->∀(c:Value)(A:Around)(aN:List PySem.Env)(s:Shared)(H:Hp)(E:XK),cG k (A.deeper (envOfC a (aP st) s.heap.objs.size f c))->lS (mq (kB P w) P w K mg base N a (aP st) f c A aN s H E) (gG st) (gx K E d)) (S:scB N ps (aP st)=true:=by decide+kernel):
  eH P w K mg base (kB P w) (k+1) f g ps (Ud K ps.length (aA d N.length)):=okD F (Y8 S) (b (Y8 S))
theorem oC{x a:Str}{st:Stmt}{f:Addr}{g:FuncData}{ps:List Str}{k n:Nat}{d:afw}(F:LX K x a st f g)(N:List Str)(b:fj N ps (aP st)->∀(c:Value)(A:Around)(aN:List PySem.Env)(s:Shared)(H:Hp)(E:XK),cG k (A.deeper (envOfC a (aP st) s.heap.objs.size f c))->lS (mq (kB P w) P w K mg base N a (aP st) f c A aN s H E) (gG st) (gx K E d)) (S:scB N ps (aP st)=true:=by decide+kernel) (e:ps.length=n+1:=by rfl):
  eH P w K mg base (kB P w) (k+1) f g ps (L6 K n (runC d N.length)):=okC F (Y8 S) e (b (Y8 S))
abbrev Env.oD(_:Env P w K mg base Y fd)(k:Nat)(n:Nat)(ps:List Str)(h:afu):Prop:=eH P w K mg base (kB P w) k (Y n) (fd n) ps (Ud K ps.length h)
abbrev Env.oC(_:Env P w K mg base Y fd)(k:Nat)(n:Nat)(ps:List Str)(m:Nat)(h:L->List D->M (D×L)):Prop:=eH P w K mg base (kB P w) k (Y n) (fd n) ps (L6 K m h)
end
section
variable{P:Program}{w:World}{K:W.Frag}{mg:afs}{base:Heap}{Y:afp}{fd:aft}(V:Env P w K mg base Y fd)
def m7(Y:afp):afw:=
  (aq (aU 2 (aa (U (O 0) af) Pc))
  (aq (aU 3 (aa (U (O 1) af) Pc))
  (aq (Hf (eL Bf (O 3) (aG (.int 0))) (aq (aU 4 (aL GW (O 2) (O 3)))
  (aq (aU 2 (O 3))
  (aU 3 (O 4)))) NR)
  (bF (O 2)))))
def d9(Y:afp):afu:=aA (m7 Y) 5
abbrev iD:Prop:=V.oD 1 33 ["first","second"] (d9 Y)
def zG(Y:afp):afw:=
  (aq (aU 1 (aa (U (aL ay (O 0) (aG (.int 0))) (U (aL ay (O 0) (aG (.int 1))) af)) (ah 2 (d9 Y))))
  (aq (dH (eL Fz (aL ay (O 0) (aG (.int 1))) (aG (.int 0))) (aU 1 (Eo (O 1))) bV)
  (bF (aa (U (aL oj (aL ay (O 0) (aG (.int 0))) (O 1)) (U (aL oj (aL ay (O 0) (aG (.int 1))) (O 1)) af)) eS))))
def gY(Y:afp):afu:=aA (zG Y) 2
abbrev p7:Prop:=V.oD 46 34 ["fraction"] (gY Y)
def FE(Y:afp):afw:=
  (bF (aL kC (NP (aL ay (O 0) (aG (.int 0)))) (NP (aL ay (O 0) (aG (.int 1))))))
def p8(Y:afp):afu:=aA (FE Y) 1
abbrev xM:Prop:=V.oD 1 35 ["fraction"] (p8 Y)
def jb(Y:afp):afw:=
  (aq (aU 1 (aa (U (O 0) af) (ah 1 (gY Y))))
  (aq (dH (eL Bf (aa (U (O 1) af) (ah 1 (p8 Y))) (aG (.int 2000))) (dI (Y 8)) bV)
  (bF (O 1))))
def cW(Y:afp):afu:=aA (jb Y) 2
abbrev gH:Prop:=V.oD 47 36 ["fraction"] (cW Y)
def NW(Y:afp):afw:=
  (bF (aa (U (aL kC (aL gX (aL ay (O 0) (aG (.int 0))) (aL ay (O 1) (aG (.int 1)))) (aL gX (aL ay (O 1) (aG (.int 0))) (aL ay (O 0) (aG (.int 1))))) (U (aL gX (aL ay (O 0) (aG (.int 1))) (aL ay (O 1) (aG (.int 1)))) af)) eS))
def pC(Y:afp):afu:=aA (NW Y) 2
abbrev zH:Prop:=V.oD 1 37 ["first","second"] (pC Y)
def AG(Y:afp):afw:=
  (bF (aa (U (Eo (aL ay (O 0) (aG (.int 0)))) (U (aL ay (O 0) (aG (.int 1))) af)) eS))
def fS(Y:afp):afu:=aA (AG Y) 1
abbrev kM:Prop:=V.oD 1 38 ["fraction"] (fS Y)
def J8(Y:afp):afw:=
  (bF (aa (U (O 0) (U (aa (U (O 1) af) (ah 1 (fS Y))) af)) (ah 2 (pC Y))))
def gI(Y:afp):afu:=aA (J8 Y) 2
abbrev uS:Prop:=V.oD 2 39 ["first","second"] (gI Y)
def J9(Y:afp):afw:=
  (bF (aa (U (aL gX (aL ay (O 0) (aG (.int 0))) (aL ay (O 1) (aG (.int 0)))) (U (aL gX (aL ay (O 0) (aG (.int 1))) (aL ay (O 1) (aG (.int 1)))) af)) eS))
def jn(Y:afp):afu:=aA (J9 Y) 2
abbrev xN:Prop:=V.oD 1 40 ["first","second"] (jn Y)
def NX(Y:afp):afw:=
  (bF (aa (U (aL gX (aL ay (O 0) (aG (.int 0))) (aL ay (O 1) (aG (.int 1)))) (U (aL gX (aL ay (O 0) (aG (.int 1))) (aL ay (O 1) (aG (.int 0)))) af)) eS))
def wB(Y:afp):afu:=aA (NX Y) 2
abbrev Hs:Prop:=V.oD 1 41 ["first","second"] (wB Y)
def kG(Y:afp):afw:=
  (aq (aU 1 (aG (.int 1)))
  (aq (o4 (iF (O 0)) (aI 2) (aq (aU 3 (aL ay (O 2) (aG (.int 1))))
  (aU 1 (aL gX (O 1) (aL oj (O 3) (aa (U (O 1) (U (O 3) af)) (ah 2 (d9 Y))))))))
  (bF (O 1))))
def aQ(Y:afp):afu:=aA (kG Y) 4
abbrev b7:Prop:=V.oD 46 42 ["fractions"] (aQ Y)
def m8(Y:afp):afw:=
  (bF (jM (iF (O 0)) (b4 [2,3]) bM (aL gX (O 2) (aL oj (O 1) (O 3))) (List.map (·.2) [(("above":Str),2),("below",3)])))
def bN(Y:afp):afu:=aA (m8 Y) 4
abbrev ee:Prop:=V.oD 46 43 ["fractions","common"] (bN Y)
def m9(Y:afp):afw:=
  (aq (iM 0 (Y 9) "numbers" (O 1))
  (iM 0 (Y 9) "place" (aG (.int 0))))
def c8(Y:afp):L->List D->M (D×L):=runC (m9 Y) 2
abbrev jV:Prop:=V.oC 1 10 ["self","numbers"] 1 (c8 Y)
def rV(Y:afp):afw:=
  (bF (kD (eL LK (aB (Y 9) "place" (O 0)) (aa (U (aB (Y 9) "numbers" (O 0)) af) iw))))
def f7(Y:afp):afu:=aA (rV Y) 1
abbrev nc:Prop:=V.oD 1 11 ["self"] (f7 Y)
def sZ(Y:afp):afw:=
  (aq (aU 1 (aL ay (we 0 (Y 9) "numbers") (we 0 (Y 9) "place")))
  (aq (JU 0 (Y 9) "place" (aG (.int 1)))
  (bF (O 1))))
def dS(Y:afp):L->List D->M (D×L):=runC (sZ Y) 2
abbrev pD:Prop:=V.oC 1 12 ["self"] 0 (dS Y)
abbrev xO:Stmt:=eK 24 3
def ng(Y:afp):afw:=
  (aq (aU 2 (vY (we 0 (Y 9) "numbers") (iB (we 0 (Y 9) "place")) (iB (aL kC (we 0 (Y 9) "place") (O 1)))))
  (aq (JU 0 (Y 9) "place" (O 1))
  (bF (O 2))))
def ef(Y:afp):L->List D->M (D×L):=runC (ng Y) 3
abbrev jW:Prop:=V.oC 1 13 ["self","length"] 1 (ef Y)
def zI(Y:afp):afw:=
  (aq (iM 0 (Y 15) "kind" (O 1))
  (iM 0 (Y 15) "numbers" (O 2)))
def jo(Y:afp):L->List D->M (D×L):=runC (zI Y) 3
abbrev lU:Prop:=V.oC 1 16 ["self","kind","numbers"] 2 (jo Y)
def zJ(Y:afp):afw:=
  (aq (iM 0 (Y 17) "unknowns" (O 1))
  (aq (iM 0 (Y 17) "parameters" (O 2))
  (aq (iM 0 (Y 17) "lines" (O 3))
  (iM 0 (Y 17) "outs" (O 4)))))
def jq(Y:afp):L->List D->M (D×L):=runC (zJ Y) 5
abbrev jr:Prop:=V.oC 1 18 ["self","unknowns","parameters","lines","outs"] 4 (jq Y)
def fJ(Y:afp):afw:=
  (aq (JQ 1 (qF 0 (Y 9) "take" (dS Y)))
  (aq (dH (Yk (eL Fz (O 1) (aG (.int 0))) (eL Bf (O 1) (aG (.int 6)))) (dI (Y 1)) bV)
  (aq (JQ 2 (sN 0 1 (Y 9) "take_row" (ef Y) (U (R7 (Hh.map D.int) (O 1)) af)))
  (aq (dH (eL wR (aa (U (O 2) af) iw) (R7 (Hh.map D.int) (O 1))) (dI (Y 1)) bV)
  (aq (dH (Rv (eL iW (O 1) (aG (.int 1))) (eL Fz (aL ay (O 2) (aG (.int 1))) (aG (.int 1)))) (dI (Y 1)) bV)
  (aq (dH (Rv (eL wR (O 1) (aG (.int 1))) (eL Fz (aa (U (O 2) af) Pj) (aG (.int 0)))) (dI (Y 1)) bV)
  (bF (aa (U (O 1) (U (O 2) af)) (cH 2 (Y 15) (jo Y))))))))))
def cX(Y:afp):L->List D->M (D×L):=runC (fJ Y) 3
abbrev tE:Prop:=V.oC 3 44 ["reader"] 0 (cX Y)
def fF(Y:afp):afw:=
  (aq (dH (eL iW (aB (Y 15) "kind" (O 0)) (aG (.int 1))) YQ bV)
  (aq (aU 3 (GX (eL iW (aB (Y 15) "kind" (O 0)) (aG (.int 0))) (O 2) (O 1)))
  (dH (eL LK (aa (U (aB (Y 15) "numbers" (O 0)) af) Ph) (O 3)) (dI (Y 3)) bV)))
def c9(Y:afp):afu:=aA (fF Y) 4
abbrev nh:Prop:=V.oD 1 46 ["line","place","inputs"] (c9 Y)
def AH(Y:afp):afw:=
  (aq (JV 2 1 (Y 9) (c8 Y) (U (O 0) af))
  (aq (xy 3 af)
  (aq (Hf (R8 2 (R9 (zm (zk (Y 9) "ended" (f7 Y) (O 2))))) (L7 3 (sM 2 0 (cX Y) af)) FA)
  (o6 3 (aq (dH (eL Bf (aa (U (O 3) af) iw) (aG (.int 40))) (dI (Y 2)) bV)
  (aq (o4 (fQ (U (O 3) af) jQ) (b4 [4,5]) (pY (aa (U (O 5) (U (O 4) (U (O 1) af))) (ah 3 (c9 Y)))))
  (bF (O 3))))))))
def qM(Y:afp):afu:=aA (AH Y) 6
abbrev wC:Prop:=V.oD 4 45 ["numbers","inputs"] (qM Y)
def qN(Y:afp):afw:=
  (aq (dH (eL wR (aa (U (O 0) af) iw) (O 1)) (dI (Y 1)) bV)
  (dH (zm (aa (U (jM (iF (O 0)) (aI 3) bM (YI (kD (eL Fz (O 3) (aG (.int 0)))) (kD (eL LK (O 3) (aa (U (O 2) af) iw)))) (List.map (·.2) [(("out":Str),3)])) af) Cj)) (dI (Y 1)) bV))
def lI(Y:afp):afu:=aA (qN Y) 4
abbrev tF:Prop:=V.oD 1 47 ["outs","unknowns","lines"] (lI Y)
def CV(Y:afp):afw:=
  (aq (aU 4 (aa (U (O 2) (U (aL kC (O 0) (O 1)) af)) (ah 2 (qM Y))))
  (aq (pY (aa (U (O 3) (U (O 0) (U (O 4) af))) (ah 3 (lI Y))))
  (bF (aa (U (O 0) (U (O 1) (U (O 4) (U (O 3) af)))) (cH 4 (Y 17) (jq Y))))))
def g9(Y:afp):afu:=aA (CV Y) 5
abbrev zK:Prop:=V.oD 5 48 ["unknowns","parameters","numbers","outs"] (g9 Y)
def fK(Y:afp):afw:=
  (aq (dH (eL iW (aB (Y 15) "kind" (O 0)) (aG (.int 0))) (bF (aL ay (O 1) (aL ay (aB (Y 15) "numbers" (O 0)) (aG (.int 0))))) bV)
  (aq (dH (eL iW (aB (Y 15) "kind" (O 0)) (aG (.int 1))) (bF (aa (U (aL ay (aB (Y 15) "numbers" (O 0)) (aG (.int 0))) (U (aL ay (aB (Y 15) "numbers" (O 0)) (aG (.int 1))) af)) eS)) bV)
  (aq (aU 3 (aL ay (O 2) (aL ay (aB (Y 15) "numbers" (O 0)) (aG (.int 0)))))
  (aq (dH (eL iW (aB (Y 15) "kind" (O 0)) (aG (.int 6))) (bF (aa (U (O 3) af) (ah 1 (fS Y)))) bV)
  (aq (aU 4 (aL ay (O 2) (aL ay (aB (Y 15) "numbers" (O 0)) (aG (.int 1)))))
  (aq (dH (Rv (eL iW (aB (Y 15) "kind" (O 0)) (aG (.int 5))) (eL iW (aL ay (O 4) (aG (.int 0))) (aG (.int 0)))) (dI (Y 5)) bV)
  (aq (dH (eL iW (aB (Y 15) "kind" (O 0)) (aG (.int 2))) (bF (aa (U (O 3) (U (O 4) af)) (ah 2 (pC Y)))) bV)
  (aq (dH (eL iW (aB (Y 15) "kind" (O 0)) (aG (.int 3))) (bF (aa (U (O 3) (U (O 4) af)) (ah 2 (gI Y)))) bV)
  (aq (dH (eL iW (aB (Y 15) "kind" (O 0)) (aG (.int 4))) (bF (aa (U (O 3) (U (O 4) af)) (ah 2 (jn Y)))) bV)
  (bF (aa (U (O 3) (U (O 4) af)) (ah 2 (wB Y)))))))))))))
def dO(Y:afp):afu:=aA (fK Y) 5
abbrev wD:Prop:=V.oD 3 49 ["line","inputs","values"] (dO Y)
def qO(Y:afp):afw:=
  (aq (xy 2 af)
  (aq (o4 (iF (O 0)) (aI 3) (aq (aU 4 (Bg 2 (aa (U (aa (U (O 3) (U (O 1) (U (O 2) af))) (ah 3 (dO Y))) af) (ah 1 (gY Y)))))
  (aq (dH (eL Bf (aa (U (O 4) af) (ah 1 (p8 Y))) (aG (.int 200))) (dI (Y 5)) bV)
  (sL 2 (O 4)))))
  (o6 2 (bF (O 2)))))
def gz(Y:afp):afu:=aA (qO Y) 5
abbrev tG:Prop:=V.oD 47 50 ["lines","inputs"] (gz Y)
def fL(Y:afp):afw:=
  (aq (dH (eL iW (aB (Y 15) "kind" (O 0)) (aG (.int 0))) (bF (aL ay (O 2) (aL ay (aB (Y 15) "numbers" (O 0)) (aG (.int 0))))) bV)
  (aq (dH (eL iW (aB (Y 15) "kind" (O 0)) (aG (.int 1))) (bF (aa (U (aG (.int 0)) (U (aG (.int 1)) af)) eS)) bV)
  (aq (aU 5 (aL ay (O 4) (aL ay (aB (Y 15) "numbers" (O 0)) (aG (.int 0)))))
  (aq (dH (eL iW (aB (Y 15) "kind" (O 0)) (aG (.int 6))) (bF (aa (U (O 5) af) (ah 1 (fS Y)))) bV)
  (aq (aU 6 (aL ay (O 4) (aL ay (aB (Y 15) "numbers" (O 0)) (aG (.int 1)))))
  (aq (dH (eL iW (aB (Y 15) "kind" (O 0)) (aG (.int 2))) (bF (aa (U (O 5) (U (O 6) af)) (ah 2 (pC Y)))) bV)
  (aq (dH (eL iW (aB (Y 15) "kind" (O 0)) (aG (.int 3))) (bF (aa (U (O 5) (U (O 6) af)) (ah 2 (gI Y)))) bV)
  (aq (dH (eL iW (aB (Y 15) "kind" (O 0)) (aG (.int 4))) (bF (aa (U (aa (U (O 5) (U (aL ay (O 3) (aL ay (aB (Y 15) "numbers" (O 0)) (aG (.int 1)))) af)) (ah 2 (jn Y))) (U (aa (U (aL ay (O 3) (aL ay (aB (Y 15) "numbers" (O 0)) (aG (.int 0)))) (U (O 6) af)) (ah 2 (jn Y))) af)) (ah 2 (pC Y)))) bV)
  (bF (aa (U (aa (U (O 5) (U (aa (U (O 1) (U (O 6) af)) (ah 2 (jn Y))) af)) (ah 2 (gI Y))) (U (aL ay (O 3) (aL ay (aB (Y 15) "numbers" (O 0)) (aG (.int 1)))) af)) (ah 2 (wB Y))))))))))))
def dZ(Y:afp):afu:=aA (fL Y) 7
abbrev tH:Prop:=V.oD 3 51 ["line","value","direction","values","changes"] (dZ Y)
def vz(Y:afp):afw:=
  (aq (xy 3 af)
  (aq (o4 (fQ (U (O 0) (U (O 1) af)) v5) (b4 [4,5]) (sL 3 (Bg 3 (aa (U (aa (U (O 4) (U (O 5) (U (O 2) (U (O 1) (U (O 3) af))))) (ah 5 (dZ Y))) af) (ah 1 (gY Y))))))
  (o6 3 (bF (O 3)))))
def jX(Y:afp):afu:=aA (vz Y) 6
abbrev qP:Prop:=V.oD 47 52 ["lines","values","direction"] (jX Y)
def xP(Y:afp):afw:=
  (aq (iM 0 (Y 19) "height" (O 1))
  (aq (iM 0 (Y 19) "width" (O 2))
  (iM 0 (Y 19) "rows" (O 3))))
def aO(Y:afp):L->List D->M (D×L):=runC (xP Y) 4
abbrev aS:Prop:=V.oC 1 20 ["self","height","width","rows"] 3 (aO Y)
def AI(Y:afp):afw:=
  (bF (aa (U (O 0) (U (O 1) (U (jM (fQ (U (O 0) af) nX) (aI 3) bM (vY (O 2) (iB (aL gX (O 3) (O 1))) (iB (aL gX (aL kC (O 3) (aG (.int 1))) (O 1)))) (List.map (·.2) [(("i":Str),3)])) af))) (cH 3 (Y 19) (aO Y))))
def kN(Y:afp):afu:=aA (AI Y) 4
abbrev qQ:Prop:=V.oD 3 53 ["height","width","fractions"] (kN Y)
def vA(Y:afp):afw:=
  (aq (xy 1 af)
  (aq (o4 (iF (aB (Y 19) "rows" (O 0))) (aI 2) (JP 1 (O 2)))
  (o6 1 (bF (O 1)))))
def dc(Y:afp):afu:=aA (vA Y) 3
abbrev fM:Prop:=V.oD 1 54 ["table"] (dc Y)
def iX(Y:afp):afw:=
  (aq (dH (Yk (eL Bf (aB (Y 19) "height" (O 0)) (aG (.int 6))) (eL Bf (aB (Y 19) "width" (O 0)) (aG (.int 6)))) (dI (Y 8)) bV)
  (bF (aa (U (aB (Y 19) "height" (O 0)) (U (aB (Y 19) "width" (O 0)) (U (jM (iF (aB (Y 19) "rows" (O 0))) (aI 1) bM (jM (iF (O 1)) (aI 2) bM (aa (U (O 2) af) (ah 1 (cW Y))) (List.map (·.2) [(("entry":Str),2)])) (List.map (·.2) [(("row":Str),1)])) af))) (cH 3 (Y 19) (aO Y)))))
def eB(Y:afp):afu:=aA (iX Y) 3
abbrev rW:Prop:=V.oD 48 55 ["table"] (eB Y)
def ni(Y:afp):afw:=
  (dH (eL wR (aB (Y 19) "height" (O 0)) (aB (Y 19) "width" (O 0))) (dI (Y 4)) bV)
def aX(Y:afp):afu:=aA (ni Y) 1
abbrev eV:Prop:=V.oD 1 56 ["table"] (aX Y)
def oq(Y:afp):afw:=
  (bF (Po (kD (eL iW (aB (Y 19) "height" (O 0)) (aB (Y 19) "height" (O 1)))) (Po (kD (eL iW (aB (Y 19) "width" (O 0)) (aB (Y 19) "width" (O 1)))) (YR (aB (Y 19) "rows" (O 0)) (aB (Y 19) "rows" (O 1))))))
def jy(Y:afp):afu:=aA (oq Y) 2
abbrev wF:Prop:=V.oD 1 57 ["first","second"] (jy Y)
def uT(Y:afp):afw:=
  (aq (dH (Yk (eL wR (aB (Y 19) "height" (O 0)) (aB (Y 19) "height" (O 1))) (eL wR (aB (Y 19) "width" (O 0)) (aB (Y 19) "width" (O 1)))) (dI (Y 4)) bV)
  (aq (aU 2 (jM (fQ (U (aB (Y 19) "rows" (O 0)) (U (aB (Y 19) "rows" (O 1)) af)) v5) (b4 [3,4]) bM (jM (fQ (U (O 3) (U (O 4) af)) v5) (b4 [5,6]) bM (aa (U (O 5) (U (O 6) af)) (ah 2 (pC Y))) (List.map (·.2) [(("x":Str),5),("y",6)])) (List.map (·.2) [(("left":Str),3),("right",4)])))
  (bF (aa (U (aB (Y 19) "height" (O 0)) (U (aB (Y 19) "width" (O 0)) (U (O 2) af))) (cH 3 (Y 19) (aO Y))))))
def lJ(Y:afp):afu:=aA (uT Y) 7
abbrev CW:Prop:=V.oD 3 58 ["first","second"] (lJ Y)
def FF(Y:afp):afw:=
  (bF (aa (U (aB (Y 19) "height" (O 0)) (U (aB (Y 19) "width" (O 0)) (U (jM (iF (aB (Y 19) "rows" (O 0))) (aI 2) bM (jM (iF (O 2)) (aI 3) bM (aa (U (O 3) (U (O 1) af)) (ah 2 (jn Y))) (List.map (·.2) [(("entry":Str),3)])) (List.map (·.2) [(("row":Str),2)])) af))) (cH 3 (Y 19) (aO Y))))
def jg(Y:afp):afu:=aA (FF Y) 4
abbrev tK:Prop:=V.oD 3 60 ["table","factor"] (jg Y)
def p9(Y:afp):afw:=
  (bF (aa (U (O 0) (U (aa (U (O 1) (U (aa (U (Eo (aG (.int 1))) (U (aG (.int 1)) af)) eS) af)) (ah 2 (jg Y))) af)) (ah 2 (lJ Y))))
def gZ(Y:afp):afu:=aA (p9 Y) 2
abbrev rX:Prop:=V.oD 4 59 ["first","second"] (gZ Y)
def FG(Y:afp):afw:=
  (bF (aa (U (aB (Y 19) "width" (O 0)) (U (aB (Y 19) "height" (O 0)) (U (jM (fQ (U (aB (Y 19) "width" (O 0)) af) nX) (aI 1) bM (jM (iF (aB (Y 19) "rows" (O 0))) (aI 2) bM (aL ay (O 2) (O 1)) (List.map (·.2) [(("row":Str),2)])) (List.map (·.2) [(("j":Str),1)])) af))) (cH 3 (Y 19) (aO Y))))
def nj(Y:afp):afu:=aA (FG Y) 3
abbrev xQ:Prop:=V.oD 3 61 ["table"] (nj Y)
def kO(Y:afp):afw:=
  (aq (dH (eL wR (aB (Y 19) "height" (O 0)) (aB (Y 19) "height" (O 1))) (dI (Y 4)) bV)
  (aq (aU 2 (jM (fQ (U (aB (Y 19) "rows" (O 0)) (U (aB (Y 19) "rows" (O 1)) af)) v5) (b4 [3,4]) bM (aL iV (O 3) (O 4)) (List.map (·.2) [(("left":Str),3),("right",4)])))
  (bF (aa (U (aB (Y 19) "height" (O 0)) (U (aL kC (aB (Y 19) "width" (O 0)) (aB (Y 19) "width" (O 1))) (U (O 2) af))) (cH 3 (Y 19) (aO Y))))))
def bZ(Y:afp):afu:=aA (kO Y) 5
abbrev jt:Prop:=V.oD 3 62 ["first","second"] (bZ Y)
def lV(Y:afp):afw:=
  (aq (dH (eL wR (aB (Y 19) "width" (O 0)) (aB (Y 19) "width" (O 1))) (dI (Y 4)) bV)
  (bF (aa (U (aL kC (aB (Y 19) "height" (O 0)) (aB (Y 19) "height" (O 1))) (U (aB (Y 19) "width" (O 0)) (U (aL iV (aB (Y 19) "rows" (O 0)) (aB (Y 19) "rows" (O 1))) af))) (cH 3 (Y 19) (aO Y)))))
def f9(Y:afp):afu:=aA (lV Y) 2
abbrev tL:Prop:=V.oD 3 63 ["first","second"] (f9 Y)
def qR(Y:afp):afw:=
  (aq (dH (Yk (eL Bf (aL kC (O 1) (O 3)) (aB (Y 19) "height" (O 0))) (eL Bf (aL kC (O 2) (O 4)) (aB (Y 19) "width" (O 0)))) (dI (Y 4)) bV)
  (aq (aU 5 (jM (iF (vY (aB (Y 19) "rows" (O 0)) (iB (O 1)) (iB (aL kC (O 1) (O 3))))) (aI 6) bM (vY (O 6) (iB (O 2)) (iB (aL kC (O 2) (O 4)))) (List.map (·.2) [(("row":Str),6)])))
  (bF (aa (U (O 3) (U (O 4) (U (O 5) af))) (cH 3 (Y 19) (aO Y))))))
def jH(Y:afp):afu:=aA (qR Y) 7
abbrev uU:Prop:=V.oD 3 64 ["table","top","left","height","width"] (jH Y)
def vB(Y:afp):afw:=
  (bF (jM (fQ (U (O 0) af) nX) (aI 1) bM (jM (fQ (U (O 0) af) nX) (aI 2) bM (GX (eL iW (O 1) (O 2)) (aG (.int 1)) (aG (.int 0))) (List.map (·.2) [(("j":Str),2)])) (List.map (·.2) [(("i":Str),1)])))
def iY(Y:afp):afu:=aA (vB Y) 3
abbrev jY:Prop:=V.oD 1 65 ["size"] (iY Y)
def qa(Y:afp):afw:=
  (bF (jM (iF (O 0)) (aI 3) bM (jM (fQ (U (O 2) af) nX) (aI 4) bM (aa (U (jM (fQ (U (aa (U (O 3) af) iw) af) nX) (aI 5) bM (aL gX (aL ay (O 3) (O 5)) (aL ay (aL ay (O 1) (O 5)) (O 4))) (List.map (·.2) [(("k":Str),5)])) af) Em) (List.map (·.2) [(("j":Str),4)])) (List.map (·.2) [(("row":Str),3)])))
def dD(Y:afp):afu:=aA (qa Y) 6
abbrev g6:Prop:=V.oD 1 66 ["left","right","width"] (dD Y)
def vC(Y:afp):afw:=
  (bF (jM (iF (aB (Y 19) "rows" (O 0))) (aI 2) bM (aa (U (O 2) (U (O 1) af)) (ah 2 (bN Y))) (List.map (·.2) [(("row":Str),2)])))
def fN(Y:afp):afu:=aA (vC Y) 3
abbrev iZ:Prop:=V.oD 47 67 ["table","common"] (fN Y)
def xR(Y:afp):afw:=
  (bF (jM (iF (O 0)) (aI 2) bM (jM (iF (O 2)) (aI 3) bM (aa (U (O 3) (U (O 1) af)) eS) (List.map (·.2) [(("entry":Str),3)])) (List.map (·.2) [(("row":Str),2)])))
def iN(Y:afp):afu:=aA (xR Y) 4
abbrev jI:Prop:=V.oD 1 68 ["rows","denominator"] (iN Y)
def vD(Y:afp):afw:=
  (bF (aa (U (O 0) (U (O 0) (U (aa (U (aa (U (O 0) af) (ah 1 (iY Y))) (U (aG (.int 1)) af)) (ah 2 (iN Y))) af))) (cH 3 (Y 19) (aO Y))))
def i6(Y:afp):afu:=aA (vD Y) 1
abbrev mD:Prop:=V.oD 3 69 ["size"] (i6 Y)
def pF(Y:afp):afw:=
  (aq (dH (eL wR (aB (Y 19) "width" (O 0)) (aB (Y 19) "height" (O 1))) (dI (Y 4)) bV)
  (aq (aU 2 (aa (U (aa (U (O 0) af) (ah 1 (dc Y))) af) (ah 1 (aQ Y))))
  (aq (aU 3 (aa (U (aa (U (O 1) af) (ah 1 (dc Y))) af) (ah 1 (aQ Y))))
  (aq (aU 4 (aa (U (aa (U (O 0) (U (O 2) af)) (ah 2 (fN Y))) (U (aa (U (O 1) (U (O 3) af)) (ah 2 (fN Y))) (U (aB (Y 19) "width" (O 1)) af))) (ah 3 (dD Y))))
  (bF (aa (U (aB (Y 19) "height" (O 0)) (U (aB (Y 19) "width" (O 1)) (U (aa (U (O 4) (U (aL gX (O 2) (O 3)) af)) (ah 2 (iN Y))) af))) (cH 3 (Y 19) (aO Y))))))))
def gJ(Y:afp):afu:=aA (pF Y) 5
abbrev qS:Prop:=V.oD 48 70 ["first","second"] (gJ Y)
def tM(Y:afp):afw:=
  (aq (pY (aa (U (O 0) af) (ah 1 (aX Y))))
  (aq (aU 2 (aa (U (aa (U (O 0) af) (ah 1 (dc Y))) af) (ah 1 (aQ Y))))
  (aq (aU 3 (aa (U (O 0) (U (O 2) af)) (ah 2 (fN Y))))
  (aq (aU 4 (aa (U (aB (Y 19) "height" (O 0)) af) (ah 1 (iY Y))))
  (aq (aU 5 (aG (.int 1)))
  (aq (o4 (fQ (U (O 1) af) nX) (aI 6) (aq (aU 4 (aa (U (O 4) (U (O 3) (U (aB (Y 19) "width" (O 0)) af))) (ah 3 (dD Y))))
  (aU 5 (aL gX (O 5) (O 2)))))
  (bF (aa (U (aB (Y 19) "height" (O 0)) (U (aB (Y 19) "width" (O 0)) (U (aa (U (O 4) (U (O 5) af)) (ah 2 (iN Y))) af))) (cH 3 (Y 19) (aO Y))))))))))
def kP(Y:afp):afu:=aA (tM Y) 7
abbrev wG:Prop:=V.oD 48 71 ["table","exponent"] (kP Y)
def vn(Y:afp):afw:=
  (aq (iM 0 (Y 21) "table" (O 1))
  (iM 0 (Y 21) "leading" (O 2)))
def jz(Y:afp):L->List D->M (D×L):=runC (vn Y) 3
abbrev jA:Prop:=V.oC 1 22 ["self","table","leading"] 2 (jz Y)
def rY(Y:afp):afw:=
  (aq (o4 (fQ (U (O 1) (U (aa (U (O 0) af) iw) af)) AB) (aI 3) (dH (eL wR (aL ay (aL ay (O 0) (O 3)) (O 2)) (aG (.int 0))) (bF (O 3)) bV))
  (bF (aG .cK)))
def e7(Y:afp):afu:=aA (rY Y) 4
abbrev jZ:Prop:=V.oD 1 72 ["rows","start","column"] (e7 Y)
def tN(Y:afp):afw:=
  (aq (aU 3 (RT 0 (O 1)))
  (aq (G5 0 (RT 0 (O 2)) (O 1))
  (G5 0 (O 3) (O 2))))
def dU(Y:afp):L->List D->M (D×L):=runC (tN Y) 4
abbrev k8:Prop:=V.oC 1 73 ["rows","first","second"] 2 (dU Y)
def tO(Y:afp):afw:=
  (bF (jM (fQ (U (O 0) (U (O 1) af)) v5) (b4 [4,5]) bM (aL oj (aL JH (aL gX (aL ay (O 1) (O 2)) (O 4)) (aL gX (aL ay (O 0) (O 2)) (O 5))) (O 3)) (List.map (·.2) [(("x":Str),4),("y",5)])))
def dW(Y:afp):afu:=aA (tO Y) 6
abbrev k9:Prop:=V.oD 46 74 ["row","leader","column","before"] (dW Y)
def CY(Y:afp):afw:=
  (aq (qE 1 (Pf (iF (aB (Y 19) "rows" (O 0))) (aI 8) bM (aa (U (O 8) (U (aa (U (O 8) af) (ah 1 (aQ Y))) af)) (ah 2 (bN Y))) (List.map (·.2) [(("row":Str),8)])))
  (aq (xy 2 af)
  (aq (aU 3 (aG (.int 1)))
  (aq (o4 (fQ (U (aB (Y 19) "width" (O 0)) af) nX) (aI 4) (aq (aU 5 (Bg 2 (aa (U (O 2) af) iw)))
  (aq (aU 6 (Bg 1 (aa (U (O 1) (U (O 5) (U (O 4) af))) (ah 3 (e7 Y)))))
  (aq (dH (JY (O 6)) NQ bV)
  (aq (Cr (sM 1 2 (dU Y) (U (O 6) (U (O 5) af))))
  (o6 1 (aq (aU 7 (aL ay (O 1) (O 5)))
  (aq (qE 1 (Pf (fQ (U (O 1) af) jQ) (b4 [9,8]) bM (GX (eL iW (O 9) (O 5)) (O 8) (aa (U (O 8) (U (O 7) (U (O 4) (U (O 3) af)))) (ah 4 (dW Y)))) (List.map (·.2) [(("i":Str),9),("row",8)])))
  (aq (aU 3 (aL ay (O 7) (O 4)))
  (sL 2 (O 4)))))))))))
  (o6 1 (o6 2 (bF (aa (U (aa (U (aB (Y 19) "height" (O 0)) (U (aB (Y 19) "width" (O 0)) (U (aa (U (O 1) (U (O 3) af)) (ah 2 (iN Y))) af))) (cH 3 (Y 19) (aO Y))) (U (O 2) af)) (cH 2 (Y 21) (jz Y))))))))))
def i7(Y:afp):afu:=aA (CY Y) 10
abbrev mQ:Prop:=V.oD 47 75 ["table"] (i7 Y)
def tP(Y:afp):afw:=
  (aq (iM 0 (Y 23) "table" (O 1))
  (iM 0 (Y 23) "only" (O 2)))
def jc(Y:afp):L->List D->M (D×L):=runC (tP Y) 3
abbrev jd:Prop:=V.oC 1 24 ["self","table","only"] 2 (jc Y)
def nk(Y:afp):afw:=
  (aq (aU 1 (aB (Y 19) "height" (O 0)))
  (aq (aU 2 (aa (U (O 0) af) (ah 1 (i7 Y))))
  (aq (dH (VC (aB (Y 21) "leading" (O 2)) (ZR (YN (U (O 1) af)))) (dI (Y 7)) bV)
  (bF (aa (U (aB (Y 21) "table" (O 2)) (U (aG (.int 0)) (U (O 1) (U (O 1) (U (aL JH (aB (Y 19) "width" (O 0)) (O 1)) af))))) (ah 5 (jH Y)))))))
def ia(Y:afp):afu:=aA (nk Y) 3
abbrev lg:Prop:=V.oD 48 76 ["joined"] (ia Y)
def lq(Y:afp):afw:=
  (aq (pY (aa (U (O 0) af) (ah 1 (aX Y))))
  (bF (aa (U (aa (U (O 0) (U (aa (U (aB (Y 19) "height" (O 0)) af) (ah 1 (i6 Y))) af)) (ah 2 (bZ Y))) af) (ah 1 (ia Y)))))
def gK(Y:afp):afu:=aA (lq Y) 1
abbrev qT:Prop:=V.oD 49 77 ["table"] (gK Y)
def iO(Y:afp):afw:=
  (aq (aU 2 (aa (U (aa (U (O 0) (U (O 1) af)) (ah 2 (bZ Y))) af) (ah 1 (i7 Y))))
  (aq (dH (zm (aa (U (jM (iF (aB (Y 21) "leading" (O 2))) (aI 5) bM (kD (eL LK (O 5) (aB (Y 19) "width" (O 0)))) (List.map (·.2) [(("column":Str),5)])) af) Cj)) (o6 3 (bF (aG .cK))) bV)
  (aq (qE 3 (Pf (fQ (U (aB (Y 19) "width" (O 0)) af) nX) (aI 5) bM (aL Mf (aa (U (aa (U (aG (.int 0)) (U (aG (.int 1)) af)) eS) af) dB) (aB (Y 19) "width" (O 1))) (List.map (·.2) [(("column":Str),5)])))
  (aq (o4 (fQ (U (aB (Y 21) "leading" (O 2)) af) jQ) (b4 [4,5]) (G5 3 (vY (aL ay (aB (Y 19) "rows" (aB (Y 21) "table" (O 2))) (O 4)) (iB (aB (Y 19) "width" (O 0))) qD) (O 5)))
  (o6 3 (bF (aa (U (aa (U (aB (Y 19) "width" (O 0)) (U (aB (Y 19) "width" (O 1)) (U (O 3) af))) (cH 3 (Y 19) (aO Y))) (U (kD (eL iW (aa (U (aB (Y 21) "leading" (O 2)) af) iw) (aB (Y 19) "width" (O 0)))) af)) (cH 2 (Y 23) (jc Y)))))))))
def dX(Y:afp):afu:=aA (iO Y) 6
abbrev pG:Prop:=V.oD 48 78 ["first","second"] (dX Y)
def xS(Y:afp):afw:=
  (aq (aU 1 (aa (U (O 0) af) (ah 1 (i7 Y))))
  (aq (aU 2 (jM (fQ (U (aB (Y 19) "width" (O 0)) af) nX) (aI 5) (Cw (O 5) (aB (Y 21) "leading" (O 1))) (O 5) (List.map (·.2) [(("column":Str),5)])))
  (aq (qE 3 (Pf (fQ (U (aB (Y 19) "width" (O 0)) af) nX) (aI 5) bM (jM (iF (O 2)) (aI 6) bM (GX (eL iW (O 5) (O 6)) (aa (U (aG (.int 1)) (U (aG (.int 1)) af)) eS) (aa (U (aG (.int 0)) (U (aG (.int 1)) af)) eS)) (List.map (·.2) [(("f":Str),6)])) (List.map (·.2) [(("column":Str),5)])))
  (aq (o4 (fQ (U (aB (Y 21) "leading" (O 1)) af) jQ) (b4 [4,5]) (G5 3 (jM (iF (O 2)) (aI 6) bM (aa (U (aL ay (aL ay (aB (Y 19) "rows" (aB (Y 21) "table" (O 1))) (O 4)) (O 6)) af) (ah 1 (fS Y))) (List.map (·.2) [(("f":Str),6)])) (O 5)))
  (o6 3 (bF (aa (U (aB (Y 19) "width" (O 0)) (U (aa (U (O 2) af) iw) (U (O 3) af))) (cH 3 (Y 19) (aO Y)))))))))
def jJ(Y:afp):afu:=aA (xS Y) 7
abbrev tQ:Prop:=V.oD 48 79 ["table"] (jJ Y)
def ou(Y:afp):afw:=
  (aq (iM 0 (Y 25) "code" (O 1))
  (aq (iM 0 (Y 25) "kind" (O 2))
  (aq (iM 0 (Y 25) "inputs" (jM (iF (O 3)) (aI 4) bM (aa (U (O 4) af) (ah 1 (gY Y))) (List.map (·.2) [(("fraction":Str),4)])))
  (iM 0 (Y 25) "worked" (aa (U (aB (Y 17) "lines" (O 1)) (U (we 0 (Y 25) "inputs") af)) (ah 2 (gz Y)))))))
def dP(Y:afp):L->List D->M (D×L):=runC (ou Y) 5
abbrev kQ:Prop:=V.oC 48 26 ["self","code","kind","inputs"] 3 (dP Y)
def tR(Y:afp):afw:=
  (aq (aU 1 (jM (iF (aB (Y 17) "outs" (aB (Y 25) "code" (O 0)))) (aI 2) bM (aL ay (aB (Y 25) "worked" (O 0)) (O 2)) (List.map (·.2) [(("out":Str),2)])))
  (aq (dH (eL iW (aB (Y 25) "kind" (O 0)) (aG (.int 1))) (aU 1 (jM (fQ (U (O 1) (U (aB (Y 25) "inputs" (O 0)) af)) v5) (b4 [3,4]) bM (aa (U (O 3) (U (O 4) af)) (ah 2 (gI Y))) (List.map (·.2) [(("value":Str),3),("unknown",4)]))) bV)
  (bF (O 1))))
def jh(Y:afp):afu:=aA (tR Y) 5
abbrev lu:Prop:=V.oD 3 80 ["point"] (jh Y)
def xT(Y:afp):afw:=
  (dH (zm (aa (U (jM (iF (aa (U (O 0) af) (ah 1 (jh Y)))) (aI 1) bM (kD (eL wR (aL ay (O 1) (aG (.int 0))) (aG (.int 0)))) (List.map (·.2) [(("fraction":Str),1)])) af) Cj)) (dI (Y 6)) bV)
def oA(Y:afp):afu:=aA (xT Y) 2
abbrev tS:Prop:=V.oD 4 81 ["point"] (oA Y)
def oB(Y:afp):afw:=
  (aq (aU 2 (jM (fQ (U (aa (U (aB (Y 25) "inputs" (O 0)) af) iw) af) nX) (aI 5) bM (GX (eL iW (O 5) (O 1)) (aa (U (aG (.int 1)) (U (aG (.int 1)) af)) eS) (aa (U (aG (.int 0)) (U (aG (.int 1)) af)) eS)) (List.map (·.2) [(("place":Str),5)])))
  (aq (aU 3 (aa (U (aB (Y 17) "lines" (aB (Y 25) "code" (O 0))) (U (aB (Y 25) "worked" (O 0)) (U (O 2) af))) (ah 3 (jX Y))))
  (aq (aU 4 (jM (iF (aB (Y 17) "outs" (aB (Y 25) "code" (O 0)))) (aI 6) bM (aL ay (O 3) (O 6)) (List.map (·.2) [(("out":Str),6)])))
  (aq (dH (eL iW (aB (Y 25) "kind" (O 0)) (aG (.int 1))) (aU 4 (jM (fQ (U (O 4) (U (O 2) af)) v5) (b4 [7,8]) bM (aa (U (O 7) (U (O 8) af)) (ah 2 (gI Y))) (List.map (·.2) [(("change":Str),7),("unknown",8)]))) bV)
  (bF (O 4))))))
def gc(Y:afp):afu:=aA (oB Y) 9
abbrev kR:Prop:=V.oD 48 82 ["point","k"] (gc Y)
def tT(Y:afp):afw:=
  (aq (pY (aa (U (O 0) af) (ah 1 (oA Y))))
  (aq (aU 1 (jM (fQ (U (aa (U (aB (Y 25) "inputs" (O 0)) af) iw) af) nX) (aI 3) bM (aa (U (O 0) (U (O 3) af)) (ah 2 (gc Y))) (List.map (·.2) [(("k":Str),3)])))
  (aq (aU 2 (aa (U (aa (U (aa (U (aB (Y 25) "inputs" (O 0)) af) iw) (U (aB (Y 17) "unknowns" (aB (Y 25) "code" (O 0))) (U (O 1) af))) (cH 3 (Y 19) (aO Y))) af) (ah 1 (nj Y))))
  (bF (aa (U (aa (U (O 2) af) (ah 1 (ia Y))) (U (aa (U (Eo (aG (.int 1))) (U (aG (.int 1)) af)) eS) af)) (ah 2 (jg Y)))))))
def jB(Y:afp):afu:=aA (tT Y) 4
abbrev qU:Prop:=V.oD 49 83 ["point"] (jB Y)
def ju(Y:afp):afw:=
  (aq (dH (eL wR (aa (U (O 0) af) iw) (aL gX (aG (.int 2)) (O 1))) (dI (Y 1)) bV)
  (aq (aU 2 (jM (fQ (U (O 1) af) nX) (aI 3) bM (aa (U (aL ay (O 0) (aL gX (aG (.int 2)) (O 3))) (U (aL ay (O 0) (aL kC (aL gX (aG (.int 2)) (O 3)) (aG (.int 1)))) af)) eS) (List.map (·.2) [(("k":Str),3)])))
  (aq (dH (zm (aa (U (jM (iF (O 2)) (aI 4) bM (kD (eL Fz (aL ay (O 4) (aG (.int 1))) (aG (.int 1)))) (List.map (·.2) [(("fraction":Str),4)])) af) Cj)) (dI (Y 1)) bV)
  (bF (O 2)))))
def dg(Y:afp):afu:=aA (ju Y) 5
abbrev iP:Prop:=V.oD 1 84 ["numbers","count"] (dg Y)
def oE(Y:afp):afw:=
  (aq (xy 1 af)
  (aq (o4 (iF (O 0)) (aI 2) (JP 1 (O 2)))
  (o6 1 (bF (O 1)))))
def gk(Y:afp):afu:=aA (oE Y) 3
abbrev i8:Prop:=V.oD 1 85 ["fractions"] (gk Y)
def rZ(Y:afp):afw:=
  (bF (aa (U (jM (iF (O 0)) (aI 1) bM (aa (U (O 1) af) (ah 1 (cW Y))) (List.map (·.2) [(("fraction":Str),1)])) af) (ah 1 (gk Y))))
def dh(Y:afp):afu:=aA (rZ Y) 2
abbrev e8:Prop:=V.oD 48 86 ["fractions"] (dh Y)
def ly(Y:afp):afw:=
  (dH (Yk (eL Fz (O 0) (O 1)) (eL Bf (O 0) (O 2))) (dI (Y 0)) bV)
def bO(Y:afp):afu:=aA (ly Y) 3
abbrev eN:Prop:=V.oD 1 87 ["number","low","high"] (bO Y)
def pH(Y:afp):afw:=
  (pY (aa (U (O 0) (U (aG (.int 0)) (U (aL JH (aG (.int 6)) (aG (.int 1))) af))) (ah 3 (bO Y))))
def bD(Y:afp):afu:=aA (pH Y) 1
abbrev cu:Prop:=V.oD 2 88 ["number"] (bD Y)
def oF(Y:afp):afw:=
  (aq (iM 0 (Y 27) "tables" (jM (fQ (U (aG (.int 6)) af) nX) (aI 1) bM (aa (U (aG (.int 0)) (U (aG (.int 0)) (U (aa af dB) af))) (cH 3 (Y 19) (aO Y))) (List.map (·.2) [(("place":Str),1)])))
  (iM 0 (Y 27) "code" (aa (U (aG (.int 0)) (U (aG (.int 0)) (U (aa af dB) (U (aa af dB) af)))) (cH 4 (Y 17) (jq Y)))))
def gm(Y:afp):L->List D->M (D×L):=runC (oF Y) 2
abbrev qc:Prop:=V.oC 3 28 ["self"] 0 (gm Y)
def pI(Y:afp):afw:=
  (aq (pY (aa (U (O 1) af) (ah 1 (bD Y))))
  (bF (aL ay (aB (Y 27) "tables" (O 0)) (O 1))))
def aV(Y:afp):afu:=aA (pI Y) 2
abbrev bP:Prop:=V.oD 3 29 ["self","place"] (aV Y)
def oG(Y:afp):afw:=
  (aq (aU 4 (aL iV (aa (U (O 2) (U (aB (Y 17) "unknowns" (O 0)) af)) (ah 2 (dg Y))) (aa (U (O 3) (U (aB (Y 17) "parameters" (O 0)) af)) (ah 2 (dg Y)))))
  (bF (aa (U (O 0) (U (O 1) (U (O 4) af))) (cH 3 (Y 25) (dP Y)))))
def e9(Y:afp):afu:=aA (oG Y) 5
abbrev nq:Prop:=V.oD 50 89 ["code","kind","unknowns","parameters"] (e9 Y)
def qV(Y:afp):afw:=
  (pY (aa (U (O 0) (U (aG (.int 0)) (U (aG (.int 1)) af))) (ah 3 (bO Y))))
def gE(Y:afp):afu:=aA (qV Y) 1
abbrev lK:Prop:=V.oD 2 90 ["number"] (gE Y)
def qd(Y:afp):afw:=
  (aq (iM 0 (Y 31) "changes" (O 1))
  (iM 0 (Y 31) "numbers" (O 2)))
def gM(Y:afp):L->List D->M (D×L):=runC (qd Y) 3
abbrev gO:Prop:=V.oC 1 32 ["self","changes","numbers"] 2 (gM Y)
def vE(Y:afp):afw:=
  (aq (qE 1 (RP (U (O 0) af)))
  (aq (aU 2 (aG (.int 0)))
  (aq (xy 3 af)
  (aq (aU 4 (aG (.int 1)))
  (aq (o4 (fQ (U (aa (U (O 0) af) iw) af) nX) (aI 5) (aq (aU 6 (Bg 1 (aa (U (O 1) (U (O 5) (U (O 5) af))) (ah 3 (e7 Y)))))
  (aq (dH (JY (O 6)) (aq (sL 3 (aG (.int 0)))
  G9) bV)
  (aq (dH (eL wR (O 6) (O 5)) (aq (Cr (sM 1 2 (dU Y) (U (O 6) (U (O 5) af))))
  (R4 2 (aG (.int 1)))) bV)
  (o6 1 (aq (aU 7 (aL ay (O 1) (O 5)))
  (aq (qE 1 (RO (vY (O 1) qD (iB (aL kC (O 5) (aG (.int 1))))) (jM (iF (vY (O 1) (iB (aL kC (O 5) (aG (.int 1)))) qD)) (aI 8) bM (aa (U (O 8) (U (O 7) (U (O 5) (U (O 4) af)))) (ah 4 (dW Y))) (List.map (·.2) [(("row":Str),8)]))))
  (aq (aU 4 (aL ay (O 7) (O 5)))
  (sL 3 (O 4))))))))))
  (o6 3 (bF (aa (U (O 2) (U (O 3) af)) (cH 2 (Y 31) (gM Y))))))))))
def i9(Y:afp):afu:=aA (vE Y) 9
abbrev mE:Prop:=V.oD 47 95 ["rows"] (i9 Y)
def j0(Y:afp):afw:=
  (aq (pY (aa (U (O 0) af) (ah 1 (aX Y))))
  (aq (dH (zm (aa (U (jM (iF (aa (U (O 0) af) (ah 1 (dc Y)))) (aI 1) bM (kD (eL wR (aL ay (O 1) (aG (.int 1))) (aG (.int 1)))) (List.map (·.2) [(("entry":Str),1)])) af) Cj)) (dI (Y 7)) bV)
  (bF (aa (U (aa (U (O 0) (U (aG (.int 1)) af)) (ah 2 (fN Y))) af) (ah 1 (i9 Y))))))
def dQ(Y:afp):afu:=aA (j0 Y) 2
abbrev kT:Prop:=V.oD 48 96 ["table"] (dQ Y)
def kg(Y:afp):afw:=
  (aq (pY (aa (U (O 0) af) (ah 1 (aX Y))))
  (aq (aU 1 (jM (iF (aB (Y 19) "rows" (O 0))) (aI 6) bM (aa (U (O 6) af) (ah 1 (aQ Y))) (List.map (·.2) [(("row":Str),6)])))
  (aq (aU 2 (aa (U (jM (fQ (U (aB (Y 19) "rows" (O 0)) (U (O 1) af)) v5) (b4 [6,5]) bM (aa (U (O 6) (U (O 5) af)) (ah 2 (bN Y))) (List.map (·.2) [(("row":Str),6),("common",5)])) af) (ah 1 (i9 Y))))
  (aq (aU 3 (GX (eL Bf (aB (Y 19) "height" (O 0)) (aG (.int 0))) (aL ay (aB (Y 31) "numbers" (O 2)) (Eo (aG (.int 1)))) (aG (.int 1))))
  (aq (dH (eL iW (aL GW (aB (Y 31) "changes" (O 2)) (aG (.int 2))) (aG (.int 1))) (aU 3 (Eo (O 3))) bV)
  (aq (aU 4 (aG (.int 1)))
  (aq (o4 (iF (O 1)) (aI 5) (aU 4 (aL gX (O 4) (O 5))))
  (bF (aa (U (O 3) (U (O 4) af)) eS)))))))))
def eX(Y:afp):afu:=aA (kg Y) 7
abbrev kU:Prop:=V.oD 48 97 ["table"] (eX Y)
def tU(Y:afp):afw:=
  (aq (pY (aa (U (O 0) af) (ah 1 (aX Y))))
  (aq (aU 1 (jM (fQ (U (aB (Y 19) "rows" (O 0)) af) jQ) (b4 [3,4]) bM (aL ay (O 4) (O 3)) (List.map (·.2) [(("i":Str),3),("row",4)])))
  (aq (aU 2 (aa (U (O 1) af) (ah 1 (aQ Y))))
  (bF (aa (U (aa (U (aa (U (O 1) (U (O 2) af)) (ah 2 (bN Y))) af) Em) (U (O 2) af)) eS)))))
def kW(Y:afp):afu:=aA (tU Y) 5
abbrev wH:Prop:=V.oD 47 98 ["table"] (kW Y)
def vG(Y:afp):afw:=
  (bF (jM (fQ (U (O 0) af) jQ) (b4 [2,3]) bM (jM (fQ (U (O 3) af) jQ) (b4 [4,5]) bM (GX (eL iW (O 2) (O 4)) (aL kC (O 5) (O 1)) (O 5)) (List.map (·.2) [(("j":Str),4),("entry",5)])) (List.map (·.2) [(("i":Str),2),("row",3)])))
def kh(Y:afp):afu:=aA (vG Y) 6
abbrev qW:Prop:=V.oD 1 99 ["rows","number"] (kh Y)
def fB(Y:afp):afw:=
  (aq (pY (aa (U (O 0) af) (ah 1 (aX Y))))
  (aq (aU 1 (aa (U (aa (U (O 0) af) (ah 1 (dc Y))) af) (ah 1 (aQ Y))))
  (aq (aU 2 (aa (U (O 0) (U (O 1) af)) (ah 2 (fN Y))))
  (aq (aU 3 (aa (U (aB (Y 19) "height" (O 0)) af) (ah 1 (iY Y))))
  (aq (xy 4 (U (aa (U (aG (.int 1)) (U (aG (.int 1)) af)) eS) af))
  (aq (aU 5 (aG (.int 1)))
  (aq (o4 (fQ (U (aG (.int 1)) (U (aL kC (aB (Y 19) "height" (O 0)) (aG (.int 1))) af)) AB) (aI 6) (aq (aU 3 (aa (U (O 2) (U (O 3) (U (aB (Y 19) "width" (O 0)) af))) (ah 3 (dD Y))))
  (aq (aU 7 (aL oj (Eo (aa (U (jM (fQ (U (O 3) af) jQ) (b4 [8,9]) bM (aL ay (O 9) (O 8)) (List.map (·.2) [(("i":Str),8),("row",9)])) af) Em)) (O 6)))
  (aq (aU 3 (aa (U (O 3) (U (O 7) af)) (ah 2 (kh Y))))
  (aq (aU 5 (aL gX (O 5) (O 1)))
  (sL 4 (aa (U (O 7) (U (O 5) af)) eS)))))))
  (o6 4 (bF (O 4))))))))))
def bT(Y:afp):afu:=aA (fB Y) 10
abbrev fT:Prop:=V.oD 48 100 ["table"] (bT Y)
end
section
variable{P:Program}{w:World}{K:W.Frag}{mg:afs}{base:Heap}{Y:afp}{fd:aft}
def b8(Y:afp):D->M D:=λt=>eB Y [t]
abbrev cY(_:Env P w K mg base Y fd):Prop:=eH P w K mg base (kB P w) 50 (Y 30) (fd 30) ["self","place","table"] (spP K (Y 27) (Y 19) (b8 Y))
def vH(Y:afp)(a:Addr):Option (afu):=
 if a=Y 58 then some (lJ Y)else if a=Y 59 then some (gZ Y)else if a=Y 70 then some (gJ Y)else if a=Y 62 then some (bZ Y)else if a=Y 63 then some (f9 Y)else none
abbrev Mz(_:Env P w K mg base Y fd):Prop:=∀{A:Around},cG 50 A->∀f h,vH Y f=some h->∃fd a k,eH P w K mg base (kB P w) k f fd a (Ud K 2 h)/\cG k A/\W.keepIn K (.ref f)=true/\Binds K fd a []
end
section
variable{P:Program}{w:World}{K:W.Frag}{mg:afs}{base:Heap}{Y:afp}{fd:aft}(V:Env P w K mg base Y fd)
abbrev Env.oS(_:Env P w K mg base Y fd)(n:Nat)(ps:List Str)(m k:Nat)(h:afv):Prop:=eH P w K mg base (kB P w) k (Y n) (fd n) ps (WZ K (Y 27) (Y 19) m h)
theorem oS{x a:Str}{st:Stmt}{f:Addr}{g:FuncData}{ps:List Str}{k n:Nat}{CS CT:Addr}{e:List D->D->ak->M b6}(F:LX K x a st f g)(N:List Str)(c:fj N ps (aP st)->∀(b:List D)(code:D)(d:Value)(A:Around)(aN:List PySem.Env)(s:Shared)(H:Hp)(E:XK),cG k (A.deeper (envOfC a (aP st) s.heap.objs.size f d))->lS (mq (kB P w) P w K mg base N a (aP st) f d A aN s H E) (gG st) (zo K CS CT E b code (e b code))) (S:scB N ps (aP st)=true:=by decide+kernel) (h:ps.length=n+1:=by rfl):
  eH P w K mg base (kB P w) (k+1) f g ps (WZ K CS CT n (kE CS e N.length)):=okS F (Y8 S) h (c (Y8 S))
abbrev Eu(Y:afp)(a:List D)(code:D):ak->M b6:=
  (cN (Y 27) (Y 19) a code (pY (aa (U (aL ay (O 1) (aG (.int 0))) af) (ah 1 (bD Y))))
  (cN (Y 27) (Y 19) a code (aU 3 (iC 1 (Y 27) "held" (aV Y) (O 0) (U (aL ay (O 1) (aG (.int 1))) af)))
  (cN (Y 27) (Y 19) a code (aU 4 (iC 1 (Y 27) "held" (aV Y) (O 0) (U (aL ay (O 1) (aG (.int 2))) af)))
  (cS (Y 27) (Y 19) (b8 Y) a code (U (aL ay (O 1) (aG (.int 0))) (U (Fv 2 2 (vH Y) (U (O 3) (U (O 4) af))) af)) (aa (U (aG (.int 0)) af) dB)))))
def cE(Y:afp):afv:=kE (Y 27) (Eu Y) 5
abbrev gP:Prop:=V.oS 101 ["shelf","given","join"] 2 55 (cE Y)
abbrev Ht(Y:afp)(a:List D)(code:D):ak->M b6:=
  (cN (Y 27) (Y 19) a code (pY (aa (U (aL ay (O 1) (aG (.int 0))) (U (aG (.int 1)) (U (aG (.int 4)) af))) (ah 3 (bO Y))))
  (cN (Y 27) (Y 19) a code (pY (aa (U (aL ay (O 1) (aG (.int 1))) (U (aG (.int 0)) (U (aG (.int 4)) af))) (ah 3 (bO Y))))
  (mZ (Y 27) (Y 19) a (aa (U (aL ay (O 1) (aG (.int 0))) (U (aL ay (O 1) (aG (.int 1))) (U (aL ay (O 1) (aG (.int 2))) (U (aL ay (O 1) (aG (.int 3))) af)))) (ah 4 (g9 Y))) (aa (U (aa (U (aB (Y 17) "lines" (aB (Y 27) "code" (O 0))) af) iw) af) dB))))
def tV(Y:afp):afv:=kE (Y 27) (Ht Y) 2
abbrev AJ:Prop:=V.oS 91 ["shelf","given"] 1 57 (tV Y)
abbrev zL(Y:afp)(a:List D)(code:D):ak->M b6:=
  (cN (Y 27) (Y 19) a code (pY (aa (U (aL ay (O 1) (aG (.int 0))) af) (ah 1 (gE Y))))
  (cN (Y 27) (Y 19) a code (aU 2 (aa (U (aa (U (aB (Y 27) "code" (O 0)) (U (aL ay (O 1) (aG (.int 0))) (U (aL ay (O 1) (aG (.int 1))) (U (aL ay (O 1) (aG (.int 2))) af)))) (ah 4 (e9 Y))) af) (ah 1 (jh Y))))
  (jG (Y 27) (Y 19) a code (bF (aL iV (aa (U (aa (U (O 2) af) iw) af) dB) (aa (U (O 2) af) (ah 1 (dh Y))))))))
def lW(Y:afp):afv:=kE (Y 27) (zL Y) 3
abbrev r6:Prop:=V.oS 92 ["shelf","given"] 1 57 (lW Y)
abbrev zM(Y:afp)(a:List D)(code:D):ak->M b6:=
  (cN (Y 27) (Y 19) a code (pY (aa (U (aL ay (O 1) (aG (.int 0))) af) (ah 1 (bD Y))))
  (cN (Y 27) (Y 19) a code (pY (aa (U (aL ay (O 1) (aG (.int 1))) af) (ah 1 (gE Y))))
  (cS (Y 27) (Y 19) (b8 Y) a code (U (aL ay (O 1) (aG (.int 0))) (U (aa (U (aa (U (aB (Y 27) "code" (O 0)) (U (aL ay (O 1) (aG (.int 1))) (U (aL ay (O 1) (aG (.int 2))) (U (aL ay (O 1) (aG (.int 3))) af)))) (ah 4 (e9 Y))) af) (ah 1 (jB Y))) af)) (aa (U (aG (.int 0)) af) dB))))
def lX(Y:afp):afv:=kE (Y 27) (zM Y) 2
abbrev r8:Prop:=V.oS 93 ["shelf","given"] 1 57 (lX Y)
abbrev Hu(Y:afp)(a:List D)(code:D):ak->M b6:=
  (cN (Y 27) (Y 19) a code (pY (aa (U (aL ay (O 1) (aG (.int 0))) af) (ah 1 (gE Y))))
  (cN (Y 27) (Y 19) a code (aU 2 (aB (Y 27) "code" (O 0)))
  (cN (Y 27) (Y 19) a code (aU 3 (aa (U (O 2) (U (aL ay (O 1) (aG (.int 0))) (U (aL ay (O 1) (aG (.int 1))) (U (aL ay (O 1) (aG (.int 2))) af)))) (ah 4 (e9 Y))))
  (cN (Y 27) (Y 19) a code (aU 4 (aa (U (aG (.int 1)) (U (aB (Y 17) "unknowns" (O 2)) (U (aa (U (aL ay (O 1) (aG (.int 3))) (U (aB (Y 17) "unknowns" (O 2)) af)) (ah 2 (dg Y))) af))) (ah 3 (kN Y))))
  (cN (Y 27) (Y 19) a code (aU 5 (aa (U (aa (U (O 4) (U (aa (U (O 3) af) (ah 1 (jB Y))) af)) (ah 2 (gJ Y))) af) (ah 1 (dc Y))))
  (jG (Y 27) (Y 19) a code (bF (aL iV (aa (U (aa (U (O 5) af) iw) af) dB) (aa (U (O 5) af) (ah 1 (dh Y)))))))))))
def tW(Y:afp):afv:=kE (Y 27) (Hu Y) 6
abbrev AK:Prop:=V.oS 94 ["shelf","given"] 1 57 (tW Y)
abbrev Ka(Y:afp)(a:List D)(code:D):ak->M b6:=
  (cN (Y 27) (Y 19) a code (pY (aa (U (aL ay (O 1) (aG (.int 0))) af) (ah 1 (bD Y))))
  (cN (Y 27) (Y 19) a code (aU 2 (aL ay (O 1) (aG (.int 1))))
  (cN (Y 27) (Y 19) a code (aU 3 (aL ay (O 1) (aG (.int 2))))
  (cN (Y 27) (Y 19) a code (pY (aa (U (O 2) (U (aG (.int 0)) (U (aG (.int 6)) af))) (ah 3 (bO Y))))
  (cN (Y 27) (Y 19) a code (pY (aa (U (O 3) (U (aG (.int 0)) (U (aG (.int 6)) af))) (ah 3 (bO Y))))
  (cS (Y 27) (Y 19) (b8 Y) a code (U (aL ay (O 1) (aG (.int 0))) (U (aa (U (O 2) (U (O 3) (U (aa (U (aL ay (O 1) (aG (.int 3))) (U (aL gX (O 2) (O 3)) af)) (ah 2 (dg Y))) af))) (ah 3 (kN Y))) af)) (aa (U (aG (.int 0)) af) dB)))))))
def wI(Y:afp):afv:=kE (Y 27) (Ka Y) 4
abbrev CZ:Prop:=V.oS 102 ["shelf","given"] 1 57 (wI Y)
abbrev Kc(Y:afp)(a:List D)(code:D):ak->M b6:=
  (cN (Y 27) (Y 19) a code (aU 2 (iC 1 (Y 27) "held" (aV Y) (O 0) (U (aL ay (O 1) (aG (.int 0))) af)))
  (jG (Y 27) (Y 19) a code (bF (aL iV (aa (U (aB (Y 19) "height" (O 2)) (U (aB (Y 19) "width" (O 2)) af)) dB) (aa (U (aa (U (O 2) af) (ah 1 (dc Y))) af) (ah 1 (gk Y)))))))
def wJ(Y:afp):afv:=kE (Y 27) (Kc Y) 3
abbrev C1:Prop:=V.oS 103 ["shelf","given"] 1 57 (wJ Y)
abbrev Kd(Y:afp)(a:List D)(code:D):ak->M b6:=
  (jT (Y 27) (Y 19) 2 (cE Y) a code (U (O 1) (U (aG (.fn (Y 58))) af)) λb=>b.all (fR (Y 27) (Y 19)))
def qX(Y:afp):afv:=kE (Y 27) (Kd Y) 2
abbrev C2:Prop:=V.oS 104 ["shelf","given"] 1 57 (qX Y)
abbrev Ke(Y:afp)(a:List D)(code:D):ak->M b6:=
  (jT (Y 27) (Y 19) 2 (cE Y) a code (U (O 1) (U (aG (.fn (Y 59))) af)) λb=>b.all (fR (Y 27) (Y 19)))
def qY(Y:afp):afv:=kE (Y 27) (Ke Y) 2
abbrev C3:Prop:=V.oS 105 ["shelf","given"] 1 57 (qY Y)
abbrev Kf(Y:afp)(a:List D)(code:D):ak->M b6:=
  (jT (Y 27) (Y 19) 2 (cE Y) a code (U (O 1) (U (aG (.fn (Y 70))) af)) λb=>b.all (fR (Y 27) (Y 19)))
def qZ(Y:afp):afv:=kE (Y 27) (Kf Y) 2
abbrev C4:Prop:=V.oS 106 ["shelf","given"] 1 57 (qZ Y)
abbrev Ew(Y:afp)(a:List D)(code:D):ak->M b6:=
  (cN (Y 27) (Y 19) a code (pY (aa (U (aL ay (O 1) (aG (.int 0))) af) (ah 1 (bD Y))))
  (cN (Y 27) (Y 19) a code (aU 2 (iC 1 (Y 27) "held" (aV Y) (O 0) (U (aL ay (O 1) (aG (.int 1))) af)))
  (cN (Y 27) (Y 19) a code (aU 3 (aL ay (O 1) (aG (.int 3))))
  (cN (Y 27) (Y 19) a code (dH (eL Fz (O 3) (aG (.int 1))) (dI (Y 0)) bV)
  (cS (Y 27) (Y 19) (b8 Y) a code (U (aL ay (O 1) (aG (.int 0))) (U (aa (U (O 2) (U (aa (U (aL ay (O 1) (aG (.int 2))) (U (O 3) af)) eS) af)) (ah 2 (jg Y))) af)) (aa (U (aG (.int 0)) af) dB))))))
def rj(Y:afp):afv:=kE (Y 27) (Ew Y) 4
abbrev xU:Prop:=V.oS 107 ["shelf","given"] 1 57 (rj Y)
abbrev Hv(Y:afp)(a:List D)(code:D):ak->M b6:=
  (cN (Y 27) (Y 19) a code (pY (aa (U (aL ay (O 1) (aG (.int 0))) af) (ah 1 (bD Y))))
  (cS (Y 27) (Y 19) (b8 Y) a code (U (aL ay (O 1) (aG (.int 0))) (U (aa (U (iC 1 (Y 27) "held" (aV Y) (O 0) (U (aL ay (O 1) (aG (.int 1))) af)) af) (ah 1 (nj Y))) af)) (aa (U (aG (.int 0)) af) dB)))
def tX(Y:afp):afv:=kE (Y 27) (Hv Y) 2
abbrev AL:Prop:=V.oS 108 ["shelf","given"] 1 57 (tX Y)
abbrev Hw(Y:afp)(a:List D)(code:D):ak->M b6:=
  (cN (Y 27) (Y 19) a code (pY (aa (U (aL ay (O 1) (aG (.int 0))) af) (ah 1 (bD Y))))
  (cN (Y 27) (Y 19) a code (pY (aa (U (aL ay (O 1) (aG (.int 1))) (U (aG (.int 0)) (U (aG (.int 6)) af))) (ah 3 (bO Y))))
  (cS (Y 27) (Y 19) (b8 Y) a code (U (aL ay (O 1) (aG (.int 0))) (U (aa (U (aL ay (O 1) (aG (.int 1))) af) (ah 1 (i6 Y))) af)) (aa (U (aG (.int 0)) af) dB))))
def tY(Y:afp):afv:=kE (Y 27) (Hw Y) 2
abbrev AM:Prop:=V.oS 109 ["shelf","given"] 1 57 (tY Y)
abbrev C5(Y:afp)(a:List D)(code:D):ak->M b6:=
  (jT (Y 27) (Y 19) 2 (cE Y) a code (U (O 1) (U (aG (.fn (Y 62))) af)) λb=>b.all (fR (Y 27) (Y 19)))
def lz(Y:afp):afv:=kE (Y 27) (C5 Y) 2
abbrev vI:Prop:=V.oS 110 ["shelf","given"] 1 57 (lz Y)
abbrev Ey(Y:afp)(a:List D)(code:D):ak->M b6:=
  (jT (Y 27) (Y 19) 2 (cE Y) a code (U (O 1) (U (aG (.fn (Y 63))) af)) λb=>b.all (fR (Y 27) (Y 19)))
def mF(Y:afp):afv:=kE (Y 27) (Ey Y) 2
abbrev xV:Prop:=V.oS 111 ["shelf","given"] 1 57 (mF Y)
abbrev Hx(Y:afp)(a:List D)(code:D):ak->M b6:=
  (cN (Y 27) (Y 19) a code (pY (aa (U (aL ay (O 1) (aG (.int 0))) af) (ah 1 (bD Y))))
  (cN (Y 27) (Y 19) a code (aU 2 (iC 1 (Y 27) "held" (aV Y) (O 0) (U (aL ay (O 1) (aG (.int 1))) af)))
  (cN (Y 27) (Y 19) a code (o4 (iF (vY (O 1) (iB (aG (.int 2))) qD)) (aI 3) (pY (aa (U (O 3) (U (aG (.int 0)) (U (aG (.int 6)) af))) (ah 3 (bO Y)))))
  (cS (Y 27) (Y 19) (b8 Y) a code (U (aL ay (O 1) (aG (.int 0))) (U (aa (U (O 2) (U (aL ay (O 1) (aG (.int 2))) (U (aL ay (O 1) (aG (.int 3))) (U (aL ay (O 1) (aG (.int 4))) (U (aL ay (O 1) (aG (.int 5))) af))))) (ah 5 (jH Y))) af)) (aa (U (aG (.int 0)) af) dB)))))
def tZ(Y:afp):afv:=kE (Y 27) (Hx Y) 4
abbrev AN:Prop:=V.oS 112 ["shelf","given"] 1 57 (tZ Y)
abbrev Ez(Y:afp)(a:List D)(code:D):ak->M b6:=
  (cN (Y 27) (Y 19) a code (pY (aa (U (aL ay (O 1) (aG (.int 0))) af) (ah 1 (bD Y))))
  (cN (Y 27) (Y 19) a code (aU 2 (iC 1 (Y 27) "held" (aV Y) (O 0) (U (aL ay (O 1) (aG (.int 1))) af)))
  (cN (Y 27) (Y 19) a code (pY (aa (U (aL ay (O 1) (aG (.int 2))) (U (aG (.int 0)) (U (aG (.int 12)) af))) (ah 3 (bO Y))))
  (cS (Y 27) (Y 19) (b8 Y) a code (U (aL ay (O 1) (aG (.int 0))) (U (aa (U (O 2) (U (aL ay (O 1) (aG (.int 2))) af)) (ah 2 (kP Y))) af)) (aa (U (aG (.int 0)) af) dB)))))
def rm(Y:afp):afv:=kE (Y 27) (Ez Y) 3
abbrev xW:Prop:=V.oS 113 ["shelf","given"] 1 57 (rm Y)
abbrev C6(Y:afp)(a:List D)(code:D):ak->M b6:=
  (cN (Y 27) (Y 19) a code (pY (aa (U (aL ay (O 1) (aG (.int 0))) af) (ah 1 (bD Y))))
  (cN (Y 27) (Y 19) a code (aU 2 (aa (U (iC 1 (Y 27) "held" (aV Y) (O 0) (U (aL ay (O 1) (aG (.int 1))) af)) af) (ah 1 (i7 Y))))
  (cS (Y 27) (Y 19) (b8 Y) a code (U (aL ay (O 1) (aG (.int 0))) (U (aB (Y 21) "table" (O 2)) af)) (aL iV (aa (U (aa (U (aB (Y 21) "leading" (O 2)) af) iw) af) dB) (aB (Y 21) "leading" (O 2))))))
def pJ(Y:afp):afv:=kE (Y 27) (C6 Y) 3
abbrev vJ:Prop:=V.oS 114 ["shelf","given"] 1 57 (pJ Y)
abbrev Kg(Y:afp)(a:List D)(code:D):ak->M b6:=
  (jG (Y 27) (Y 19) a code (bF (aL iV (aa (U (aG (.int 0)) af) dB) (aa (U (aa (U (aa (U (iC 1 (Y 27) "held" (aV Y) (O 0) (U (aL ay (O 1) (aG (.int 0))) af)) af) (ah 1 (eX Y))) af) dB) af) (ah 1 (dh Y))))))
def wK(Y:afp):afv:=kE (Y 27) (Kg Y) 2
abbrev C7:Prop:=V.oS 115 ["shelf","given"] 1 57 (wK Y)
abbrev Bk(Y:afp)(a:List D)(code:D):ak->M b6:=
  (cN (Y 27) (Y 19) a code (pY (aa (U (aL ay (O 1) (aG (.int 0))) af) (ah 1 (bD Y))))
  (cS (Y 27) (Y 19) (b8 Y) a code (U (aL ay (O 1) (aG (.int 0))) (U (aa (U (iC 1 (Y 27) "held" (aV Y) (O 0) (U (aL ay (O 1) (aG (.int 1))) af)) af) (ah 1 (gK Y))) af)) (aa (U (aG (.int 0)) af) dB)))
def nt(Y:afp):afv:=kE (Y 27) (Bk Y) 2
abbrev ua:Prop:=V.oS 116 ["shelf","given"] 1 57 (nt Y)
abbrev EA(Y:afp)(a:List D)(code:D):ak->M b6:=
  (cN (Y 27) (Y 19) a code (pY (aa (U (aL ay (O 1) (aG (.int 0))) af) (ah 1 (bD Y))))
  (cN (Y 27) (Y 19) a code (aU 2 (iC 1 (Y 27) "held" (aV Y) (O 0) (U (aL ay (O 1) (aG (.int 1))) af)))
  (cN (Y 27) (Y 19) a code (aU 3 (iC 1 (Y 27) "held" (aV Y) (O 0) (U (aL ay (O 1) (aG (.int 2))) af)))
  (cN (Y 27) (Y 19) a code (aU 4 (aa (U (O 2) (U (O 3) af)) (ah 2 (dX Y))))
  (cN (Y 27) (Y 19) a code (dH (JY (O 4)) (bF (aa (U (aG (.int 1)) af) dB)) bV)
  (cS (Y 27) (Y 19) (b8 Y) a code (U (aL ay (O 1) (aG (.int 0))) (U (aB (Y 23) "table" (O 4)) af)) (aa (U (GX (zm (aB (Y 23) "only" (O 4))) (aG (.int 0)) (aG (.int 2))) af) dB)))))))
def rq(Y:afp):afv:=kE (Y 27) (EA Y) 5
abbrev xX:Prop:=V.oS 117 ["shelf","given"] 1 57 (rq Y)
abbrev C8(Y:afp)(a:List D)(code:D):ak->M b6:=
  (cN (Y 27) (Y 19) a code (pY (aa (U (aL ay (O 1) (aG (.int 0))) af) (ah 1 (bD Y))))
  (cN (Y 27) (Y 19) a code (aU 2 (aa (U (iC 1 (Y 27) "held" (aV Y) (O 0) (U (aL ay (O 1) (aG (.int 1))) af)) af) (ah 1 (jJ Y))))
  (cS (Y 27) (Y 19) (b8 Y) a code (U (aL ay (O 1) (aG (.int 0))) (U (O 2) af)) (aa (U (aB (Y 19) "width" (O 2)) af) dB))))
def pK(Y:afp):afv:=kE (Y 27) (C8 Y) 3
abbrev vK:Prop:=V.oS 118 ["shelf","given"] 1 57 (pK Y)
abbrev Bl(Y:afp)(a:List D)(code:D):ak->M b6:=
  (cN (Y 27) (Y 19) a code (aU 2 (aa (U (iC 1 (Y 27) "held" (aV Y) (O 0) (U (aL ay (O 1) (aG (.int 0))) af)) af) (ah 1 (dQ Y))))
  (jG (Y 27) (Y 19) a code (bF (aL iV (aa (U (aL GW (aB (Y 31) "changes" (O 2)) (aG (.int 2))) (U (aa (U (aB (Y 31) "numbers" (O 2)) af) iw) af)) dB) (aB (Y 31) "numbers" (O 2))))))
def nu(Y:afp):afv:=kE (Y 27) (Bl Y) 3
abbrev uc:Prop:=V.oS 119 ["shelf","given"] 1 57 (nu Y)
abbrev Hy(Y:afp)(a:List D)(code:D):ak->M b6:=
  (cN (Y 27) (Y 19) a code (aU 2 (aa (U (iC 1 (Y 27) "held" (aV Y) (O 0) (U (aL ay (O 1) (aG (.int 0))) af)) af) (ah 1 (bT Y))))
  (jG (Y 27) (Y 19) a code (bF (aL iV (aa (U (aa (U (O 2) af) iw) af) dB) (aa (U (O 2) af) (ah 1 (dh Y)))))))
def ud(Y:afp):afv:=kE (Y 27) (Hy Y) 3
abbrev AO:Prop:=V.oS 120 ["shelf","given"] 1 57 (ud Y)
abbrev EB(Y:afp)(a:List D)(code:D):ak->M b6:=
  (jG (Y 27) (Y 19) a code (bF (aL iV (aa (U (aG (.int 0)) af) dB) (aa (U (aa (U (aa (U (iC 1 (Y 27) "held" (aV Y) (O 0) (U (aL ay (O 1) (aG (.int 0))) af)) af) (ah 1 (kW Y))) af) dB) af) (ah 1 (dh Y))))))
def rA(Y:afp):afv:=kE (Y 27) (EB Y) 2
abbrev xY:Prop:=V.oS 121 ["shelf","given"] 1 57 (rA Y)
abbrev HA(Y:afp)(a:List D)(code:D):ak->M b6:=
  (jG (Y 27) (Y 19) a code (bF (aa (U (GX (zm (aa (U (iC 1 (Y 27) "held" (aV Y) (O 0) (U (aL ay (O 1) (aG (.int 0))) af)) (U (iC 1 (Y 27) "held" (aV Y) (O 0) (U (aL ay (O 1) (aG (.int 1))) af)) af)) (ah 2 (jy Y)))) (aG (.int 1)) (aG (.int 0))) af) dB)))
def ue(Y:afp):afv:=kE (Y 27) (HA Y) 2
abbrev AQ:Prop:=V.oS 122 ["shelf","given"] 1 57 (ue Y)
def Hz(P:Prop):Prop:=P
theorem Hz.t{P:Prop}(h:P):Hz P=True:=eq_true h
theorem eE:((((((((((((((iD V)/\(iD V->p7 V)))/\(((xM V)/\(p7 V->xM V->gH V)))))/\(((((zH V)/\(kM V)))/\(kM V->zH V->uS V)))))/\(((((((xN V)/\(Hs V)))/\(iD V->b7 V)))/\(((((ee V)/\(jV V)))/\(nc V)))))))/\(((((((((pD V)/\(jW V)))/\(((lU V)/\(jr V)))))/\(((((pD V->jW V->lU V->tE V)/\(nh V)))/\(jV V->nc V->tE V->nh V->wC V)))))/\(((((((tF V)/\(wC V->tF V->jr V->zK V)))/\(kM V->zH V->uS V->xN V->Hs V->wD V)))/\(((((wD V->p7 V->xM V->tG V)/\(kM V->zH V->uS V->xN V->Hs V->tH V)))/\(tH V->p7 V->qP V)))))))))/\(((((((((((aS V)/\(aS V->qQ V)))/\(((fM V)/\(gH V->aS V->rW V)))))/\(((((eV V)/\(wF V)))/\(zH V->aS V->CW V)))))/\(((((((xN V->aS V->tK V)/\(tK V->CW V->rX V)))/\(aS V->xQ V)))/\(((((aS V->jt V)/\(aS V->tL V)))/\(aS V->uU V)))))))/\(((((((((jY V)/\(g6 V)))/\(((ee V->iZ V)/\(jI V)))))/\(((((jY V->jI V->aS V->mD V)/\(fM V->b7 V->iZ V->g6 V->jI V->aS V->qS V)))/\(eV V->fM V->b7 V->iZ V->jY V->g6 V->jI V->aS V->wG V)))))/\(((((((jA V)/\(jZ V)))/\(k8 V)))/\(((((k9 V)/\(b7 V->ee V->jZ V->k8 V->k9 V->jI V->aS V->jA V->mQ V)))/\(jd V)))))))))))/\(((((((((((((mQ V->uU V->lg V)/\(eV V->mD V->jt V->lg V->qT V)))/\(((jt V->mQ V->aS V->jd V->pG V)/\(mQ V->kM V->aS V->tQ V)))))/\(((((p7 V->tG V->kQ V)/\(uS V->lu V)))/\(lu V->tS V)))))/\(((((((qP V->uS V->kR V)/\(tS V->kR V->aS V->xQ V->lg V->tK V->qU V)))/\(iP V)))/\(((((i8 V)/\(gH V->i8 V->e8 V)))/\(eN V)))))))/\(((((((((eN V->cu V)/\(aS V->jr V->qc V)))/\(((cu V->bP V)/\(iP V->kQ V->nq V)))))/\(((((eN V->lK V)/\(gO V)))/\(jZ V->k8 V->k9 V->gO V->mE V)))))/\(((((((eV V->fM V->iZ V->mE V->kT V)/\(eV V->b7 V->ee V->mE V->kU V)))/\(eV V->b7 V->ee V->wH V)))/\(((((qW V)/\(eV V->fM V->b7 V->iZ V->jY V->g6 V->qW V->fT V)))/\(cu V->bP V->cY V->Mz V->gP V)))))))))/\(((((((((((eN V->zK V->AJ V)/\(lK V->nq V->lu V->e8 V->r6 V)))/\(((cu V->lK V->nq V->qU V->cY V->r8 V)/\(lK V->nq V->iP V->qQ V->qU V->qS V->fM V->e8 V->AK V)))))/\(((((cu V->eN V->iP V->qQ V->cY V->CZ V)/\(bP V->fM V->i8 V->C1 V)))/\(gP V->C2 V)))))/\(((((((gP V->C3 V)/\(gP V->C4 V)))/\(cu V->bP V->tK V->cY V->xU V)))/\(((((cu V->bP V->xQ V->cY V->AL V)/\(cu V->eN V->mD V->cY V->AM V)))/\(gP V->vI V)))))))/\(((((((((gP V->xV V)/\(cu V->bP V->eN V->uU V->cY V->AN V)))/\(cu V->bP V->eN V->wG V->cY V->xW V)))/\(((((cu V->bP V->mQ V->cY V->vJ V)/\(bP V->kU V->e8 V->C7 V)))/\(cu V->bP V->qT V->cY V->ua V)))))/\(((((((cu V->bP V->pG V->cY V->xX V)/\(cu V->bP V->tQ V->cY V->vK V)))/\(bP V->kT V->uc V)))/\(((((bP V->fT V->e8 V->AO V)/\(bP V->wH V->e8 V->xY V)))/\(bP V->wF V->AQ V)))))))))))):=by
 show Hz _;simp(disch:=(with_unfolding_all (
  have W:=V;cases W;refine⟨⟨⟨⟨⟨⟨⟨oD V.Bh.F ["first","second","high","low","rest"] ?_,λ_=>oD V.Y7.F ["fraction","shared"] ?_⟩,⟨oD V.weight.F ["fraction"] ?_,λ_ _=>oD V.zx.F ["fraction","settled"] ?_⟩⟩,⟨⟨oD V.plus.F ["first","second"] ?_,oD V.opposite.F ["fraction"] ?_⟩,λ_ _=>oD V.minus.F ["first","second"] ?_⟩⟩,⟨⟨⟨oD V.times.F ["first","second"] ?_,oD V.over.F ["first","second"] ?_⟩,λ_=>oD V.wg.F ["fractions","common","fraction","below"] ?_⟩,⟨⟨oD V.Bj.F ["fractions","common","above","below"] ?_,oC V.rT.F ["self","numbers"] ?_⟩,oD V.qH.F ["self"] ?_⟩⟩⟩,⟨⟨⟨⟨oC V.lH.F ["self","number"] ?_,oC V.fE.F ["self","length","row"] ?_⟩,⟨oC V.Er.F ["self","kind","numbers"] ?_,oC V.Es.F ["self","unknowns","parameters","lines","outs"] ?_⟩⟩,⟨⟨λ_ _ _=>oC V.PU.F ["reader","kind","numbers"] ?_,oD V.Hl.F ["line","place","inputs","bound"] ?_⟩,λ_ _ _ _=>oD V.So.F ["numbers","inputs","reader","lines","place","line"] ?_⟩⟩,⟨⟨⟨oD V.PV.F ["outs","unknowns","lines","out"] ?_,λ_ _ _=>oD V.VW.F ["unknowns","parameters","numbers","outs","lines"] ?_⟩,λ_ _ _ _ _=>oD V.Sq.F ["line","inputs","values","first","second"] ?_⟩,⟨⟨λ_ _ _=>oD V.PX.F ["lines","inputs","values","line","value"] ?_,λ_ _ _ _ _=>oD V.PY.F ["line","value","direction","values","changes","first","second"] ?_⟩,λ_ _=>oD V.Mn.F ["lines","values","direction","changes","line","value"] ?_⟩⟩⟩⟩,⟨⟨⟨⟨⟨oC V.CD.F ["self","height","width","rows"] ?_,λ_=>oD V.Ss.F ["height","width","fractions","i"] ?_⟩,⟨oD V.Mp.F ["table","entries","row"] ?_,λ_ _=>oD V.k7.F ["table","row","entry"] ?_⟩⟩,⟨⟨oD V.J2.F ["table"] ?_,oD V.Su.F ["first","second"] ?_⟩,λ_ _=>oD V.Mq.F ["first","second","rows","left","right","x","y"] ?_⟩⟩,⟨⟨⟨λ_ _=>oD V.scaled.F ["table","factor","row","entry"] ?_,λ_ _=>oD V.o9.F ["first","second"] ?_⟩,λ_=>oD V.turned.F ["table","j","row"] ?_⟩,⟨⟨λ_=>oD V.pq.F ["first","second","rows","left","right"] ?_,λ_=>oD V.qI.F ["first","second"] ?_⟩,λ_=>oD V.part_of.F ["table","top","left","height","width","rows","row"] ?_⟩⟩⟩,⟨⟨⟨⟨oD V.Mr.F ["size","i","j"] ?_,oD V.Et.F ["left","right","width","row","j","k"] ?_⟩,⟨λ_=>oD V.Ms.F ["table","common","row"] ?_,oD V.PZ.F ["rows","denominator","row","entry"] ?_⟩⟩,⟨⟨λ_ _ _=>oD V.Mt.F ["size"] ?_,λ_ _ _ _ _ _=>oD V.wj.F ["first","second","first_common","second_common","rows"] ?_⟩,λ_ _ _ _ _ _ _ _=>oD V.Sv.F ["table","exponent","common","factor","rows","denominator","step"] ?_⟩⟩,⟨⟨⟨oC V.zw.F ["self","table","leading"] ?_,oD V.Ho.F ["rows","start","column","i"] ?_⟩,oC V.J3.F ["rows","first","second","kept"] ?_⟩,⟨⟨oD V.J4.F ["row","leader","column","before","x","y"] ?_,λ_ _ _ _ _ _ _ _=>oD V.reduced.F ["table","rows","leading","before","column","r","found","leader","row","i"] ?_⟩,oC V.xK.F ["self","table","only"] ?_⟩⟩⟩⟩⟩,⟨⟨⟨⟨⟨⟨λ_ _=>oD V.J5.F ["joined","size","result"] ?_,λ_ _ _ _=>oD V.Mu.F ["table"] ?_⟩,⟨λ_ _ _ _=>oD V.J6.F ["first","second","result","rows","r","column"] ?_,λ_ _ _=>oD V.P0.F ["table","result","free","rows","r","column","f"] ?_⟩⟩,⟨⟨λ_ _=>oC V.CF.F ["self","code","kind","inputs","fraction"] ?_,λ_=>oD V.J7.F ["point","left","out","value","unknown"] ?_⟩,λ_=>oD V.P1.F ["point","fraction"] ?_⟩⟩,⟨⟨⟨λ_ _=>oD V.CH.F ["point","k","direction","changes","left","place","out","change","unknown"] ?_,λ_ _ _ _ _ _=>oD V.Sw.F ["point","columns","joined","k"] ?_⟩,oD V.Hq.F ["numbers","count","fractions","k","fraction"] ?_⟩,⟨⟨oD V.CJ.F ["fractions","told","fraction"] ?_,λ_ _=>oD V.Hr.F ["fractions","fraction"] ?_⟩,oD V.Mv.F ["number","low","high"] ?_⟩⟩⟩,⟨⟨⟨⟨λ_=>oD V.Mw.F ["number"] ?_,λ_ _=>oC V.sU.F ["self","place"] ?_⟩,⟨λ_=>oD V.Mm.F ["self","place"] ?_,λ_ _=>oD V.Sx.F ["code","kind","unknowns","parameters","inputs"] ?_⟩⟩,⟨⟨λ_=>oD V.P4.F ["number"] ?_,oC V.sV.F ["self","changes","numbers"] ?_⟩,λ_ _ _ _=>oD V.eliminated.F ["rows","left","changes","numbers","before","k","found","leader","row"] ?_⟩⟩,⟨⟨⟨λ_ _ _ _=>oD V.CK.F ["table","entry"] ?_,λ_ _ _ _=>oD V.CL.F ["table","commons","result","above","below","common","row"] ?_⟩,λ_ _ _=>oD V.Sy.F ["table","diagonal","common","i","row"] ?_⟩,⟨⟨oD V.Mx.F ["rows","number","i","row","j","entry"] ?_,λ_ _ _ _ _ _ _=>oD V.qJ.F ["table","common","factor","made","numbers","below","k","number","i","row"] ?_⟩,λ_ _ _ _=>oS V.My.F ["shelf","given","join","first","second"] ?_⟩⟩⟩⟩,⟨⟨⟨⟨⟨λ_ _=>oS V.zy.F ["shelf","given"] ?_,λ_ _ _ _=>oS V.pA.F ["shelf","given","left"] ?_⟩,⟨λ_ _ _ _ _=>oS V.pB.F ["shelf","given"] ?_,λ_ _ _ _ _ _ _ _=>oS V.zz.F ["shelf","given","code","point","weights","pulled"] ?_⟩⟩,⟨⟨λ_ _ _ _ _=>oS V.CM.F ["shelf","given","height","width"] ?_,λ_ _ _=>oS V.CN.F ["shelf","given","table"] ?_⟩,λ_=>oS V.CO.F ["shelf","given"] ?_⟩⟩,⟨⟨⟨λ_=>oS V.CP.F ["shelf","given"] ?_,λ_=>oS V.CQ.F ["shelf","given"] ?_⟩,λ_ _ _ _=>oS V.wm.F ["shelf","given","table","denominator"] ?_⟩,⟨⟨λ_ _ _ _=>oS V.zA.F ["shelf","given"] ?_,λ_ _ _ _=>oS V.zB.F ["shelf","given"] ?_⟩,λ_=>oS V.sW.F ["shelf","given"] ?_⟩⟩⟩,⟨⟨⟨⟨λ_=>oS V.wo.F ["shelf","given"] ?_,λ_ _ _ _ _=>oS V.zC.F ["shelf","given","table","number"] ?_⟩,λ_ _ _ _ _=>oS V.wu.F ["shelf","given","table"] ?_⟩,⟨⟨λ_ _ _ _=>oS V.sX.F ["shelf","given","result"] ?_,λ_ _ _=>oS V.CU.F ["shelf","given"] ?_⟩,λ_ _ _ _=>oS V.qK.F ["shelf","given"] ?_⟩⟩,⟨⟨⟨λ_ _ _ _=>oS V.wz.F ["shelf","given","first","second","solution"] ?_,λ_ _ _ _=>oS V.sY.F ["shelf","given","table"] ?_⟩,λ_ _=>oS V.qL.F ["shelf","given","result"] ?_⟩,⟨⟨λ_ _ _=>oS V.zD.F ["shelf","given","numbers"] ?_,λ_ _ _=>oS V.wA.F ["shelf","given"] ?_⟩,λ_ _=>oS V.zE.F ["shelf","given"] ?_⟩⟩⟩⟩⟩⟩<;>(intro S;have e:=S.nd;intros;(show lS _ (_::_) _);repeat' first|((with_reducible show lS _ _ (zo _ _ _ _ _ _ (cN _ _ _ _ _ _)));refine Pw ?_ ?_)|((with_reducible show lS _ _ (zo _ _ _ _ _ _ (jG _ _ _ _ _)));refine Px ?_)|((with_reducible show lS _ _ (zo _ _ _ _ _ _ (cS _ _ _ _ _ _ _)));refine Sb (by assumption) (MF.m (by assumption)) (by assumption) aY (by first|assumption|exact cG.mono (by assumption) (by decide)) (MF.b (by assumption)) ?_ ?_)|((with_reducible show lS _ _ (zo _ _ _ _ _ _ (mZ _ _ _ _ _)));refine Pz (by assumption) (by assumption) ?_ ?_)|((with_reducible show lS _ _ (zo _ _ _ _ _ _ (jT _ _ _ _ _ _ _ _)));refine PD (by assumption) aY (by first|assumption|exact cG.mono (by assumption) (by decide)) rfl (GF.m (by assumption)) (GF.k (by assumption)) (GF.b (by assumption)) ?_)|((with_reducible show PE _ _ (tD _ _ (Fv _ _ _ _)));refine R0 _ aY (‹Mz _› (by first|assumption|exact cG.mono (by assumption) (by decide))) ?_)|((with_reducible show PE _ _ (tD _ _ _));first|((with_reducible show PE _ _ (tD _ _ (O _)));exact kK _)|((with_reducible show PE _ (.Constant _ _ _) (tD _ _ (aG (.int _))));exact X3)|((with_reducible show PE _ _ (tD _ _ (aL _ _ _)));(first|((with_reducible show PE _ _ (tD _ _ (aL ay _ _)));refine Va ?_ ?_)|((with_reducible show PE _ _ (tD _ _ (aL gX _ _)));refine Yc ?_ ?_)|((with_reducible show PE _ _ (tD _ _ (aL kC _ _)));refine Ru ?_ ?_)|((with_reducible show PE _ _ (tD _ _ (aL iV _ _)));refine U4 ?_ ?_)|((with_reducible show PE _ _ (tD _ _ (aL JH _ _)));refine Yb ?_ ?_)|((with_reducible show PE _ _ (tD _ _ (aL Mf _ _)));refine YL ?_ ?_)|((with_reducible show PE _ _ (tD _ _ (aL GW _ _)));refine Ye ?_ ?_)|((with_reducible show PE _ _ (tD _ _ (aL oj _ _)));refine Vm (by(repeat refine Div.lD ?_);exact div_def (by assumption) (by assumption) (by assumption) (by assumption) (by decide)) ?_ ?_)))|((with_reducible show PE _ _ (tD _ _ (aB _ _ _)));refine Yx (by assumption) (by assumption) ?_)|((with_reducible show PE _ _ (tD _ _ (aa _ _)));(first|((with_reducible show PE _ _ (tD _ _ (aa _ (ah _ _))));refine dcl (by assumption) (by assumption) (by first|assumption|exact aY) (by assumption) ?_)|((with_reducible show PE _ _ (tD _ _ (aa _ eS)));refine Yg ?_)|((with_reducible show PE _ _ (tD _ _ (aa _ dB)));refine Yh ?_)|((with_reducible show PE _ _ (tD _ _ (aa _ (cH _ _ _))));refine dmk (by assumption) (by assumption) (by first|assumption|exact aY) (by assumption) (by assumption) (by assumption) ?_)|((with_reducible show PE _ _ (tD _ _ (aa _ iw)));refine Rz rfl (by assumption) ?_)|((with_reducible show PE _ _ (tD _ _ (aa _ Pc)));refine Yu rfl (by assumption) ?_)|((with_reducible show PE _ _ (tD _ _ (aa _ Em)));refine Yv (Good.calm (by first|assumption|exact aY)) rfl (by assumption) ?_)|((with_reducible show PE _ _ (tD _ _ (aa _ Cj)));refine Yw (Good.calm (by first|assumption|exact aY)) rfl (by assumption) ?_)|((with_reducible show PE _ _ (tD _ _ (aa _ Pj)));refine YF (Good.calm (by first|assumption|exact aY)) rfl (by assumption) ?_)|((with_reducible show PE _ _ (tD _ _ (aa _ Ph)));refine YE (Good.calm (by first|assumption|exact aY)) rfl (by assumption) ?_)))|((with_reducible show PE _ _ (tD _ _ (aG _)));(first|((with_reducible show PE _ _ (tD _ _ (aG (.int _))));exact Sa rfl (by assumption))|((with_reducible show PE _ _ (tD _ _ (aG (.fn _))));exact aaQ rfl (GF.m (by assumption)))|exact X4))|((with_reducible show PE _ _ (tD _ _ (we _ _ _)));exact BG _ (by assumption) (by assumption))|((with_reducible show PE _ _ (tD _ _ (Bg _ _)));refine YB _ ?_)|((with_reducible show PE _ _ (tD _ _ (jM _ _ _ _ _)));(first|((with_reducible show PE _ _ (tD _ _ (jM _ (aI _) _ _ _)));refine WV (by first|assumption|exact aY) (by assumption) ?_ (zF _) (xu _) (by decide) (λ_ _ _ _ _ _ _=>?_) (λ_ _ _ _ _ _ _=>?_) (λ_ _ _ _ _ _ _=>?_))|((with_reducible show PE _ _ (tD _ _ (jM _ (b4 _) _ _ _)));refine WV (by first|assumption|exact aY) (by assumption) ?_ (zF _) (xw _) (by decide) (λ_ _ _ _ _ _ _=>?_) (λ_ _ _ _ _ _ _=>?_) (λ_ _ _ _ _ _ _=>?_))))|((with_reducible show PE _ _ (tD _ _ (iC _ _ _ _ _ _)));refine Vv (by assumption) (MF.m (by assumption)) (by assumption) (by first|assumption|exact aY) (by first|assumption|exact cG.mono (by assumption) (by decide)) (MF.b (by assumption)) ?_ ?_)|((with_reducible show PE _ _ (tD _ _ (zk _ _ _ _)));refine JS (by assumption) (MF.m (by assumption)) (by assumption) (by first|assumption|exact aY) (by first|assumption|exact cG.mono (by assumption) (by decide)) (MF.b (by assumption)) ?_)|((with_reducible show PE _ _ (tD _ _ (GX _ _ _)));refine aa0 ?_ ?_ ?_)|((with_reducible show PE _ _ (tD _ _ (RT _ _)));refine Vr _ ?_)|((with_reducible show PE _ _ (tD _ _ (Eo _)));refine Yi ?_)|((with_reducible show PE _ _ (tD _ _ (NP _)));refine Vo ?_)|((with_reducible show PE _ _ (tD _ _ (vY _ _ _)));refine Yp ?_ ?_ ?_)|((with_reducible show PE _ _ (tD _ _ (R7 _ _)));refine VB rfl (by assumption) (by assumption) ?_)|((with_reducible show PE _ _ (tD _ _ (ZR _)));refine ads (YO (Good.calm (by first|assumption|exact aY)) rfl (by assumption) rfl (by assumption) ?_))|((with_reducible show PE _ _ (tD _ _ (YR _ _)));refine YH (cG.units (by assumption)) ?_ ?_)|((with_reducible show PE _ _ (tD _ _ (kD _)));(first|((with_reducible show PE _ (.Compare _ [.Lt] _ _) _);refine aaX ?_ ?_)|((with_reducible show PE _ (.Compare _ [.GtE] _ _) _);refine aaY ?_ ?_)|((with_reducible show PE _ (.Compare _ [.Eq] _ _) _);refine aa2 ?_ ?_)|((with_reducible show PE _ (.Compare _ [.NotEq] _ _) _);refine aa3 ?_ ?_)))|((with_reducible show PE _ (.BoolOp _ [_] _) _);refine Me ?_)|((with_reducible show PE _ _ (tD _ _ (YI _ _)));refine YJ ?_ ?_)|refine VA ?_ ?_)|((with_reducible show PA _ _ _);first|((with_reducible show PA _ [_] _);refine da1 ?_)|((with_reducible show PA _ [] _);exact qC)|refine mw ?_ ?_)|((with_reducible show lS _ _ _);first|((with_reducible show lS _ _ (gx _ _ (o6 _ _)));refine v8 _ ?_)|((with_reducible show lS _ [_] _);refine BF ?_)|((with_reducible show lS _ [] _);exact Vi)|refine Cp ?_ ?_)|((with_reducible show PS _ _ _);first|((with_reducible show PS _ _ (gx _ _ (aU _ _)));(first|((with_reducible show PS _ _ (gx _ _ (aU _ (jM _ _ _ _ _))));(first|((with_reducible show PS _ _ (gx _ _ (aU _ (jM _ (aI _) _ _ _))));refine JM (by first|assumption|exact aY) (by assumption) ?_ (zF _) (xu _) (by decide) (λ_ _ _ _ _ _ _=>?_) (λ_ _ _ _ _ _ _=>?_) (λ_ _ _ _ _ _ _=>?_))|((with_reducible show PS _ _ (gx _ _ (aU _ (jM _ (b4 _) _ _ _))));refine JM (by first|assumption|exact aY) (by assumption) ?_ (zF _) (xw _) (by decide) (λ_ _ _ _ _ _ _=>?_) (λ_ _ _ _ _ _ _=>?_) (λ_ _ _ _ _ _ _=>?_))))|refine L3 (by assumption) ?_))|((with_reducible show PS _ _ (gx _ _ (bF _)));refine G3 ?_)|((with_reducible show PS _ _ (gx _ _ (dH _ _ _)));refine WW ?_ ?_ ?_)|((with_reducible show PS _ _ (gx _ _ (pY _)));refine NG ?_)|((with_reducible show PS _ _ (gx _ _ (dI _)));exact RI (by first|assumption|exact aY) (by assumption) rfl (by assumption))|((with_reducible show PS _ _ (gx _ _ (o4 _ _ _)));(first|((with_reducible show PS _ _ (gx _ _ (o4 _ (aI _) _)));refine L4 xj aY.calm ?_ (xu _) ?_ ?_)|((with_reducible show PS _ _ (gx _ _ (o4 _ (b4 _) _)));refine L4 xj aY.calm ?_ (xw _) ?_ ?_)))|((with_reducible show PS _ _ (gx _ _ (qE _ (Pf _ _ _ _ _))));(first|((with_reducible show PS _ _ (gx _ _ (qE _ (Pf _ (aI _) _ _ _))));refine Fp (by first|assumption|exact aY) (by assumption) ?_ (zF _) (xu _) (by decide) (λ_ _ _ _ _ _ _=>?_) (λ_ _ _ _ _ _ _=>?_) (λ_ _ _ _ _ _ _=>?_))|((with_reducible show PS _ _ (gx _ _ (qE _ (Pf _ (b4 _) _ _ _))));refine Fp (by first|assumption|exact aY) (by assumption) ?_ (zF _) (xw _) (by decide) (λ_ _ _ _ _ _ _=>?_) (λ_ _ _ _ _ _ _=>?_) (λ_ _ _ _ _ _ _=>?_))))|((with_reducible show PS _ _ (gx _ _ (qE _ (RO _ _))));refine G4 (by assumption) (Yz ?_ ?_))|((with_reducible show PS _ _ (gx _ _ (qE _ _)));refine G4 (by assumption) (Vq rfl (by assumption) ?_))|((with_reducible show PS _ _ (gx _ _ (iM _ _ _ _)));refine Vw _ (by assumption) (by assumption) ?_)|((with_reducible show PS _ _ (gx _ _ (xy _ _)));refine RD (by assumption) ?_)|((with_reducible show PS _ _ (gx _ _ (JV _ _ _ _ _)));refine NO (by assumption) (by assumption) (by first|assumption|exact aY) (by first|assumption|exact cG.mono (by assumption) (by decide)) rfl (by assumption) (MF.b (by assumption)) (by assumption) ?_)|((with_reducible show PS _ _ (gx _ _ (JQ _ _)));refine NJ (by assumption) ?_)|((with_reducible show PS _ _ (gx _ _ (G5 _ _ _)));refine Vs _ ?_ ?_)|((with_reducible show PS _ _ (gx _ _ (sL _ _)));refine RH ?_)|((with_reducible show PS _ _ (gx _ _ (JP _ _)));refine RM ?_)|((with_reducible show PS _ _ (gx _ _ (L7 _ _)));refine NK ?_)|((with_reducible show PS _ _ (gx _ _ (Cr _)));refine RU ?_)|((with_reducible show PS _ _ (gx _ _ (JU _ _ _ _)));refine NN _ (by assumption) (by assumption) ?_)|((with_reducible show PS _ _ (gx _ _ (R4 _ _)));refine YM (by assumption) ?_)|((with_reducible show PS _ _ (gx _ _ (NQ)));exact Vj)|((with_reducible show PS _ _ (gx _ _ (G9)));exact RJ)|((with_reducible show PS _ _ (gx _ _ (YQ)));exact Vt)|((with_reducible show PS _ _ (gx _ _ (d _)));refine a ?_)|((with_reducible show PS _ _ (gx _ _ (Hf _ _ _)));refine RK _ xj ?_ ?_)|((with_reducible show PS _ (.Return _ _) _);refine G3 ?_)|((with_reducible show PS _ (.If _ _ _ _) _);refine WW ?_ ?_ ?_)|refine NG ?_)|((with_reducible show PT _ _ _);first|((with_reducible show PT _ _ (mU _ _ (eL _ _ _)));(first|((with_reducible show PT _ (.Compare _ [.Eq] _ _) _);refine aaV ?_ ?_)|((with_reducible show PT _ (.Compare _ [.NotEq] _ _) _);refine aaW ?_ ?_)|((with_reducible show PT _ (.Compare _ [.Lt] _ _) _);refine aaS ?_ ?_)|((with_reducible show PT _ (.Compare _ [.Gt] _ _) _);refine aaT ?_ ?_)|((with_reducible show PT _ (.Compare _ [.GtE] _ _) _);refine aaU ?_ ?_)|((with_reducible show PT _ (.Compare _ [.LtE] _ _) _);refine c ?_ ?_)))|((with_reducible show PT _ _ (mU _ _ (R8 _ _)));refine RS _ ?_)|((with_reducible show PT _ _ (mU _ _ (R9 _)));refine Rw ?_)|((with_reducible show PT _ _ (mU _ _ (zm _)));refine R3 ?_)|((with_reducible show PT _ _ (mU _ _ (JY _)));refine Yj ?_)|((with_reducible show PT _ _ (mU _ _ (Cw _ _)));refine R1 ?_ ?_)|((with_reducible show PT _ _ (mU _ _ (VC _ _)));refine YG (cG.units (by assumption)) ?_ ?_)|refine adt ?_)|((with_reducible show PW _ _ _);first|((with_reducible show PW _ (.BoolOp .And [_] _) _);refine U6 ?_)|((with_reducible show PW _ (.BoolOp .Or [_] _) _);refine Yl ?_)|((with_reducible show PW _ (.BoolOp .And _ _) _);refine Ym ?_ ?_)|refine aaZ ?_ ?_)|((with_reducible show PI _ _ _ _);first|((with_reducible show PI _ _ _ (LI _ _ (iF _)));refine Vc ?_)|(first|((with_reducible show PI _ _ _ (LI _ _ (fQ _ nX)));refine NC rfl (by assumption) ?_)|((with_reducible show PI _ _ _ (LI _ _ (fQ _ AB)));refine Vd rfl (by assumption) ?_)|((with_reducible show PI _ _ _ (LI _ _ (fQ _ v5)));refine Yy rfl (by assumption) ?_)|((with_reducible show PI _ _ _ (LI _ _ (fQ _ jQ)));refine Ve rfl (by assumption) ?_)))|((with_reducible show PG _ (.Name _ _) _);exact pgn _ (by assumption))|((with_reducible show QE _ [] _);exact Vg)|((with_reducible show QE _ [_] _);refine Vh ?_)|((with_reducible show PG _ _ _);refine Xl (Good.calm (by first|assumption|exact aY)) ?_)|((with_reducible show ZN _ [] _);exact Ut)|((with_reducible show ZN _ _ _);refine QZ ?_ ?_)|((with_reducible show PO _ none _);exact Vb)|((with_reducible show PO _ _ _);refine GZ ?_)|((with_reducible show PE _ _ (LJ _ _ (qF _ _ _ _)));exact Cs _ (by assumption) (MF.m (by assumption)) (by assumption) (by first|assumption|exact aY) (by first|assumption|exact cG.mono (by assumption) (by decide)) (MF.b (by assumption)))|((with_reducible show PE _ _ (LJ _ _ (Ct _ _ _ _ _)));refine JR _ (by assumption) (MF.m (by assumption)) (by assumption) (by first|assumption|exact aY) (by first|assumption|exact cG.mono (by assumption) (by decide)) (MF.b (by assumption)) ?_)|((with_reducible show PE _ _ (LJ _ _ (sN _ _ _ _ _ _)));refine NL _ (by assumption) (MF.m (by assumption)) (by assumption) (by first|assumption|exact aY) (by first|assumption|exact cG.mono (by assumption) (by decide)) (MF.b (by assumption)) ?_)|((with_reducible show PE _ _ (LJ _ _ (sM _ _ _ _)));refine Vu _ (by assumption) (by first|assumption|exact aY) (by first|assumption|exact cG.mono (by assumption) (by decide)) rfl (GF.m (by assumption)) (GF.k (by assumption)) (GF.b (by assumption)) ?_)))))only[↓Hz.t]
def nv:iD V:=(eE V).1.1.1.1.1.1.1
def uV:p7 V:=(eE V).1.1.1.1.1.1.2 (nv V)
def FH:xM V:=(eE V).1.1.1.1.1.2.1
def l7:gH V:=(eE V).1.1.1.1.1.2.2 (uV V) (FH V)
def BH:zH V:=(eE V).1.1.1.1.2.1.1
def oH:kM V:=(eE V).1.1.1.1.2.1.2
def xZ:uS V:=(eE V).1.1.1.1.2.2 (oH V) (BH V)
def C9:xN V:=(eE V).1.1.1.2.1.1.1
def NY:Hs V:=(eE V).1.1.1.2.1.1.2
def cO:b7 V:=(eE V).1.1.1.2.1.2 (nv V)
def gQ:ee V:=(eE V).1.1.1.2.2.1.1
def ny:jV V:=(eE V).1.1.1.2.2.1.2
def r9:nc V:=(eE V).1.1.1.2.2.2
def nA:pD V:=(eE V).1.1.2.1.1.1.1
def nD:jW V:=(eE V).1.1.2.1.1.1.2
def zN:lU V:=(eE V).1.1.2.1.1.2.1
def qe:jr V:=(eE V).1.1.2.1.1.2.2
def HB:tE V:=(eE V).1.1.2.1.2.1.1 (nA V) (nD V) (zN V)
def Bm:nh V:=(eE V).1.1.2.1.2.1.2
def Kh:wC V:=(eE V).1.1.2.1.2.2 (ny V) (r9 V) (HB V) (Bm V)
def HC:tF V:=(eE V).1.1.2.2.1.1.1
def MA:zK V:=(eE V).1.1.2.2.1.1.2 (Kh V) (HC V) (qe V)
def Kl:wD V:=(eE V).1.1.2.2.1.2 (oH V) (BH V) (xZ V) (C9 V) (NY V)
def HD:tG V:=(eE V).1.1.2.2.2.1.1 (Kl V) (uV V) (FH V)
def HE:tH V:=(eE V).1.1.2.2.2.1.2 (oH V) (BH V) (xZ V) (C9 V) (NY V)
def EC:qP V:=(eE V).1.1.2.2.2.2 (HE V) (uV V)
def aW:aS V:=(eE V).1.2.1.1.1.1.1
def AR:qQ V:=(eE V).1.2.1.1.1.1.2 (aW V)
def ic:fM V:=(eE V).1.2.1.1.1.2.1
def zO:rW V:=(eE V).1.2.1.1.1.2.2 (l7 V) (aW V)
def gn:eV V:=(eE V).1.2.1.1.2.1.1
def Km:wF V:=(eE V).1.2.1.1.2.1.2
def FI:CW V:=(eE V).1.2.1.1.2.2 (BH V) (aW V)
def zP:tK V:=(eE V).1.2.1.2.1.1.1 (C9 V) (aW V)
def zQ:rX V:=(eE V).1.2.1.2.1.1.2 (zP V) (FI V)
def FJ:xQ V:=(eE V).1.2.1.2.1.2 (aW V)
def kX:jt V:=(eE V).1.2.1.2.2.1.1 (aW V)
def Bo:tL V:=(eE V).1.2.1.2.2.1.2 (aW V)
def Dc:uU V:=(eE V).1.2.1.2.2.2 (aW V)
def pL:jY V:=(eE V).1.2.2.1.1.1.1
def kY:g6 V:=(eE V).1.2.2.1.1.1.2
def lA:iZ V:=(eE V).1.2.2.1.1.2.1 (gQ V)
def mG:jI V:=(eE V).1.2.2.1.1.2.2
def vL:mD V:=(eE V).1.2.2.1.2.1.1 (pL V) (mG V) (aW V)
def vM:qS V:=(eE V).1.2.2.1.2.1.2 (ic V) (cO V) (lA V) (kY V) (mG V) (aW V)
def Kn:wG V:=(eE V).1.2.2.1.2.2 (gn V) (ic V) (cO V) (lA V) (pL V) (kY V) (mG V) (aW V)
def vo:jA V:=(eE V).1.2.2.2.1.1.1
def se:jZ V:=(eE V).1.2.2.2.1.1.2
def uf:k8 V:=(eE V).1.2.2.2.1.2
def ug:k9 V:=(eE V).1.2.2.2.2.1.1
def rB:mQ V:=(eE V).1.2.2.2.2.1.2 (cO V) (gQ V) (se V) (uf V) (ug V) (mG V) (aW V) (vo V)
def uh:jd V:=(eE V).1.2.2.2.2.2
def um:lg V:=(eE V).2.1.1.1.1.1.1 (rB V) (Dc V)
def ED:qT V:=(eE V).2.1.1.1.1.1.2 (gn V) (vL V) (kX V) (um V)
def Dd:pG V:=(eE V).2.1.1.1.1.2.1 (kX V) (rB V) (aW V) (uh V)
def HF:tQ V:=(eE V).2.1.1.1.1.2.2 (rB V) (oH V) (aW V)
def ya:kQ V:=(eE V).2.1.1.1.2.1.1 (uV V) (HD V)
def uo:lu V:=(eE V).2.1.1.1.2.1.2 (xZ V)
def HG:tS V:=(eE V).2.1.1.1.2.2 (uo V)
def yb:kR V:=(eE V).2.1.1.2.1.1.1 (EC V) (xZ V)
def AS:qU V:=(eE V).2.1.1.2.1.1.2 (HG V) (yb V) (aW V) (FJ V) (um V) (zP V)
def lY:iP V:=(eE V).2.1.1.2.1.2
def oJ:i8 V:=(eE V).2.1.1.2.2.1.1
def g7:e8 V:=(eE V).2.1.1.2.2.1.2 (l7 V) (oJ V)
def fU:eN V:=(eE V).2.1.1.2.2.2
def cC:cu V:=(eE V).2.1.2.1.1.1.1 (fU V)
def yc:qc V:=(eE V).2.1.2.1.1.1.2 (aW V) (qe V)
def bU:bP V:=(eE V).2.1.2.1.1.2.1 (cC V)
def uq:nq V:=(eE V).2.1.2.1.1.2.2 (lY V) (ya V)
def rC:lK V:=(eE V).2.1.2.1.2.1.1 (fU V)
def qg:gO V:=(eE V).2.1.2.1.2.1.2
def vN:mE V:=(eE V).2.1.2.1.2.2 (se V) (uf V) (ug V) (qg V)
def yd:kT V:=(eE V).2.1.2.2.1.1.1 (gn V) (ic V) (lA V) (vN V)
def ye:kU V:=(eE V).2.1.2.2.1.1.2 (gn V) (cO V) (gQ V) (vN V)
def Ko:wH V:=(eE V).2.1.2.2.1.2 (gn V) (cO V) (gQ V)
def EE:qW V:=(eE V).2.1.2.2.2.1.1
def nY:fT V:=(eE V).2.1.2.2.2.1.2 (gn V) (ic V) (cO V) (lA V) (pL V) (kY V) (EE V)
end
section
variable{P:Program}{w:World}{K:W.Frag}{mg:afs}{base:Heap}{Y:afp}{fd:aft}
abbrev Kp:Stmt:=eK 97 2
theorem HH:fj ["self","place","table"] ["self","place","table"] (aP Kp):=⟨rfl,rfl,rfl,by decide+kernel,rfl,by decide+kernel,by decide+kernel⟩
theorem cT(V:Env P w K mg base Y fd):cY V:=by
 refine V.PR.F.ZQ HH (k:=49) (λI H Q E zz=>by obtain⟨F,d,tl,a,code,k,t,p,e,_⟩:=zz;subst e;rfl) λR A h s H I Q E T zz=>?_;obtain⟨F,d,tl,a,code,k,t,p,e,X,Z,rt,o⟩:=zz
 subst e;refine⟨_,mj (Q3 (NB (E:=E) (zO V) aY (T.mono (by decide)) rfl V.k7.m V.k7.k V.k7.b (mw (kK 2) qC)) (Q0 (LO (pv 0) rfl) (pv 1) Jv)),?_⟩;have S:=xD (N:=["self","place","table"]) (ds:=[.fn d,.int k,t]) Z ⟨.ref d,_,rfl,rfl,.int k,_,rfl,rfl,p,[],rfl,rt,rfl⟩;obtain⟨⟨r,i,cv,f,g,x,a4⟩,f1,y⟩:=X;have ne:d≠tl:=QM f g (by intro z;cases z);refine⟨H,⟨F,none⟩,_,F,S,?_⟩;rw[cM];have o:aH E H (eB Y [t]>>=λl=>match B6 a.length k with|some j=>(.ok (a.set j l):M (List D))|none=>ao) _:=o;refine(aH.bind o).imp (.refl _) λl _ z v H1 F1 c r1=>?_
 cases q:B6 a.length k with
 |none=>rw[q]at z;exact z.elim
 |some j=>
  rw[q]at z;have z:∀n B,bx (c7 H d tl) F n B->lE K (Y 27) n B d tl (a.set j l) code->Q .cK n:=z;refine⟨_,rfl,d,Y 27,r,_,.ref tl,rfl,c.same _ _ f,V.VS,V.CG,rfl,_,rfl,tl,i,k,j,rfl,rfl,c.same _ _ g,by rw[<-x.length];exact q,?_⟩;refine z _ F1 ⟨λb u e=>?_,c.aM,λb u e=>?_,λb e=>?_⟩ ⟨⟨r,_,cv,by rw[aK ne];exact c.same _ _ f,bh,aR.set r1 j (x.mono c.aM),a4.mono c.aM⟩,c.jN f1 (by rw[f];simp),c.jN y (by rw[g];simp)⟩;obtain⟨n1,n2,e⟩:=eY e;rw[aK n2];exact c.same _ _ e;rw[aK (λw=>by rw[w,c.jN y (by rw[g];simp)]at e;cases e)];exact c.sub _ _ e;rcases c.new b e with w|w;exact .inl w;right
  by_cases C:b=d
  rw[C];exact sO
  by_cases G:b=tl
  rw[G];exact sP;rw[fz C G];exact w
theorem VX(V:Env P w K mg base Y fd):Mz V:=λ{A}a f h e=>by unfold vH at e;split at e;rename_i q;cases e;subst q;exact⟨_,_,_,FI V,a.mono (by decide),V.Mq.k,V.Mq.b⟩;split at e;rename_i q;cases e;subst q;exact⟨_,_,_,zQ V,a.mono (by decide),V.o9.k,V.o9.b⟩;split at e;rename_i q;cases e;subst q;exact⟨_,_,_,vM V,a.mono (by decide),V.wj.k,V.wj.b⟩;split at e;rename_i q;cases e;subst q;exact⟨_,_,_,kX V,a.mono (by decide),V.pq.k,V.pq.b⟩;split at e;rename_i q;cases e;subst q;exact⟨_,_,_,Bo V,a.mono (by decide),V.qI.k,V.qI.b⟩;cases e
end
section
variable{P:Program}{w:World}{K:W.Frag}{mg:afs}{base:Heap}{Y:afp}{fd:aft}(V:Env P w K mg base Y fd)
def ji:gP V:=(eE V).2.1.2.2.2.2 (cC V) (bU V) (cT V) (VX V)
def HJ:AJ V:=(eE V).2.2.1.1.1.1.1 (fU V) (MA V)
def zR:r6 V:=(eE V).2.2.1.1.1.1.2 (rC V) (uq V) (uo V) (g7 V)
def zS:r8 V:=(eE V).2.2.1.1.1.2.1 (cC V) (rC V) (uq V) (AS V) (cT V)
def HK:AK V:=(eE V).2.2.1.1.1.2.2 (rC V) (uq V) (lY V) (AR V) (AS V) (vM V) (ic V) (g7 V)
def Kq:CZ V:=(eE V).2.2.1.1.2.1.1 (cC V) (fU V) (lY V) (AR V) (cT V)
def Kr:C1 V:=(eE V).2.2.1.1.2.1.2 (bU V) (ic V) (oJ V)
def Ks:C2 V:=(eE V).2.2.1.1.2.2 (ji V)
def Ku:C3 V:=(eE V).2.2.1.2.1.1.1 (ji V)
def Kv:C4 V:=(eE V).2.2.1.2.1.1.2 (ji V)
def EF:xU V:=(eE V).2.2.1.2.1.2 (cC V) (bU V) (zP V) (cT V)
def HL:AL V:=(eE V).2.2.1.2.2.1.1 (cC V) (bU V) (FJ V) (cT V)
def HM:AM V:=(eE V).2.2.1.2.2.1.2 (cC V) (fU V) (vL V) (cT V)
def De:vI V:=(eE V).2.2.1.2.2.2 (ji V)
def EG:xV V:=(eE V).2.2.2.1.1.1.1 (ji V)
def HN:AN V:=(eE V).2.2.2.1.1.1.2 (cC V) (bU V) (fU V) (Dc V) (cT V)
def EH:xW V:=(eE V).2.2.2.1.1.2 (cC V) (bU V) (fU V) (Kn V) (cT V)
def Df:vJ V:=(eE V).2.2.2.1.2.1.1 (cC V) (bU V) (rB V) (cT V)
def Kw:C7 V:=(eE V).2.2.2.1.2.1.2 (bU V) (ye V) (g7 V)
def Bp:ua V:=(eE V).2.2.2.1.2.2 (cC V) (bU V) (ED V) (cT V)
def EI:xX V:=(eE V).2.2.2.2.1.1.1 (cC V) (bU V) (Dd V) (cT V)
def Dg:vK V:=(eE V).2.2.2.2.1.1.2 (cC V) (bU V) (HF V) (cT V)
def Bq:uc V:=(eE V).2.2.2.2.1.2 (bU V) (yd V)
def HP:AO V:=(eE V).2.2.2.2.2.1.1 (bU V) (nY V) (g7 V)
def EJ:xY V:=(eE V).2.2.2.2.2.1.2 (bU V) (Ko V) (g7 V)
def HQ:AQ V:=(eE V).2.2.2.2.2.2 (bU V) (Km V)
end
section
variable{P:Program}{w:World}{K:W.Frag}{mg:afs}{base:Heap}{Y:afp}{fd:aft}
def nE(Y:afp):List (Addr×Int×Int×(afv)):=[
 (Y 102,3,1,wI Y),
 (Y 103,1,0,wJ Y),
 (Y 104,3,0,qX Y),
 (Y 105,3,0,qY Y),
 (Y 106,3,0,qZ Y),
 (Y 107,4,0,rj Y),
 (Y 108,2,0,tX Y),
 (Y 109,2,0,tY Y),
 (Y 110,3,0,lz Y),
 (Y 111,3,0,mF Y),
 (Y 112,6,0,tZ Y),
 (Y 113,3,0,rm Y),
 (Y 114,2,0,pJ Y),
 (Y 115,1,0,wK Y),
 (Y 116,2,0,nt Y),
 (Y 117,3,0,rq Y),
 (Y 118,2,0,pK Y),
 (Y 119,1,0,nu Y),
 (Y 120,1,0,ud Y),
 (Y 121,1,0,rA Y),
 (Y 122,2,0,ue Y),
 (Y 91,2,2,tV Y),
 (Y 92,1,2,lW Y),
 (Y 93,2,2,lX Y),
 (Y 94,1,3,tW Y)]
def Dh(Y:afp)(a:Addr):Option (afv):=((nE Y).find? λr=>r.1==a).map λr=>r.2.2.2
def ki(Y:afp):List (Addr×Int):=[(Y 0,1),(Y 1,2),(Y 2,7),(Y 3,3),(Y 4,8),(Y 5,5),(Y 6,10),(Y 7,9),(Y 8,4)]
theorem VY(V:Env P w K mg base Y fd){A:Around}(a:cG 57 A):∀r∈nE Y,∃fd ps k,eH P w K mg base (kB P w) k r.1 fd ps (WZ K (Y 27) (Y 19) 1 r.2.2.2)/\cG k A/\W.keepIn K (.ref r.1)=true/\Binds K fd ps []:=by intro r c;unfold nE at c;simp only[List.mem_cons,List.not_mem_nil,or_false]at c;rcases c with rfl|rfl|rfl|rfl|rfl|rfl|rfl|rfl|rfl|rfl|rfl|rfl|rfl|rfl|rfl|rfl|rfl|rfl|rfl|rfl|rfl|rfl|rfl|rfl|rfl;exact⟨_,_,_,Kq V,a,V.CM.k,V.CM.b⟩;exact⟨_,_,_,Kr V,a,V.CN.k,V.CN.b⟩;exact⟨_,_,_,Ks V,a,V.CO.k,V.CO.b⟩;exact⟨_,_,_,Ku V,a,V.CP.k,V.CP.b⟩;exact⟨_,_,_,Kv V,a,V.CQ.k,V.CQ.b⟩;exact⟨_,_,_,EF V,a,V.wm.k,V.wm.b⟩;exact⟨_,_,_,HL V,a,V.zA.k,V.zA.b⟩;exact⟨_,_,_,HM V,a,V.zB.k,V.zB.b⟩;exact⟨_,_,_,De V,a,V.sW.k,V.sW.b⟩;exact⟨_,_,_,EG V,a,V.wo.k,V.wo.b⟩;exact⟨_,_,_,HN V,a,V.zC.k,V.zC.b⟩;exact⟨_,_,_,EH V,a,V.wu.k,V.wu.b⟩;exact⟨_,_,_,Df V,a,V.sX.k,V.sX.b⟩;exact⟨_,_,_,Kw V,a,V.CU.k,V.CU.b⟩;exact⟨_,_,_,Bp V,a,V.qK.k,V.qK.b⟩;exact⟨_,_,_,EI V,a,V.wz.k,V.wz.b⟩;exact⟨_,_,_,Dg V,a,V.sY.k,V.sY.b⟩;exact⟨_,_,_,Bq V,a,V.qL.k,V.qL.b⟩;exact⟨_,_,_,HP V,a,V.zD.k,V.zD.b⟩;exact⟨_,_,_,EJ V,a,V.wA.k,V.wA.b⟩;exact⟨_,_,_,HQ V,a,V.zE.k,V.zE.b⟩;exact⟨_,_,_,HJ V,a,V.zy.k,V.zy.b⟩;exact⟨_,_,_,zR V,a,V.pA.k,V.pA.b⟩;exact⟨_,_,_,zS V,a,V.pB.k,V.pB.b⟩;exact⟨_,_,_,HK V,a,V.zz.k,V.zz.b⟩
theorem Sz(V:Env P w K mg base Y fd){A:Around}(b:cG 57 A){a:Addr}{h:afv}(e:Dh Y a=some h):∃fd ps k,eH P w K mg base (kB P w) k a fd ps (WZ K (Y 27) (Y 19) 1 h)/\cG k A/\W.keepIn K (.ref a)=true/\Binds K fd ps []:=by
 unfold Dh at e;cases q:(nE Y).find? λr=>r.1==a with
 |none=>rw[q]at e;cases e
 |some r=>
  rw[q]at e;have e1:r.1=a:=by simpa using List.find?_some q
  have c:r.2.2.2=h:=af2 e;subst e1 c;exact VY V b r (ahk q)
theorem Ky(V:Env P w K mg base Y fd){c:Addr}{n:Int}(e:(ki Y).lookup c=some n):iu K c:=by
 have b:∀(l:List (Addr×Int)),(∀p∈l,iu K p.1)->l.lookup c=some n->iu K c:=λl=>by
  induction l with
  |nil=>intro _ e;cases e
  |cons p l d=>
   intro h e;rw[agM]at e;cases q:c==p.1 with|true=>rw[ah1.mp q];exact h p afH|false=>rw[q]at e;exact d (λf a=>h f (afA _ a)) e
 refine b _ (λp a=>?_) e;unfold ki at a;simp only[List.mem_cons,List.not_mem_nil,or_false]at a;rcases a with rfl|rfl|rfl|rfl|rfl|rfl|rfl|rfl|rfl;exact V.xH;exact V.FD;exact V.sR;exact V.xJ;exact V.sS;exact V.AF;exact V.CA;exact V.CB;exact V.CC
def rD(Y:afp)(h:afv)(a:List D)(code given:D):M b6:=match h a code [given]with
 | .ok r=>.ok r
 | .error (some c)=>match(ki Y).lookup c with
  |some n=>.ok (.lst [.int (-n)],a,code)
  |none=>ao
 | .error none=>ao
def spA(K:W.Frag)(Y:afp):Sp:=λk H Q E=>∃(F:Hp)(b c:Addr)(a:List D)(code:D)(f:Addr)(i:D)(j:V)(h:afv),k=[.ref f,.ref b,j]/\Dh Y f=some h/\lE K (Y 27) H F b c a code/\bu F H/\eW K F i j/\
 (∃d l,a=d::l/\VD (Y 19) d=true)/\aH E H (rD Y h a code i) λr=>∀v e g,bx (c7 H b c) F e g->lE K (Y 27) e g b c r.2.1 r.2.2->eW K g r.1 v->Q v e
abbrev AU:Stmt:=bC 142
theorem HR:fj ["call","shelf","given"] ["call","shelf","given"] (aP AU):=⟨rfl,rfl,rfl,by decide+kernel,rfl,by decide+kernel,by decide+kernel⟩
theorem HS(V:Env P w K mg base Y fd):eH P w K mg base (kB P w) 59 (Y 123) (fd 123) ["call","shelf","given"] (spA K Y):=by
 refine V.uR.F.adp HR (k:=58) (λZ H Q E zz=>by obtain⟨F,m,v,a,code,f,y,T,h,e,_⟩:=zz;subst e;rfl) λB A C s H Z Q E hr zz=>?_;obtain⟨F,m,v,a,code,f,y,T,h,e,hT,I,X,rg,ht,o⟩:=zz
 subst e;refine⟨_,YU (cs:=ki Y) (t:=λD=>aaj (RZ P w K mg base (A.deeper (envOfC "answer_of" (aP AU) s.heap.objs.size (Y 123) B)) (kB P w) (YT (ki Y) K D) 0 (E3 (QT 1) (E3 (QT 2) Rc)))) aY (m5.cons ⟨⟨_,_,_,_,_,_,_,_,rfl,rfl,V.Hi,by decide⟩,V.xH⟩ (m5.cons ⟨⟨_,_,_,_,_,_,_,_,rfl,rfl,V.PM,by decide⟩,V.FD⟩ (m5.cons ⟨⟨_,_,_,_,_,_,_,_,rfl,rfl,V.Cy,by decide⟩,V.sR⟩ (m5.cons ⟨⟨_,_,_,_,_,_,_,_,rfl,rfl,V.Hj,by decide⟩,V.xJ⟩ (m5.cons ⟨⟨_,_,_,_,_,_,_,_,rfl,rfl,V.Cz,by decide⟩,V.sS⟩ (m5.cons ⟨⟨_,_,_,_,_,_,_,_,rfl,rfl,V.J1,by decide⟩,V.AF⟩ (m5.cons ⟨⟨_,_,_,_,_,_,_,_,rfl,rfl,V.Mi,by decide⟩,V.CA⟩ (m5.cons ⟨⟨_,_,_,_,_,_,_,_,rfl,rfl,V.Mj,by decide⟩,V.CB⟩ (m5.cons ⟨⟨_,_,_,_,_,_,_,_,rfl,rfl,V.Ml,by decide⟩,V.CC⟩ m5.nil))))))))) (λD xe G=>mj (vS (JW (i:=0) G.passes (iA (pv 1) (iA (pv 2) qy)) rfl (Or.inl rfl) (by decide) (by decide) rfl rfl))),?_⟩;obtain⟨N,R,k',F1,F2,F3,F4⟩:=Sz V (hr.mono (by decide)) hT;refine⟨f,N,R,k',_,rfl,F1,F2,F3,F4,_,rfl,_,rfl,?_⟩;refine⟨F,m,v,a,code,[y],[T],rfl,I,X,aR.one rg,rfl,ht,?_⟩;unfold rD at o;cases q:h a code [y]with
 |ok r=>rw[q]at o;exact o
 |error c=>
  cases c with
  |none=>rw[q]at o;exact o.elim
  |some c=>
   rw[q]at o;have o:aH E H (match(ki Y).lookup c with|some n=>(.ok (.lst [.int (-n)],a,code):M b6)|none=>ao) _:=o;cases x:(ki Y).lookup c with
   |none=>rw[x]at o;exact o.elim
   |some n=>
    rw[x]at o;intro H' g;refine⟨c,n,rfl,Ky V x,x,λp d=>?_⟩;obtain⟨⟨dx,ds,cv,a1,a2,a3,a4⟩,f1,f2⟩:=id I;have n1:m≠p:=bI (g _ _ a1) d;have n2:v≠p:=bI (g _ _ a2) d;have S:bu F H':=X.trans g;refine o (.ref p) _ (fD F p (.lst [.int (-n)])) ⟨λb u e=>?_,λb u e=>?_,λb u e=>?_,λb e=>?_⟩ (I.keep (λb u e=>?_) (λb u e=>?_) (by rw[aK n1];exact f1) (by rw[aK n2];exact f2)) ⟨p,[.int (-n)],rfl,bh,_,_,rfl,rfl,rfl⟩;have j:=g _ _ (eY e).2.2;rw[aK (bI j d)];exact j;rw[aK (bI (S _ _ e) d)];exact e
    by_cases l:b=p
    rw[l,bh]at e|-;exact e;rw[aK l]at e|-;exact S _ _ e
    by_cases l:b=p
    right;cases z:c7 H m v b with
    |none=>rfl
    |some u=>have:=g _ _ (eY z).2.2;rw[l,d]at this;cases this
    rw[aK l]at e;exact .inl e;have j:=g _ _ e;rw[aK (bI j d)];exact j;rw[aK (bI (S _ _ e) d)];exact e
def nF:fj ["self","length","row"] ["self","length"] (aP xO):=Y8 (by decide+kernel)
def yf(Y:afp):afw:=aq (qE 2 (VF (we 0 (Y 9) "numbers") (iB (we 0 (Y 9) "place")) (iB (aL kC (we 0 (Y 9) "place") (O 1))))) (JU 0 (Y 9) "place" (O 1))
def VZ:Fl->M (List D×L)| .nx a=>cV 0 a>>=λx=>ownOf 2 a>>=λb=>.ok (b,x)|_=>ao
def oK(Y:afp):L->List D->M (List D×L):=λx args=>yf Y (dY 3 x args)>>=VZ
theorem HU(V:Env P w K mg base Y fd):eH P w K mg base (kB P w) 1 (Y 13) (fd 13) ["self","length"] (aa6 K 1 (oK Y)):=by
 refine V.fE.F.ZQ nF (k:=0) (λX H Q E zz=>by obtain⟨l,p,x,m,n,e,_,_,_,r,y,_⟩:=zz;subst e;rw[af5,<-r.length,y];rfl) λZ A t s H X Q E hr u=>?_
 obtain⟨l,p,x,m,n,e,oa,hf,hs,r,y,o⟩:=u;subst e;refine⟨_,mT (G4 (E:=E) (i:=2) nF.nd (YV (BG 0 V.jf V.zu) (GZ (BG 0 V.jf V.m6)) (GZ (Ru (BG 0 V.jf V.m6) (kK 1)))))
  (mT (NN (E:=E) 0 V.jf V.m6 (kK 1)) (mj (vS (pv 2)))),?_⟩
 have S:=Ft (N:=["self","length","row"]) hs hf oa r;refine⟨xC H p,⟨l,some (.ref p)⟩,_,l,S,?_⟩;have o1:=aH.bind (aH.bind (show aH E (xC H p) (((qE 2 (VF (we 0 (Y 9) "numbers") (iB (we 0 (Y 9) "place")) (iB (aL kC (we 0 (Y 9) "place") (O 1))))) (dY 3 x m)>>=JK (JU 0 (Y 9) "place" (O 1)))>>=VZ) _ from o));refine o1.imp (.refl _) λh _ q=>?_
 cases h with
 |nx c=>
  intro xs H1 F1 S1 t1;refine⟨xC H p,⟨l,some (.ref p)⟩,c,F1,S1,?_⟩;have q:aH E (xC H p) (JU 0 (Y 9) "place" (O 1) c) λh=>aH E (xC H p) (VZ h) _:=q
  refine q.imp (.refl _) λh _ g=>?_
  cases h with
  |nx f=>
   intro hi H2 F2 j t2;have g:aH E (xC H p) (cV 0 f>>=λx=>ownOf 2 f>>=λm=>(.ok (m,x):M (List D×L))) _:=g;obtain⟨x',z,B,g⟩:=jm g;obtain⟨v,C,g⟩:=v9 g;obtain⟨a,G,h2,h3,h4⟩:=j.mine 0 x' z B;have e:=j.pin _ rfl;rw[G]at e;injection e with e;injection e with e;injection e with e;subst e;obtain⟨b,us,I,k2,k3,R,k5⟩:=j.ow 2 v C;have T:b≠a:=λw=>by subst w;exact j.ne 2 0 _ _ b (by decide) C rfl z B I G
   have hb:H b=none:=by rw[jx T]at R;exact R
   exact⟨_,I,g b us H2 F2 j.gr h2 h4 hb k3 T k2 k5⟩
  |rt d f=>exact g.elim
  |bk f=>exact g.elim
  |ct f=>exact g.elim
 |rt d c=>exact q.elim
 |bk c=>exact q.elim
 |ct c=>exact q.elim
abbrev vp:Stmt:=eK 24 4
def lM(Y:afp):afw:=
 aq (YW 0 3 1 (Y 9) "take_row" (oK Y) (U (O 1) af))
  (aq (o4 (fQ (U (O 2) af) nX) (aI 4) (L7 3 (Ct 0 (Y 9) "take_row" (ef Y) (qF 0 (Y 9) "take" (dS Y)))))
   (o6 3 (bF (O 3))))
def bG(Y:afp):L->List D->M (D×L):=runC (lM Y) 5
theorem iQ:fj ["self","plain","lists","given","turn"] ["self","plain","lists"] (aP vp):=⟨rfl,rfl,rfl,by decide+kernel,rfl,by decide+kernel,by decide+kernel⟩
theorem ur(V:Env P w K mg base Y fd):eH P w K mg base (kB P w) 3 (Y 14) (fd 14) ["self","plain","lists"] (L6 K 2 (bG Y)):=
 okC V.jU.F iQ rfl (k:=2) λd A a s H E c=>
  (Cp (VG 0 3 V.jf V.fE.m (HU V) aY (c.mono (by decide)) V.fE.b iQ.nd (mw (kK 1) qC))
   (Cp (L4 xj aY.calm (NC rfl V.VL (mw (kK 2) qC)) (xu 4) (Nj (i:=4) iQ.nd rfl (Or.inl rfl))
     (BF (NK (i:=3) (JR 0 V.jf V.fE.m (nD V) aY (c.mono (by decide)) V.fE.b (Cs 0 V.jf V.lH.m (nA V) aY (c.mono (by decide)) V.lH.b)))))
    (v8 3 (BF (G3 (kK 3))))))
noncomputable def l8(Y:afp):List Addr:=[Y 128,Y 129,Y 130,Y 131,Y 132,Y 133,Y 134,Y 135,Y 136,Y 137,Y 138,Y 139,Y 140,Y 141,Y 142,Y 143,Y 144,Y 145,Y 146,Y 147,Y 148]
def l9(Y:afp):List Addr:=[Y 149,Y 150,Y 151,Y 152]
noncomputable def uW(Y:afp):List (Addr×Addr×Int×Int):=[(Y 128,Y 102,3,1),(Y 129,Y 103,1,0),(Y 130,Y 104,3,0),(Y 131,Y 105,3,0),(Y 132,Y 106,3,0),(Y 133,Y 107,4,0),(Y 134,Y 108,2,0),(Y 135,Y 109,2,0),(Y 136,Y 110,3,0),(Y 137,Y 111,3,0),(Y 138,Y 112,6,0),(Y 139,Y 113,3,0),(Y 140,Y 114,2,0),(Y 141,Y 115,1,0),(Y 142,Y 116,2,0),(Y 143,Y 117,3,0),(Y 144,Y 118,2,0),(Y 145,Y 119,1,0),(Y 146,Y 120,1,0),(Y 147,Y 121,1,0),(Y 148,Y 122,2,0),(Y 149,Y 91,2,2),(Y 150,Y 92,1,2),(Y 151,Y 93,2,2),(Y 152,Y 94,1,3)]
def nG(Y:afp)(t:Addr):Option (Addr×Int×Int):=((uW Y).find? λr=>r.1==t).map λr=>r.2
structure V0(K:W.Frag)(mg:afs)(Y:afp):Prop where
 EK:mg "TABLE_CALLS"=some (.ref (Y 126))
 HV:mg "CODE_CALLS"=some (.ref (Y 127))
 EL:∀H,kH K H (Y 126) ((l8 Y).map V.ref)
 HW:∀H,kH K H (Y 127) ((l9 Y).map V.ref)
 e_0:∀H,kH K H (Y 128) [.ref (Y 102),.int 3,.int 1]
 e_1:∀H,kH K H (Y 129) [.ref (Y 103),.int 1,.int 0]
 e_2:∀H,kH K H (Y 130) [.ref (Y 104),.int 3,.int 0]
 e_3:∀H,kH K H (Y 131) [.ref (Y 105),.int 3,.int 0]
 e_4:∀H,kH K H (Y 132) [.ref (Y 106),.int 3,.int 0]
 e_5:∀H,kH K H (Y 133) [.ref (Y 107),.int 4,.int 0]
 e_6:∀H,kH K H (Y 134) [.ref (Y 108),.int 2,.int 0]
 e_7:∀H,kH K H (Y 135) [.ref (Y 109),.int 2,.int 0]
 e_8:∀H,kH K H (Y 136) [.ref (Y 110),.int 3,.int 0]
 e_9:∀H,kH K H (Y 137) [.ref (Y 111),.int 3,.int 0]
 adD:∀H,kH K H (Y 138) [.ref (Y 112),.int 6,.int 0]
 adE:∀H,kH K H (Y 139) [.ref (Y 113),.int 3,.int 0]
 adF:∀H,kH K H (Y 140) [.ref (Y 114),.int 2,.int 0]
 adG:∀H,kH K H (Y 141) [.ref (Y 115),.int 1,.int 0]
 adH:∀H,kH K H (Y 142) [.ref (Y 116),.int 2,.int 0]
 adI:∀H,kH K H (Y 143) [.ref (Y 117),.int 3,.int 0]
 adJ:∀H,kH K H (Y 144) [.ref (Y 118),.int 2,.int 0]
 adK:∀H,kH K H (Y 145) [.ref (Y 119),.int 1,.int 0]
 adM:∀H,kH K H (Y 146) [.ref (Y 120),.int 1,.int 0]
 adN:∀H,kH K H (Y 147) [.ref (Y 121),.int 1,.int 0]
 adO:∀H,kH K H (Y 148) [.ref (Y 122),.int 2,.int 0]
 adP:∀H,kH K H (Y 149) [.ref (Y 91),.int 2,.int 2]
 adQ:∀H,kH K H (Y 150) [.ref (Y 92),.int 1,.int 2]
 adR:∀H,kH K H (Y 151) [.ref (Y 93),.int 2,.int 2]
 adS:∀H,kH K H (Y 152) [.ref (Y 94),.int 1,.int 3]
theorem Y9(W:V0 K mg Y):∀t f p l,nG Y t=some (f,p,l)->∀H,kH K H t [.ref f,.int p,.int l]:=by
 intro t f p l e;unfold nG at e;cases q:(uW Y).find? λr=>r.1==t with
 |none=>rw[q]at e;cases e
 |some r=>
  rw[q]at e;have e1:r.1=t:=by simpa using List.find?_some q
  have b:r.2=(f,p,l):=af2 e;have a:=ahk q;obtain⟨c,d⟩:=r;subst e1 b;unfold uW at a;simp only[List.mem_cons,List.not_mem_nil,or_false,Prod.mk.injEq]at a;rcases a with⟨rfl,rfl,rfl,rfl⟩|⟨rfl,rfl,rfl,rfl⟩|⟨rfl,rfl,rfl,rfl⟩|⟨rfl,rfl,rfl,rfl⟩|⟨rfl,rfl,rfl,rfl⟩|⟨rfl,rfl,rfl,rfl⟩|⟨rfl,rfl,rfl,rfl⟩|⟨rfl,rfl,rfl,rfl⟩|⟨rfl,rfl,rfl,rfl⟩|⟨rfl,rfl,rfl,rfl⟩|⟨rfl,rfl,rfl,rfl⟩|⟨rfl,rfl,rfl,rfl⟩|⟨rfl,rfl,rfl,rfl⟩|⟨rfl,rfl,rfl,rfl⟩|⟨rfl,rfl,rfl,rfl⟩|⟨rfl,rfl,rfl,rfl⟩|⟨rfl,rfl,rfl,rfl⟩|⟨rfl,rfl,rfl,rfl⟩|⟨rfl,rfl,rfl,rfl⟩|⟨rfl,rfl,rfl,rfl⟩|⟨rfl,rfl,rfl,rfl⟩|⟨rfl,rfl,rfl,rfl⟩|⟨rfl,rfl,rfl,rfl⟩|⟨rfl,rfl,rfl,rfl⟩|⟨rfl,rfl,rfl,rfl⟩;exact W.e_0;exact W.e_1;exact W.e_2;exact W.e_3;exact W.e_4;exact W.e_5;exact W.e_6;exact W.e_7;exact W.e_8;exact W.e_9;exact W.adD;exact W.adE;exact W.adF;exact W.adG;exact W.adH;exact W.adI;exact W.adJ;exact W.adK;exact W.adM;exact W.adN;exact W.adO;exact W.adP;exact W.adQ;exact W.adR;exact W.adS
def mH(CS:Addr):D->M (List D×D)
 | .obj C b [.lst a,code]=>if C=CS/\b=[("tables":Str),("code":Str)]then .ok (a,code)else ao
 |_=>ao
theorem MB{CS:Addr}{d:D}{p:List D×D}(h:mH CS d=.ok p):d=au CS p.1 p.2:=by unfold mH at h;split at h;split at h;rename_i a;obtain⟨b,c⟩:=a;subst b c;injection h with h;subst h;rfl;cases h;cases h
theorem MC{CS:Addr}{d:D}{c:Option Addr}(h:mH CS d=.error c):c=none:=by unfold mH at h;split at h;split at h;cases h;injection h with h;exact h.symm;injection h with h;exact h.symm
def AV(Y:afp)(f:Addr)(sd given:D)(ρ':ak):M Fl:=match Dh Y f with
 |none=>ao
 |some h=>mH (Y 27) sd>>=λa=>if fR (Y 27) (Y 19) given=true/\kF (Y 19) a.1=true/\cP (Y 27) (Y 19) a.1=true/\cy (Y 27) (Y 19) a.2=true then
   rD Y h a.1 a.2 given>>=λr=>if kF (Y 19) r.2.1 then .ok (.nx ((AE (Y 27) (Y 19) 3 (au (Y 27) r.2.1 r.2.2) ρ').set 6 (~~~r.1)))else ao
  else ao
def SA(Y:afp):afw:=λa=>p6 (nG Y) 5 0 a>>=λb=>L8 b>>=λf=>O 3 a>>=λc=>sN 2 2 (Y 9) "take_given" (bG Y) (U (p6 (nG Y) 5 1) (U (p6 (nG Y) 5 2) af)) a>>=λp=>AV Y f c p.1 p.2
theorem P5(V:Env P w K mg base Y fd){E:XK}:∀Z N H,Sf K E (SA Y) Z N H->OT (WM (spA K Y) [] E (E3 (tD K E (p6 (nG Y) 5 0)) (E3 (QT 3) (E3 (LJ K E (sN 2 2 (Y 9) "take_given" (bG Y) (U (p6 (nG Y) 5 1) (U (p6 (nG Y) 5 2) af)))) Rc)))) (vt 6) Z N H:=by
 intro Z N H ⟨l,y,n,F,hF,S,o⟩;have o:aH E l (p6 (nG Y) 5 0 n>>=λd0=>L8 d0>>=λf=>O 3 n>>=λj=>sN 2 2 (Y 9) "take_given" (bG Y) (U (p6 (nG Y) 5 1) (U (p6 (nG Y) 5 2) af)) n>>=λp=>AV Y f j p.1 p.2) _:=o;refine pV S o λd v H1 F1 _ g1 S1 r1 k=>?_
 cases d with
 |fn f=>
  have e1:v=.ref f:=r1;subst e1;have k:aH E l (O 3 n>>=λj=>sN 2 2 (Y 9) "take_given" (bG Y) (U (p6 (nG Y) 5 1) (U (p6 (nG Y) 5 2) af)) n>>=λp=>AV Y f j p.1 p.2) _:=k;cases A:O 3 n with
  |error c=>rw[A,R6 A]at k;exact k.elim
  |ok j=>
   rw[A]at k;have k:aH E l (sN 2 2 (Y 9) "take_given" (bG Y) (U (p6 (nG Y) 5 1) (U (p6 (nG Y) 5 2) af)) n>>=λp=>AV Y f j p.1 p.2) _:=k;obtain⟨C,h3,G⟩:=S1.J 3 j (R5 A);refine⟨C,h3,zj S1 k λp gv H2 F2 _ m fs r2 i=>?_⟩;show spA K Y ([.ref f,C,gv]++[]) H2 _ E;rw[agh];obtain⟨given,s⟩:=p;have i:aH E l (AV Y f j given s) _:=i;unfold AV at i;cases Q:Dh Y f with
   |none=>rw[Q]at i;exact i.elim
   |some h=>
    rw[Q]at i;have i:aH E l (mH (Y 27) j>>=λt=>if fR (Y 27) (Y 19) given=true/\kF (Y 19) t.1=true/\cP (Y 27) (Y 19) t.1=true/\cy (Y 27) (Y 19) t.2=true then rD Y h t.1 t.2 given>>=λr=>if kF (Y 19) r.2.1 then(.ok (.nx ((AE (Y 27) (Y 19) 3 (au (Y 27) r.2.1 r.2.2) s).set 6 (~~~r.1))):M Fl)else ao else ao) _:=i;cases I:mH (Y 27) j with
    |error c=>rw[I,MC I]at i;exact i.elim
    |ok t=>
     rw[I]at i;have es:=MB I;obtain⟨g,code⟩:=t;have G:eW K F2 (au (Y 27) g code) C:=by rw[<-es];exact G.mono fs
     have i:aH E l (if fR (Y 27) (Y 19) given=true/\kF (Y 19) g=true/\cP (Y 27) (Y 19) g=true/\cy (Y 27) (Y 19) code=true then rD Y h g code given>>=λr=>if kF (Y 19) r.2.1 then(.ok (.nx ((AE (Y 27) (Y 19) 3 (au (Y 27) r.2.1 r.2.2) s).set 6 (~~~r.1))):M Fl)else ao else ao) _:=i
     by_cases R:fR (Y 27) (Y 19) given=true/\kF (Y 19) g=true/\cP (Y 27) (Y 19) g=true/\cy (Y 27) (Y 19) code=true
     rw[afz R]at i;obtain⟨c1,c2,c3,c4⟩:=R;obtain⟨sh,T⟩:∃sh,C=.ref sh:=by obtain⟨a,_,_,e,_⟩:=id G;exact⟨a,e⟩
     subst T;obtain⟨x,B,A0,⟨dx,ds,b1⟩,⟨vs,b2⟩⟩:=Sh G m.gr.sub c2 c3 c4;have m1:y.F sh=none:=by
      cases q:y.F sh with
      |none=>rfl
      |some u=>obtain⟨ob,xx,X⟩:=hF sh u q;have:=m.gr.aM _ _ q;rw[b1,X]at this;cases this
     have m2:y.F x=none:=by
      cases q:y.F x with
      |none=>rfl
      |some u=>obtain⟨ob,xx,X⟩:=hF x u q;have:=m.gr.aM _ _ q;rw[b2,X]at this;cases this
     have n1:l sh=none:=(m.gr.new sh (by rw[b1];simp)).resolve_left λz=>z m1
     have n2:l x=none:=(m.gr.new x (by rw[b2];simp)).resolve_left λz=>z m2
     refine⟨c7 F2 sh x,sh,x,g,code,f,given,gv,h,rfl,Q,A0,λb u z=>m.gr.sub _ _ (eY z).2.2,eW.PB B c1 r2,sQ c2,(aH.bind i).imp m.gr.same λr _ z v H3 F3 g3 A3 rv=>?_⟩
     by_cases hh:kF (Y 19) r.2.1=true
     rw[afz hh]at z;obtain⟨Fs,S3,_,f5⟩:=m.turn B n1 n2 m1 m2 h3 g3 A3 hh;exact z _ H3 Fs (S3.set 6 (rv.mono λb u e=>by rw[<-f5]at e;exact(eY e).2.2) (by decide));rw[afy hh]at z;exact z.elim;rw[afy R]at i;exact i.elim
 |_=>exact k.elim
def yg:ak->Nat:=λa=>match(a[0]?:Option (Option L))with|some (some (L.J (D.arr l)))=>l.length+1|_=>0
abbrev P6:Stmt:=bC 143
def FL(Y:afp):ak->M Bool:=R8 2 (R9 (zm (zk (Y 9) "ended" (f7 Y) (O 2))))
def zT(Y:afp):afw:=aq (JQ 5 (Se (O 1) (qF 2 (Y 9) "take" (dS Y)))) (aq (SA Y) (aq (sL 4 (aa (U (O 6) af) iw)) (JP 4 (O 6))))
def nH(Y:afp):afw:=aq (aU 1 (aG (.tup ((l8 Y++l9 Y).map D.fn)))) (aq (JV 2 1 (Y 9) (c8 Y) (U (O 0) af)) (aq (aU 3 (λ_=>cH 0 (Y 27) (gm Y) []))
 (aq (xy 4 af) (aq (λa=>c6 (FL Y) (zT Y) (yg a) a) (o6 4 (bF (O 4)))))))
def yh(Y:afp)(ns:List Int):M D:=nH Y (ai 7 [.arr (ns.map D.int)])>>=L5
def abe(K:W.Frag)(Y:afp):Sp:=λd H Q E=>∃(a:Addr)(b out:List Int),d=[.ref a]/\Ub K H a (b.map V.int)/\yh Y b=.ok (.lst (out.map D.int))/\∀p c,c p=some (.lst (out.map V.int))->Q (.ref p) c
theorem jC:fj ["calls","known","reader","shelf","told","entry","answer"] ["calls"] (aP P6):=⟨rfl,rfl,rfl,by decide+kernel,rfl,by decide+kernel,by decide+kernel⟩
theorem MD(V:Env P w K mg base Y fd)(W:V0 K mg Y):eH P w K mg base (kB P w) 61 (Y 124) (fd 124) ["calls"] (abe K Y):=by
 refine V.answers.F.ZQ jC (k:=60) (λvs H Q E zz=>by obtain⟨a,h,out,e,_⟩:=zz;subst e;rfl) λC A t s H vs Q E j zz=>?_;obtain⟨a,h,out,e,G,g,o⟩:=zz
 subst e;have x:=Y9 W;refine⟨_,lG (E:=E) (f:=aU 1 (aG (.tup ((l8 Y++l9 Y).map D.fn)))) (Mg (L3 (i:=1) jC.nd (VJ rfl W.EK rfl W.HV W.EL W.HW (by intro z;cases z) (by intro z;cases z) (by show 25<=1000;decide))))
  (lG (f:=JV 2 1 (Y 9) (c8 Y) (U (O 0) af)) (Mg (NO (i:=2) V.Sj (ny V) aY (j.mono (by decide)) rfl V.Si V.rT.b jC.nd (mw (kK 0) qC)))
  (lG (f:=aU 3 (λ_=>cH 0 (Y 27) (gm Y) [])) (Mg (L3 (i:=3) jC.nd (PK V.VU (yc V) aY (j.mono (by decide)) rfl V.VT V.sU.b)))
  (lG (f:=xy 4 af) (Mg (RD (i:=4) jC.nd qC))
  (lG (f:=λl=>c6 (FL Y) (zT Y) (yg l) l) (Sg yg xj (RS 2 (Rw (R3 (JS V.jf V.qH.m (r9 V) aY (j.mono (by decide)) V.qH.b (kK 2)))))
   (lG (f:=JQ 5 (Se (O 1) (qF 2 (Y 9) "take" (dS Y)))) (Mg (NJ (i:=5) jC.nd (YX (kK 1) (Cs 2 V.jf V.lH.m (nA V) aY (j.mono (by decide)) V.lH.b))))
   (lG (f:=SA Y) (dG (vU (i:=6) jC.nd rfl (Or.inl rfl) (BA (E:=E) (HS V) (j.mono (by decide)) rfl V.uR.m V.uR.k V.uR.b .nil aY.passes (iA (Mh 5 x) (iA (pv 3) (iA (NL 2 V.jf V.jU.m (ur V) aY (j.mono (by decide)) V.jU.b (mw (Mh 5 x) (mw (Mh 5 x) qC))) qy))))) (P5 V))
   (lG (f:=sL 4 (aa (U (O 6) af) iw)) (Mg (RH (i:=4) (Rz rfl V.aa8 (mw (kK 6) qC))))
   (VI (Mg (RM (i:=4) (kK 6))))))))
  (aa7 (v8 4 (BF (G3 (kK 4))))))))),?_⟩
 obtain⟨F,I,R,T⟩:∃F:Hp,NS F/\bu F H/\Ub K F a (h.map L2.V.int):=by
  rcases G with⟨r,y⟩|y;refine⟨λb=>if b=a then some (.Bb r (.lst (h.map L2.V.int)))else none,λb u e=>?_,λb u e=>?_,.inl ⟨r,afz rfl⟩⟩;have e:(if b=a then some (HO.Bb r (.lst (h.map L2.V.int)))else none)=some u:=e
  by_cases n:b=a
  rw[afz n]at e;injection e with e;exact⟨r,_,e.symm⟩;rw[afy n]at e;cases e;have e:(if b=a then some (HO.Bb r (.lst (h.map L2.V.int)))else none)=some u:=e
  by_cases n:b=a
  rw[afz n]at e;rw[n,y];exact e;rw[afy n]at e;cases e;exact⟨λ_=>none,λb u e=>(by cases e),λb u e=>(by cases e),.inr y⟩
 have S:=xD (N:=["calls","known","reader","shelf","told","entry","answer"]) (ds:=[.arr (h.map D.int)]) (vs:=[.ref a]) R ⟨_,_,rfl,⟨a,_,rfl,T,zl h⟩,rfl⟩;refine⟨H,⟨F,none⟩,_,F,I,S,?_⟩;have g:nH Y (ai 7 [.arr (h.map D.int)])>>=L5=.ok (.lst (out.map D.int)):=g;show VH K E H ⟨F,none⟩ (nH Y (ai 7 [.arr (h.map D.int)])) _;cases q:nH Y (ai 7 [.arr (h.map D.int)])with
 |error c=>rw[q]at g;cases g
 |ok B=>
  rw[q]at g;have g:L5 B=.ok (.lst (out.map D.int)):=g;cases B with
  |nx l=>injection g with g;cases g
  |rt d l=>injection g with g;subst g;intro v X Z F' S' rv;obtain⟨p,us,e1,e2,e3⟩:=rv;subst e1;refine o p Z ?_;rw[S'.gr.sub _ _ e2,e3.ints]
  |bk l=>cases g
  |ct l=>cases g
end
end Ev
namespace Ex
def aF:Nat->(Nat->Rat)->Rat|0,_=>0|n+1,f=>aF n f+f n
theorem az:∀{n:Nat},(∀i,i<n->f i=g i)->aF n f=aF n g|0,_=>rfl|n+1,h=>by unfold aF;rw[az λi a=>h i (agw a),h n (agc n)]
theorem jK:∀{n:Nat},(∀i,i<n->f i=0)->aF n f=0|0,_=>rfl|n+1,h=>by unfold aF;rw[jK λi a=>h i (agw a),h n (agc n)];exact ahq 0
theorem lN(f g):∀n,aF n (λi=>f i+g i)=aF n f+aF n g|0=>by unfold aF;exact(ahq 0).symm|n+1=>by unfold aF;rw[lN f g n];grind
theorem cQ(c)(f):∀n,aF n (λi=>c*f i)=c*aF n f|0=>by unfold aF;exact(aio c).symm|n+1=>by unfold aF;rw[cQ c f n];grind
theorem yi(f)(n):aF n (λi=>-f i)=-aF n f:=by
 have h:=cQ (-1) f n;have e:(λi=>(-1:Rat)*f i)=λi=>-f i:=by funext i;grind
 rw[e]at h;rw[h];grind
theorem nI:∀{n:Nat},k<n->(∀i,i<n->i≠k->f i=0)->aF n f=f k
 |0,h,_=>absurd h (agu k)
 |n+1,h,z=>by
  unfold aF
  by_cases e:k=n
  subst e;rw[jK λi a=>z i (agw a) (af4 a)];exact Rat.zero_add _;rw[nI (n:=n) (k:=k) (by lia) λi a b=>z i (agw a) b,z n (agc n) (λq=>e q.symm)];exact ahq _
theorem uX(f:afq)(m):∀n,aF n (λi=>aF m (λj=>f i j))=aF m (λj=>aF n (λi=>f i j))
 |0=>by
  show(0:Rat)=aF m λ_=>0
  exact(jK λ_ _=>rfl).symm
 |n+1=>by
  have e:(λj=>aF (n+1) λi=>f i j)=λj=>aF n (λi=>f i j)+f n j:=rfl
  rw[e,lN];show aF n (λi=>aF m (λj=>f i j))+aF m (λj=>f n j)=_;rw[uX f m n]
theorem nJ(f)(m):∀n,aF (m+n) f=aF m f+aF n (λi=>f (m+i))|0=>by show aF m f=aF m f+0;exact(ahq _).symm|n+1=>by show aF (m+n) f+f (m+n)=aF m f+(aF n (λi=>f (m+i))+f (m+n));rw[nJ f m n];grind
def qx(j:Nat):Rat:=if j%2=0 then 1 else-1
theorem Kz(j):qx (j+1)=-qx j:=by
 unfold qx
 by_cases h:j%2=0
 rw[afz h,afy (by lia)];rw[afy h,afz (by lia)];grind
noncomputable def skip(j k:Nat):Nat:=if k<j then k else k+1
def V1(j k):skip j k≠j:=by unfold skip;split<;>lia
def HX(h:k<n):skip j k<n+1:=by unfold skip;split<;>lia
def b9(M:afq)(j:Nat):afq:=λi k=>M (i+1) (skip j k)
def det:Nat->(afq)->Rat|0,_=>1|n+1,M=>aF (n+1) λj=>qx j*M 0 j*det n (b9 M j)
theorem eg:∀{n:Nat}{M N:afq},(∀i,i<n->∀j,j<n->M i j=N i j)->det n M=det n N
 |0,_,_,_=>rfl
 |n+1,M,N,h=>by
  unfold det;refine az λj a=>?_
  rw[h 0 (ahW n) j a];rw[eg (n:=n) (M:=b9 M j) (N:=b9 N j) λi b k c=>h (i+1) (ag6 b) (skip j k) (HX c)]
def aD(M:afq)(c:Nat)(u:Nat->Rat):afq:=λi j=>if j=c then u i else M i j
def kZ(j c:Nat):Nat:=if c<j then c else c-1
def FN(h:c≠j):skip j (kZ j c)=c:=by unfold skip kZ;((repeat' split)<;>lia)
def FO(j k):kZ j (skip j k)=k:=by unfold skip kZ;((repeat' split)<;>lia)
def V2(a:c<n+1)(b:j<n+1)(h:c≠j):kZ j c<n:=by unfold kZ;split<;>lia
def nL(M:afq)(c)(u:Nat->Rat):b9 (aD M c u) c=b9 M c:=by funext i k;unfold b9 aD;rw[afy (V1 c k)]
theorem zV(M:afq)(u:Nat->Rat)(h:c≠j):b9 (aD M c u) j=aD (b9 M j) (kZ j c) (λi=>u (i+1)):=by
 funext i k;unfold b9 aD
 by_cases e:skip j k=c
 rw[afz e,afz (by rw[<-e,FO])];rw[afy e,afy (λq=>e (by rw[q,FN h]))]
theorem BI:∀{n:Nat}(M:afq){c:Nat}(a b:Rat)(u v:Nat->Rat),c<n->det n (aD M c λi=>a*u i+b*v i)=a*det n (aD M c u)+b*det n (aD M c v)
 |0,_,c,_,_,_,_,h=>absurd h (agu c)
 |n+1,M,c,a,b,u,v,h=>by
  unfold det;rw[<-cQ,<-cQ,<-lN];refine az λj d=>?_
  by_cases e:c=j
  subst e;rw[nL,nL,nL];unfold aD;simp only[if_true];grind;rw[zV _ _ e,zV _ _ e,zV _ _ e];rw[BI (n:=n) (b9 M j) a b (λi=>u (i+1)) (λi=>v (i+1)) (V2 h d e)];unfold aD;simp only[if_neg (λq=>e q.symm:¬j=c)];grind
theorem HY:∀{n:Nat}{M:afq}{c:Nat},c+1<n->(∀i,i<n->M i c=M i (c+1))->det n M=0
 |0,_,_,h,_=>absurd h (agu _)
 |n+1,M,c,h,e=>by
  unfold det;have z:∀j,j<n+1->j≠c->j≠c+1->qx j*M 0 j*det n (b9 M j)=0:=λj g l u=>by
   have o:det n (b9 M j)=0:=by
    refine HY (c:=kZ j c) ?_ λi a=>?_
    unfold kZ;split<;>lia;have e1:skip j (kZ j c)=c:=FN λq=>l q.symm
    have b:skip j (kZ j c+1)=c+1:=by unfold skip kZ;((repeat' split)<;>lia)
    show M (i+1) (skip j (kZ j c))=M (i+1) (skip j (kZ j c+1));rw[e1,b];exact e (i+1) (ag6 a)
   rw[o];exact aio _
  have p:det n (b9 M (c+1))=det n (b9 M c):=by
   refine eg λi a k v=>?_
   show M (i+1) (skip (c+1) k)=M (i+1) (skip c k)
   by_cases q:k=c
   subst q;have e1:skip (k+1) k=k:=by unfold skip;rw[afz (agc k)]
   have b:skip k k=k+1:=by unfold skip;rw[afy (agp k)]
   rw[e1,b];exact e (i+1) (ag6 a);have e1:skip (c+1) k=skip c k:=by unfold skip;((repeat' split)<;>lia)
   rw[e1]
  have two:∀(f:Nat->Rat)m,c+1<m->(∀j,j<m->j≠c->j≠c+1->f j=0)->aF m f=f c+f (c+1):=λf m=>by
   induction m with
   |zero=>intro q;lia
   |succ m r=>
    intro w d;unfold aF
    by_cases q:c+1=m
    subst q;rw[nI (k:=c) (agc c) λi a s=>d i (by lia) s (by lia)];rw[r (by lia) λj g=>d j (by lia),d m (by lia) (by lia) (λt=>q t.symm)];grind
  rw[two _ (n+1) h z,p,Kz,e 0 (ahW n)];grind
theorem gF(M:afq)(c:Nat):aD M c (λi=>M i c)=M:=by
 funext i j;unfold aD
 by_cases e:j=c
 rw[afz e,e];rw[afy e]
theorem jL(M:afq)(u v:Nat->Rat)(h:c≠d):aD (aD M c u) d v=aD (aD M d v) c u:=by
 funext i j;unfold aD
 by_cases e:j=c
 subst e;rw[afy h,afz rfl,afz rfl]
 by_cases f:j=d
 subst f;rw[afz rfl,afy e,afz rfl];rw[afy f,afy e,afy e,afy f]
theorem uY(M:afq)(u v:Nat->Rat)(h:c<n):det n (aD M c λi=>u i+v i)=det n (aD M c u)+det n (aD M c v):=by
 have e:=BI M 1 1 u v h;have q:(λi=>(1:Rat)*u i+1*v i)=λi=>u i+v i:=by funext i;grind
 rw[q]at e;rw[e];grind
theorem Di(M:afq)(a)(u:Nat->Rat)(h:c<n):det n (aD M c λi=>a*u i)=a*det n (aD M c u):=by
 have e:=BI M a 0 u u h;have q:(λi=>a*u i+0*u i)=λi=>a*u i:=by funext i;grind
 rw[q]at e;rw[e];grind
theorem HZ(M:afq)(h:c+1<n)(u v:Nat->Rat):det n (aD (aD M c u) (c+1) v)=-det n (aD (aD M c v) (c+1) u):=by
 have a:c≠c+1:=by lia
 have same:∀x,det n (aD (aD M c x) (c+1) x)=0:=λx=>by
  refine HY h λi _=>?_
  unfold aD;rw[afy a,afz rfl,afz rfl]
 have z:=same λi=>u i+v i
 rw[uY _ _ _ h,jL _ _ _ a,uY _ _ _ (aiP h),jL _ _ _ a,uY _ _ _ (aiP h)]at z;rw[jL _ _ _ a.symm,jL _ _ _ a.symm,jL _ _ _ a.symm,jL _ _ _ a.symm,same,same]at z;grind
theorem uu:∀(g:Nat){M:afq}{c:Nat},c+g+1<n->(∀i,i<n->M i c=M i (c+g+1))->det n M=0
 |0,M,c,h,e=>HY h e
 |g+1,M,c,h,e=>by
  have a:(c+g+1)+1<n:=h;have e0:M=aD (aD M (c+g+1) (λi=>M i (c+g+1))) (c+g+1+1) (λi=>M i (c+g+1+1)):=by rw[gF];exact(gF M _).symm
  rw[e0,HZ M a];have z:det n (aD (aD M (c+g+1) λi=>M i (c+g+1+1)) (c+g+1+1) λi=>M i (c+g+1))=0:=by
   refine uu g (c:=c) (by lia) λi b=>?_
   unfold aD;rw[afy (by lia),afy (by lia),afy (by lia),afz rfl];exact e i b
  rw[z];grind
theorem yj(a:c<n)(b:d<n)(ne:c≠d)(e:∀i,i<n->M i c=M i d):det n M=0:=by
 by_cases h:c<d
 obtain⟨g,rfl⟩:∃g,d=c+g+1:=⟨d-c-1,by omega⟩;exact uu g b e;obtain⟨g,rfl⟩:∃g,c=d+g+1:=⟨c-d-1,by omega⟩;exact uu g a λi f=>(e i f).symm
theorem yk(b:c<n)(e:∀i,i<n->M i c=0):det n M=0:=by
 have q:=Di M 0 (λi=>M i c) b;rw[gF]at q;rw[show det n M=det n (aD M c λi=>0*M i c)from eg λi d j _=>by
  unfold aD
  by_cases a:j=c
  rw[afz a,a,e i d];grind;rw[afy a],q]
 grind
theorem KA(M:afq)(b:c<n)(a:Nat->Rat):∀m,det n (aD M c λi=>aF m λt=>a t*M i t)=aF m λt=>a t*det n (aD M c λi=>M i t)
 |0=>by
  unfold aF;refine yk b λi _=>?_
  unfold aD;rw[afz rfl]
 |m+1=>by
  have e:(λi=>aF (m+1) λt=>a t*M i t)=λi=>(aF m λt=>a t*M i t)+a m*M i m:=rfl
  rw[e,uY _ _ _ b,KA M b a m,Di _ _ _ b];rfl
theorem uZ(M:afq)(d:c<n)(a:Nat->Rat)(h:∀i,i<n->u i=aF n λt=>a t*M i t):det n (aD M c u)=a c*det n M:=by
 have e1:det n (aD M c u)=det n (aD M c λi=>aF n λt=>a t*M i t):=eg λi f j _=>by
  unfold aD
  by_cases e:j=c
  rw[afz e,afz e,h i f];rw[afy e,afy e]
 rw[e1,KA M d a n,nI (k:=c) d λt g b=>?_];rw[gF];have z:det n (aD M c λi=>M i t)=0:=by
  refine yj d g (λq=>b q.symm) λi _=>?_
  unfold aD;rw[afz rfl,afy b]
 rw[z];exact aio _
theorem Dj:∀{n:Nat}{M:afq},(∀i,i<n->M i n=0)->det (n+1) M=M n n*det n M
 |0,M,_=>by show(0:Rat)+qx 0*M 0 0*1=M 0 0*1;have e:qx 0=1:=rfl;rw[e];grind
 |n+1,M,h=>by
  have e1:det (n+2) M=aF (n+2) λj=>qx j*M 0 j*det (n+1) (b9 M j):=rfl
  have b:det (n+1) M=aF (n+1) λj=>qx j*M 0 j*det n (b9 M j):=rfl
  rw[e1,b,<-cQ];show aF (n+1) _+qx (n+1)*M 0 (n+1)*det (n+1) (b9 M (n+1))=_;rw[h 0 (ahW n)];have c:aF (n+1) (λj=>qx j*M 0 j*det (n+1) (b9 M j))=aF (n+1) λj=>M (n+1) (n+1)*(qx j*M 0 j*det n (b9 M j)):=by
   refine az λj f=>?_
   have a:skip j n=n+1:=by unfold skip;rw[afy (by lia)]
   rw[Dj (n:=n) (M:=b9 M j) λi d=>by show M (i+1) (skip j n)=0;rw[a];exact h (i+1) (ag6 d)];show qx j*M 0 j*(M (n+1) (skip j n)*det n (b9 M j))=_;rw[a];grind
  rw[c];grind
def bQ(r:Rat):Prop:=∃z:Int,r=(z:Rat)
theorem bQ.add(x:bQ a)(y:bQ b):bQ (a+b):=by obtain⟨i,rfl⟩:=x;obtain⟨j,rfl⟩:=y;exact⟨i+j,(aip i j).symm⟩
theorem bQ.mul(x:bQ a)(y:bQ b):bQ (a*b):=by obtain⟨i,rfl⟩:=x;obtain⟨j,rfl⟩:=y;exact⟨i*j,(af0 i j).symm⟩
theorem bQ.int(z:Int):bQ (z:Rat):=⟨z,rfl⟩
theorem bQ.sum:∀{n:Nat},(∀i,i<n->bQ (f i))->bQ (aF n f)|0,_=>⟨0,rfl⟩|n+1,h=>(bQ.sum λi a=>h i (agw a)).add (h n (agc n))
theorem bQ.qx(j):bQ (qx j):=by unfold Ex.qx;split;exact⟨1,rfl⟩;exact⟨-1,rfl⟩
theorem bQ.det:∀{n:Nat}{M:afq},(∀i,i<n->∀j,j<n->bQ (M i j))->bQ (Ex.det n M)|0,_,_=>⟨1,rfl⟩|n+1,M,h=>by unfold Ex.det;exact bQ.sum λj a=>((bQ.qx j).mul (h 0 (ahW n) j a)).mul (bQ.det λi b k c=>h (i+1) (ag6 b) (skip j k) (HX c))
structure eo(k:Nat)(M:afq)(c:Nat->Nat)(W:afq)(p:Rat):Prop where
 nz:p≠0
 up:∀m,m<k->∀j,p*M m j=aF k λs=>M m (c s)*W s j
 low:∀i,k<=i->∀j,p*M i j=W i j+aF k λs=>M i (c s)*W s j
 dt:det k (λa b=>M a (c b))=p
theorem eo.start(M)(c):eo 0 M c M 1 where
 nz:=by decide
 up:=λm h=>absurd h (agu m)
 low:=λi _ j=>by show 1*M i j=M i j+0;grind
 dt:=rfl
theorem eo.rows(S:eo k M c W p)(t:Nat->Nat)(a:∀m,m<k->t m=m)(f:∀i,k<=i->k<=t i):eo k (λi j=>M (t i) j) c (λi j=>W (t i) j) p where
 nz:=S.nz
 up:=λm e j=>by rw[a m e,S.up m e j];exact az λs b=>by rw[a s b]
 low:=λi d j=>by rw[S.low (t i) (f i d) j];congr 1;exact az λs b=>by rw[a s b]
 dt:=by rw[<-S.dt];exact eg λi d j _=>by rw[a i d]
theorem eo.KC(S:eo k M c W p)(n:k<=i)(j):
  det (k+1) (λa b=>M (if a=k then i else a) (if b=k then j else c b))=W i j:=by
 generalize l:(λa b=>M (if a=k then i else a) (if b=k then j else c b):afq)=T;have x:=S.nz;have m:∀a s,s<k->T a s=M (if a=k then i else a) (c s):=λa s d=>by subst l;show M _ (if s=k then j else c s)=_;rw[afy (af4 d)]
 have o:∀a,T a k=M (if a=k then i else a) j:=λa=>by subst l;show M _ (if k=k then j else c k)=_;rw[afz rfl]
 have r:det (k+1) T=det (k+1) (aD T k λa=>(aF (k+1) λt=>(if t<k then W t j/p else 0)*T a t)+(if a=k then W i j/p else 0)):=by
  refine eg λa e b g=>?_
  unfold aD
  by_cases h:b=k
  rw[afz h,h];have u:aF (k+1) (λt=>(if t<k then W t j/p else 0)*T a t)=(1/p)*aF k λs=>M (if a=k then i else a) (c s)*W s j:=by
   show aF k _+(if k<k then W k j/p else 0)*T a k=_;rw[afy (agp k),<-cQ];have:aF k (λt=>(if t<k then W t j/p else 0)*T a t)=aF k λs=>1/p*(M (if a=k then i else a) (c s)*W s j):=az λs d=>by rw[afz d,m a s d];grind
   rw[this];grind
  show T a k=aF (k+1) (λt=>(if t<k then W t j/p else 0)*T a t)+_;rw[u,o]
  by_cases f:a=k
  rw[afz f,afz f];have q:=S.low i n j;grind;rw[afy f,afy f];have q:=S.up a (by lia) j;grind;rw[afy h]
 rw[r,uY _ _ _ (agc k),uZ T (agc k) (λt=>if t<k then W t j/p else 0) (λa _=>rfl),afy (agp k)];have v:det (k+1) (aD T k λa=>if a=k then W i j/p else 0)=W i j/p*p:=by
  rw[Dj λa e=>by unfold aD;rw[afz rfl];exact afy (af4 e)];have w:det k (aD T k λa=>if a=k then W i j/p else 0)=p:=by
   rw[<-S.dt];refine eg λa e b g=>?_
   unfold aD;rw[afy (af4 g),m a b g,afy (af4 e)]
  rw[w];unfold aD;rw[afz rfl];show(if k=k then W i j/p else 0)*p=_;rw[afz rfl]
 rw[v];grind
theorem eo.SD(S:eo k M c W p)(d:l<k)(j):
  det k (aD (λa b=>M a (c b)) l λa=>M a j)=W l j:=by
 have g:=S.nz;rw[uZ (λa b=>M a (c b)) d (λt=>W t j/p) λa f=>?_];rw[S.dt];grind;have q:=S.up a f j;have e:aF k (λt=>W t j/p*M a (c t))=1/p*aF k λs=>M a (c s)*W s j:=by rw[<-cQ];exact az λs _=>by grind
 show M a j=aF k (λt=>W t j/p*M a (c t));rw[e];grind
theorem eo.whole(S:eo k M c W p)(d:∀i,i<h->∀j,bQ (M i j))(l:k<=h)(f:i<h)(j):bQ (W i j):=by
 by_cases q:i<k
 rw[<-S.SD q j];refine bQ.det λa g b _=>?_
 unfold aD;split<;>exact d a (by lia) _;rw[<-S.KC (aid q) j];refine bQ.det λa g b _=>?_
 by_cases e:a=k
 rw[afz e];exact d i f _;rw[afy e];exact d a (by lia) _
theorem eo.next(S:eo k M c W p)(o:W k d≠0):
  eo (k+1) M (λs=>if s=k then d else c s) (λi j=>if i=k then W k j else(W k d*W i j-W i d*W k j)/p) (W k d):=by
 have t:=S.nz;have r:∀s,s<k->(if s=k then d else c s)=c s:=λs f=>afy (af4 f)
 have h:∀m j,aF (k+1) (λs=>M m (if s=k then d else c s)*(if s=k then W k j else(W k d*W s j-W s d*W k j)/p))=
   (W k d/p)*aF k (λs=>M m (c s)*W s j)-(W k j/p)*aF k (λs=>M m (c s)*W s d)+M m d*W k j:=λm j=>by
  show aF k _+M m (if k=k then d else c k)*(if k=k then W k j else _)=_;rw[afz rfl,afz rfl];have e:aF k (λs=>M m (if s=k then d else c s)*(if s=k then W k j else(W k d*W s j-W s d*W k j)/p))=
    aF k λs=>(W k d/p)*(M m (c s)*W s j)+(-(W k j/p))*(M m (c s)*W s d):=az λs f=>by
   rw[r s f,afy (af4 f)];grind
  rw[e,lN,cQ,cQ];grind
 refine⟨o,λm u j=>?_,λi v j=>?_,?_⟩;show W k d*M m j=aF (k+1) _;rw[h m j]
 by_cases e:m=k
 subst e;have l:=S.low m (afI m) j;have n:=S.low m (afI m) d;grind;have l:=S.up m (by lia) j;have n:=S.up m (by lia) d;grind;show W k d*M i j=(if i=k then W k j else(W k d*W i j-W i d*W k j)/p)+aF (k+1) _;rw[h i j,afy (by lia)];have l:=S.low i (by lia) j;have n:=S.low i (by lia) d;grind;have q:=S.KC (afI k) d;have e:det (k+1) (λa b=>M a (if b=k then d else c b))=det (k+1) (λa b=>M (if a=k then k else a) (if b=k then d else c b)):=eg λa _ b _=>by
  by_cases g:a=k
  rw[afz g,g];rw[afy g]
 rw[e];exact q
theorem P7(g:Nat->Rat)(d:j<n+1):aF n (λk=>g (skip j k))=aF (n+1) λb=>if b=j then 0 else g b:=by
 obtain⟨m,rfl⟩:∃m,n=j+m:=⟨n-j,by lia⟩;rw[nJ,show j+m+1=(j+1)+m by lia,nJ (λb=>if b=j then 0 else g b) (j+1) m];have e1:aF j (λk=>g (skip j k))=aF j λb=>if b=j then 0 else g b:=az λk a=>by rw[afy (af4 a)];unfold skip;rw[afz a]
 have c:aF m (λi=>g (skip j (j+i)))=aF m λi=>if j+1+i=j then 0 else g (j+1+i):=az λi _=>by
  rw[afy (by lia)];unfold skip;rw[afy (by lia)];congr 1
  lia
 rw[e1,c];show _=(aF j _+if j=j then 0 else g j)+_;rw[afz rfl];grind
def two(n:Nat)(M:afq)(j b:Nat):Rat:=det n λi l=>M (i+2) (skip j (skip (kZ j b) l))
theorem SE(n)(M:afq)(a:j≠b):two n M j b=two n M b j:=by
 unfold two;congr 1;funext i l;congr 1;unfold skip kZ
 (repeat' split)<;>lia
def tw(n:Nat)(M:afq)(j b:Nat):Rat:=if b=j then 0 else qx j*qx (kZ j b)*two n M j b
theorem V3(n)(M:afq)(j b):tw n M j b=-tw n M b j:=by
 unfold tw
 by_cases e:b=j
 rw[afz e,afz e.symm];grind;rw[afy e,afy λq=>e q.symm,SE n M λq=>e q.symm];have a:∀x y,x<y->qx y*qx (kZ y x)=-(qx x*qx (kZ x y)):=λx y h=>by
  have e1:kZ y x=x:=by unfold kZ;rw[afz h]
  have c:kZ x y+1=y:=by unfold kZ;rw[afy (by lia)];lia
  have d:qx y=-qx (kZ x y):=by rw[<-Kz,c]
  rw[e1,d];grind
 by_cases h:b<j
 rw[a b j h];grind;have q:=a j b (by lia);rw[q];grind
theorem NZ(n)(M:afq):det (n+2) M=aF (n+2) λj=>aF (n+2) λb=>tw n M j b*(M 0 j*M 1 b):=by
 show aF (n+2) (λj=>qx j*M 0 j*aF (n+1) λk=>qx k*b9 M j 0 k*det n (b9 (b9 M j) k))=_;refine az λj a=>?_
 have e:aF (n+1) (λk=>qx k*b9 M j 0 k*det n (b9 (b9 M j) k))=aF (n+1) λk=>(λb=>qx (kZ j b)*M 1 b*two n M j b) (skip j k):=az λk _=>by show qx k*M 1 (skip j k)*det n (b9 (b9 M j) k)=qx (kZ j (skip j k))*M 1 (skip j k)*two n M j (skip j k);unfold two;rw[FO];rfl
 rw[e,P7 (λb=>qx (kZ j b)*M 1 b*two n M j b) a,<-cQ];refine az λb _=>?_
 unfold tw
 by_cases q:b=j
 rw[afz q,afz q];grind;rw[afy q,afy q];grind
noncomputable def aJ(r s i:Nat):Nat:=if i=r then s else if i=s then r else i
theorem P8(n)(M:afq):det (n+2) (λi j=>M (aJ 0 1 i) j)=-det (n+2) M:=by
 rw[NZ,NZ,<-yi];have e1:aF (n+2) (λj=>aF (n+2) λb=>tw n (λi j=>M (aJ 0 1 i) j) j b*(M (aJ 0 1 0) j*M (aJ 0 1 1) b))=aF (n+2) λj=>aF (n+2) λb=>tw n M j b*(M 1 j*M 0 b):=
  az λj _=>az λb _=>by
   have a:tw n (λi j=>M (aJ 0 1 i) j) j b=tw n M j b:=by
    unfold tw two;have e0:∀i,aJ 0 1 (i+2)=i+2:=λi=>by unfold aJ;rw[afy (by lia),afy (by lia)]
    simp only[e0]
   rw[a];rfl
 show aF (n+2) (λj=>aF (n+2) λb=>tw n (λi j=>M (aJ 0 1 i) j) j b*(M (aJ 0 1 0) j*M (aJ 0 1 1) b))=_;rw[e1,uX (λj b=>tw n M j b*(M 1 j*M 0 b))];refine az λb _=>?_
 rw[<-yi];refine az λj _=>?_
 rw[V3];grind
theorem ym:∀n r M,r+1<n->det n (λi j=>M (aJ r (r+1) i) j)=-det n M
 |0,r,_,h=>absurd h (agu _)
 |1,r,_,h=>absurd h (by lia)
 |n+2,0,M,_=>P8 n M
 |n+2,r+1,M,h=>by
  show aF (n+2) (λj=>qx j*M (aJ (r+1) (r+1+1) 0) j*det (n+1) (b9 (λi j=>M (aJ (r+1) (r+1+1) i) j) j))=-aF (n+2) (λj=>qx j*M 0 j*det (n+1) (b9 M j));rw[<-yi];refine az λj _=>?_
  have e0:aJ (r+1) (r+1+1) 0=0:=by unfold aJ;rw[afy (by lia),afy (by lia)]
  have e1:b9 (λi j=>M (aJ (r+1) (r+1+1) i) j) j=λi k=>b9 M j (aJ r (r+1) i) k:=by
   funext i k;show M (aJ (r+1) (r+1+1) (i+1)) (skip j k)=M (aJ r (r+1) i+1) (skip j k);congr 1;unfold aJ
   (repeat' split)<;>lia
  rw[e0,e1,ym (n+1) r (b9 M j) (by lia)];grind
theorem Ia(n):∀g r M,r+g+1<n->det n (λi j=>M (aJ r (r+g+1) i) j)=-det n M
 |0,r,M,h=>ym n r M h
 |g+1,r,M,h=>by
  have e:(λi j=>M (aJ r (r+(g+1)+1) i) j)=λi j=>(λi j=>(λi j=>M (aJ (r+g+1) (r+g+1+1) i) j) (aJ r (r+g+1) i) j) (aJ (r+g+1) (r+g+1+1) i) j:=by
   funext i j;show M (aJ r (r+(g+1)+1) i) j=M (aJ (r+g+1) (r+g+1+1) (aJ r (r+g+1) (aJ (r+g+1) (r+g+1+1) i))) j;congr 1;unfold aJ
   (repeat' split)<;>lia
  rw[e];have e1:=ym n (r+g+1) (λi j=>(λi j=>M (aJ (r+g+1) (r+g+1+1) i) j) (aJ r (r+g+1) i) j) (by lia);have a:=Ia n g r (λi j=>M (aJ (r+g+1) (r+g+1+1) i) j) (by lia);have b:=ym n (r+g+1) M (by lia);rw[b]at a;refine e1.trans ?_;rw[a];grind
theorem wL(r s i):aJ r s i=aJ s r i:=by
 unfold aJ
 (repeat' split)<;>lia
theorem KD(M)(a:r<n)(hs:s<n)(h:r≠s):det n (λi j=>M (aJ r s i) j)=-det n M:=by
 by_cases q:r<s
 obtain⟨g,rfl⟩:∃g,s=r+g+1:=⟨s-r-1,by omega⟩;exact Ia n g r M hs;obtain⟨g,rfl⟩:∃g,r=s+g+1:=⟨r-s-1,by omega⟩;have e:(λi j=>M (aJ (s+g+1) s i) j)=λi j=>M (aJ s (s+g+1) i) j:=by funext i j;rw[wL]
 rw[e];exact Ia n g s M a
open Vagraa (Frac frac)
noncomputable def fr(q:Rat):Frac:=⟨q.num,q.den⟩
def Za(h:fr x=fr y):x=y:=by injection h with a b;exact Rat.ext a b
theorem BJ(n:Int)(h:d≠0):frac n d=fr (mkRat n d):=by unfold frac fr;rw[afy h,Rat.num_mkRat,Rat.den_mkRat,afy h,afy h,aiW]
def N2:Vagraa.zero=fr 0:=rfl
def SG:Vagraa.one=fr 1:=rfl
theorem Dk(x y:Rat):Vagraa.add (fr x) (fr y)=fr (x+y):=by show frac (x.num*y.den+y.num*x.den) (x.den*y.den)=_;rw[BJ _ (Nat.mul_ne_zero x.den_nz y.den_nz),<-Rat.mkRat_add_mkRat _ _ x.den_nz y.den_nz,ag7,ag7]
theorem uv(x y:Rat):Vagraa.mul (fr x) (fr y)=fr (x*y):=by show frac (x.num*y.num) (x.den*y.den)=_;rw[BJ _ (Nat.mul_ne_zero x.den_nz y.den_nz),<-Rat.mkRat_mul_mkRat,ag7,ag7]
def zW(x:Rat):Vagraa.neg (fr x)=fr (-x):=rfl
theorem zX(x y:Rat):Vagraa.sub (fr x) (fr y)=fr (x-y):=by show Vagraa.add (fr x) (Vagraa.neg (fr y))=_;rw[zW,Dk];congr 1;grind
def qh(x:Rat):Vagraa.isZero (fr x)=decide (x=0):=by show decide (x.num=0)=_;exact ahD.mpr aiq
theorem Zb(x):Vagraa.inv (fr x)=fr (x⁻¹):=by
 show(if x.num<0 then(⟨-(x.den:Int),x.num.natAbs⟩:Frac)else if x.num=0 then Vagraa.zero else⟨x.den,x.num.natAbs⟩)=_;have c:Nat.Coprime x.num.natAbs x.den:=x.reduced
 by_cases b:x.num=0
 have e:x=0:=aiq.mp b;subst e;rw[Rat.inv_zero];rfl;have d:x.num.natAbs≠0:=by omega
 have a:∀(n:Int)(h:n.natAbs=x.den),(mkRat n x.num.natAbs)=(⟨n,x.num.natAbs,d,by rw[h];exact c.symm⟩:Rat):=λn h=>
  ag7 (⟨n,x.num.natAbs,d,by rw[h];exact c.symm⟩:Rat)
 by_cases hneg:x.num<0
 rw[afz hneg];have e:x⁻¹=mkRat (-(x.den:Int)) x.num.natAbs:=by
  rw[Rat.inv_def,aiQ,ahm];have e1:((x.num.natAbs:Nat):Rat)=-(x.num:Rat):=by
   have:((x.num.natAbs:Nat):Int)=-x.num:=by omega
   rw[<-ahp,this,ahN]
  rw[e1,ahN];have f:(x.num:Rat)≠0:=λq=>b (by exact_mod_cast q)
  grind
 rw[e,a _ (by omega)];rfl;rw[afy hneg,afy b];have e:x⁻¹=mkRat (x.den:Int) x.num.natAbs:=by
  rw[Rat.inv_def,aiQ,ahm];have e1:((x.num.natAbs:Nat):Rat)=(x.num:Rat):=by
   have:((x.num.natAbs:Nat):Int)=x.num:=by omega
   rw[<-ahp,this]
  rw[e1]
 rw[e,a _ (by omega)];rfl
theorem Ib(x y:Rat):Vagraa.div (fr x) (fr y)=fr (x/y):=by show Vagraa.mul (fr x) (Vagraa.inv (fr y))=_;rw[Zb,uv,Rat.div_def]
theorem KG:∀(l:List Rat)a,(l.map fr).foldl Vagraa.add (fr a)=fr (l.foldl (·+ ·) a)|[],_=>rfl|x::l,a=>by show(l.map fr).foldl Vagraa.add (Vagraa.add (fr a) (fr x))=_;rw[Dk,KG l];rfl
theorem Dl(f):∀n,((List.range n).map f).foldl (·+ ·) 0=aF n f|0=>rfl|n+1=>by rw[ahO,agz,List.foldl_append,Dl f n];rfl
theorem Ic(n)(g:Nat->Frac)(f)(h:∀i,i<n->g i=fr (f i)):Vagrae.sum ((List.range n).map g)=fr (aF n f):=by
 have e:(List.range n).map g=((List.range n).map f).map fr:=by rw[afS];exact afY λi a=>h i (afG.mp a)
 unfold Vagrae.sum;rw[e,N2,KG,Dl]
open Vagraa (Frac)
open Vagram (Mat make)
def mk(r c:Nat)(A:afq):Mat:=make r c λi j=>fr (A i j)
def range_getD(f)(d:a)(h:i<n):((List.range n).map f).getD i d=f i:=by rw[afC,afF,afV h];rfl
theorem SH(f)(a:i<r)(b:j<c):(make r c f).get i j=f i j:=by unfold Mat.get make VagraLine.at_;show(((List.range r).map λi=>(List.range c).map (f i)).getD i []).getD j Vagraa.zero=f i j;rw[range_getD _ _ a,range_getD _ _ b]
theorem cF(h:∀i,i<r->∀j,j<c->f i j=g i j):make r c f=make r c g:=by unfold make;congr 1;exact afY λi a=>afY λj b=>h i (afG.mp a) j (afG.mp b)
def di(A:afq)(a:i<r)(b:j<c):(mk r c A).get i j=fr (A i j):=SH _ a b
def d7(h:∀i,i<r->∀j,j<c->A i j=B i j):mk r c A=mk r c B:=cF λi a j b=>by rw[h i a j b]
def Zc(h:mk r c A=mk r c B)(a:i<r)(b:j<c):A i j=B i j:=by have e:=di A a b;rw[h,di B a b]at e;exact(Za e).symm
def yo(A:afq)(r c):(mk r c A).rows=r:=rfl
def N3(A:afq)(r c):(mk r c A).cols=c:=rfl
theorem SI(A B:afq)(r c):Vagram.add (mk r c A) (mk r c B)=mk r c λi j=>A i j+B i j:=cF λi a j b=>by have a:i<r:=a;have b:j<c:=b;rw[di A a b,di B a b,Dk]
theorem Zd(A B:afq)(r c):Vagram.sub (mk r c A) (mk r c B)=mk r c λi j=>A i j-B i j:=cF λi a j b=>by have a:i<r:=a;have b:j<c:=b;rw[di A a b,di B a b,zX]
theorem Dm(x)(A:afq)(r c):Vagram.scale (fr x) (mk r c A)=mk r c λi j=>x*A i j:=cF λi a j b=>by have a:i<r:=a;have b:j<c:=b;rw[di A a b,uv]
def mulR(n:Nat)(A B:afq):afq:=λi j=>aF n λk=>A i k*B k j
theorem Ie(A B:afq)(r n c):Vagram.mul (mk r n A) (mk n c B)=mk r c (mulR n A B):=cF λi a j b=>by have a:i<r:=a;have b:j<c:=b;exact Ic n _ _ λk d=>by rw[di A a d,di B d b,uv]
theorem V4(A:afq)(r c):Vagram.turn (mk r c A)=mk c r λi j=>A j i:=cF λi a j b=>by have a:i<c:=a;have b:j<r:=b;rw[di A b a]
def cg:afq:=λi j=>if i=j then 1 else 0
theorem yp(n:Nat):Vagram.unitMat n=mk n n cg:=cF λi _ j _=>by
 unfold cg
 by_cases h:i=j
 rw[afz h,afz h];rfl;rw[afy h,afy h];rfl
def V5(c:Nat)(A B:afq):afq:=λi j=>if j<c then A i j else B i (j-c)
theorem zY(A B:afq)(r c d):Vagram.beside (mk r c A) (mk r d B)=mk r (c+d) (V5 c A B):=cF λi a j b=>by
 have a:i<r:=a;have b:j<c+d:=b;unfold V5;show(if j<c then(mk r c A).get i j else(mk r d B).get i (j-c))=_
 by_cases h:j<c
 rw[afz h,afz h,di A a h];rw[afy h,afy h,di B a (by lia)]
def Ze(r:Nat)(A B:afq):afq:=λi j=>if i<r then A i j else B (i-r) j
theorem SJ(A B:afq)(r s c):Vagram.below (mk r c A) (mk s c B)=mk (r+s) c (Ze r A B):=cF λi b j a=>by
 have b:i<r+s:=b;have a:j<c:=a;unfold Ze;show(if i<r then(mk r c A).get i j else(mk s c B).get (i-r) j)=_
 by_cases h:i<r
 rw[afz h,afz h,di A h a];rw[afy h,afy h,di B (by lia) a]
theorem N4(A:afq)(a:i+h<=r)(b:j+w<=c):Vagram.part (mk r c A) i j h w=mk h w λx y=>A (i+x) (j+y):=cF λx d y e=>by rw[di A (by lia) (by lia)]
def SK(n:Nat)(A:afq):Nat->Nat->Nat->Rat|0=>cg|k+1=>mulR n (SK n A k) A
theorem KH(A:afq)(n):∀k,Vagram.power (mk n n A) k=mk n n (SK n A k)|0=>yp n|k+1=>by show Vagram.mul (Vagram.power (mk n n A) k) (mk n n A)=_;rw[KH A n k,Ie];rfl
def KI(A:afq)(n c)(h:n<=c):Vagram.trace (mk n c A)=fr (aF n λi=>A i i):=Ic n _ _ λi a=>di A a (by lia)
def EM(h:Nat)(A:afq)(r c:Nat):Option Nat:=(List.range h).find? λi=>decide (r<=i)&&decide (A i c≠0)
def Dn(A:afq)(r s:Nat):afq:=λi j=>A (aJ r s i) j
def ME(A:afq)(r c:Nat):afq:=λi j=>if i=r then A r j/A r c else A i j-A i c*(A r j/A r c)
def nM(h:Nat):Nat->Nat->Nat->(afq)->List Nat->(afq)×List Nat
 |0,_,_,A,a=>(A,a)
 |f+1,r,c,A,a=>match EM h A r c with
  |none=>nM h f r (c+1) A a
  |some i=>nM h f (r+1) (c+1) (ME (Dn A r i) r c) (a++[c])
theorem gR(e:(List.range h).find? p=some i):i<h/\p i=true/\∀j,j<i->p j=false:=by
 obtain⟨f,a,bs,b,g⟩:=List.find?_eq_some_iff_append.mp e;have m:a.length=i:=by
  have q:(List.range h)[a.length]?=some i:=by rw[b];simp
  have c:a.length<h:=by
   have:=agg List.length b;rw[afN,afM,af5]at this
   lia
  rw[afV c]at q;exact af2 q
 have k:i<h:=afG.mp (ahk e);refine⟨k,f,λj n=>?_⟩;have q:a[j]?=some j:=by have d:(List.range h)[j]?=some j:=afV (by lia);rw[b,agj (by lia)]at d;exact d
 have:=g j (ahi q);cases l:p j with|false=>rfl|true=>rw[l]at this;exact absurd this (by decide)
theorem zZ(e:(List.range h).find? p=none)(a:i<h):p i=false:=by
 have:=aha.mp e i (afG.mpr a);cases b:p i with|false=>rfl|true=>exact absurd b this
def z0(e:EM h A r c=some i):i<h/\r<=i/\A i c≠0:=by obtain⟨b,a,_⟩:=gR e;rw[afL]at a;exact⟨b,age a.1,age a.2⟩
theorem P9(e:EM h A r c=none)(a:i<h)(b:r<=i):A i c=0:=by have q:=zZ e a;rw[af7 b,aiJ]at q;have:=of_decide_eq_false q;exact Classical.byContradiction λz=>this z
theorem KJ(A:afq)(f:c<w):Vagram.pivotRow (mk h w A) r c=EM h A r c:=by
 unfold Vagram.pivotRow EM;rw[yo];have b:∀l:List Nat,(∀i∈l,i<h)->(l.find? λi=>decide (r<=i)&&!Vagraa.isZero ((mk h w A).get i c))=l.find? λi=>decide (r<=i)&&decide (A i c≠0):=λl=>by
  induction l with|nil=>intro _;rfl|cons a l g=>intro e;rw[agA,agA,g λi d=>e i (afA _ d),di A (e a afH) f,qh,decide_not]
 exact b _ λi d=>afG.mp d
def nN(a:r<h)(hs:s<h)(b:i<h):aJ r s i<h:=by unfold aJ;(repeat' split)<;>omega
theorem MG(A)(d:r<h)(hs:s<h):Vagram.swapped (mk h w A) r s=mk h w (Dn A r s):=cF λi c j a=>by
 rw[yo]at c;rw[N3]at a;unfold Dn aJ
 by_cases e:i=r
 rw[afz e,afz e,di A hs a];rw[afy e,afy e]
 by_cases b:i=s
 rw[afz b,afz b,di A d a];rw[afy b,afy b,di A c a]
theorem MH(A)(d:r<h)(f:c<w):Vagram.cleared (mk h w A) r c=mk h w (ME A r c):=cF λi a j b=>by
 rw[yo]at a;rw[N3]at b;unfold ME;show(if i=r then Vagraa.div ((mk h w A).get r j) ((mk h w A).get r c)else Vagraa.sub ((mk h w A).get i j) (Vagraa.mul ((mk h w A).get i c) (Vagraa.div ((mk h w A).get r j) ((mk h w A).get r c))))=_;rw[di A d b,di A d f,di A a b,di A a f,Ib,uv,zX]
 by_cases e:i=r
 rw[afz e,afz e];rw[afy e,afy e]
theorem pM:∀f r c A ps,c+f<=w->Vagram.reduceFrom f r c (mk h w A) ps=(mk h w (nM h f r c A ps).1,(nM h f r c A ps).2)
 |0,_,_,_,_,_=>rfl
 |f+1,r,c,A,ps,hw=>by
  unfold Vagram.reduceFrom nM;rw[KJ A (by lia)];cases e:EM h A r c with|none=>exact pM f r (c+1) A ps (by lia)|some i=>obtain⟨a,b,_⟩:=z0 e;show Vagram.reduceFrom f (r+1) (c+1) (Vagram.cleared (Vagram.swapped (mk h w A) r i) r c) (ps++[c])=_;rw[MG A (by lia) a,MH _ (by lia) (by lia)];exact pM f (r+1) (c+1) _ _ (by lia)
theorem Qa(A)(h w):Vagram.reduce (mk h w A)=(mk h w (nM h w 0 0 A []).1,(nM h w 0 0 A []).2):=pM w 0 0 A [] (by lia)
theorem Dq:∀n A,Vagram.detFrom n (mk n n A)=fr (det n A)
 |0,_=>rfl
 |n+1,A=>by
  show Vagrae.sum ((List.range (n+1)).map λj=>if j%2=0 then Vagraa.mul ((mk (n+1) (n+1) A).get 0 j) (Vagram.detFrom n (Vagram.without (mk (n+1) (n+1) A) 0 j))else Vagraa.neg (Vagraa.mul ((mk (n+1) (n+1) A).get 0 j) (Vagram.detFrom n (Vagram.without (mk (n+1) (n+1) A) 0 j))))=_;refine Ic (n+1) _ _ λj c=>?_
  have e:Vagram.without (mk (n+1) (n+1) A) 0 j=mk n n (b9 A j):=cF λi a k b=>by have a:i<n:=a;have b:k<n:=b;rw[afy (agu i)];have d:(if k<j then k else k+1)=skip j k:=rfl;rw[d,di A (ag6 a) (HX b)];rfl
  rw[e,Dq n (b9 A j),di A (ahW n) c,uv,zW];unfold qx
  by_cases q:j%2=0
  rw[afz q,afz q];congr 1;grind;rw[afy q,afy q];congr 1;grind
def SM(A)(n):Vagram.det (mk n n A)=fr (det n A):=Dq n A
def jD(h:Nat)(W:Nat->Nat->Int)(r c:Nat):Option Nat:=(List.range h).find? λi=>decide (r<=i)&&decide (W i c≠0)
def aE(W:Nat->Nat->Int)(r s:Nat):Nat->Nat->Int:=λi j=>W (aJ r s i) j
def gy(W:Nat->Nat->Int)(r c:Nat)(p:Int):Nat->Nat->Int:=λi j=>if i=r then W r j else Int.fdiv (W r c*W i j-W i c*W r j) p
def fV(h:Nat):Nat->Nat->Nat->(Nat->Nat->Int)->Int->List Nat->(Nat->Nat->Int)×Int×List Nat
 |0,_,_,W,p,a=>(W,p,a)
 |f+1,r,c,W,p,a=>match jD h W r c with
  |none=>fV h f r (c+1) W p a
  |some i=>fV h f (r+1) (c+1) (gy (aE W r i) r c p) (aE W r i r c) (a++[c])
abbrev aT(W:Nat->Nat->Int):afq:=λi j=>(W i j:Rat)
theorem nO{z:Int}:((z:Rat)≠0)↔z≠0:=by constructor;intro h q;exact h (by rw[q];rfl);intro h q;exact h (by exact_mod_cast q)
theorem yq{x p z:Int}(a:p≠0)(h:(x:Rat)/(p:Rat)=(z:Rat)):Int.fdiv x p=z:=by
 have b:(p:Rat)≠0:=nO.mpr a;have e:(x:Rat)=((z*p:Int):Rat):=by rw[af0,<-h];grind
 have c:x=z*p:=by exact_mod_cast e
 rw[c];exact Int.mul_fdiv_cancel z a
structure dN(r:Nat)(W:afq)(p:Rat)(A:afq):Prop where
 up:∀i,i<r->∀j,W i j=p*A i j
 low:∀i,r<=i->∃l:Rat,l≠0/\∀j,W i j=l*A i j
def qi(a:m<r)(b:r<=s):aJ r s m=m:=by unfold aJ;(repeat' split)<;>lia
def lO(a:r<=i)(b:r<=s):r<=aJ r s i:=by unfold aJ;(repeat' split)<;>omega
theorem dN.swap(R:dN r W p A)(hs:r<=s):dN r (λi j=>W (aJ r s i) j) p (Dn A r s)where
 up:=λi a j=>by show W (aJ r s i) j=p*A (aJ r s i) j;rw[qi a hs];exact R.up i a j
 low:=λi a=>R.low (aJ r s i) (lO a hs)
theorem dN.next(R:dN r W p A)(s:p≠0)(f:W r d≠0):
  dN (r+1) (λi j=>if i=r then W r j else(W r d*W i j-W i d*W r j)/p) (W r d) (ME A r d):=by
 obtain⟨l,t,b⟩:=R.low r (afI r);have u:A r d≠0:=λq=>f (by rw[b d,q];grind)
 have c:=b d;constructor;intro i h j;show(if i=r then W r j else _)=W r d*(if i=r then A r j/A r d else A i j-A i d*(A r j/A r d));have g:=b j
 by_cases e:i=r
 rw[afz e,afz e,g,c];grind;rw[afy e,afy e];have k:=R.up i (by lia) j;have n:=R.up i (by lia) d;rw[k,n,g,c];grind;intro i h;obtain⟨m,o,a⟩:=R.low i (by lia);refine⟨W r d*m/p,?_,λj=>?_⟩;intro q;have:W r d*m=0:=by grind
 rcases agk.mp this with z|z;exact f z;exact o z;show(if i=r then W r j else _)=W r d*m/p*(if i=r then A r j/A r d else A i j-A i d*(A r j/A r d));rw[afy (by lia),afy (by lia),a j,a d,b j,c];grind
theorem V6{h r c}{W:Nat->Nat->Int}{p}{A}(R:dN r (aT W) p A):jD h W r c=EM h A r c:=by
 unfold jD EM;congr 1;funext i
 by_cases e:r<=i
 rw[af7 e,aiJ,aiJ];obtain⟨l,d,f⟩:=R.low i e;have q:W i c≠0↔A i c≠0:=by rw[<-nO,show((W i c:Int):Rat)=l*A i c from f c];constructor;intro a b;exact a (by rw[b];grind);intro a b;rcases agk.mp b with z|z;exact d z;exact a z
 exact ahD.mpr q;rw[aga e,ahz,ahz]
theorem Ig{h:Nat}:∀(f r c:Nat)(W:Nat->Nat->Int)(p:Int)A ps M cs,r=ps.length->(∀i j,bQ (M i j))->eo r M cs (aT W) p->dN r (aT W) p A->(fV h f r c W p ps).2.2=(nM h f r c A ps).2/\(fV h f r c W p ps).2.1≠0/\dN (nM h f r c A ps).2.length (aT (fV h f r c W p ps).1) (fV h f r c W p ps).2.1 (nM h f r c A ps).1
 |0,r,c,W,p,A,ps,M,cs,o,t,S,R=>⟨rfl,nO.mp S.nz,by subst o;exact R⟩
 |f+1,r,c,W,p,A,ps,M,cs,o,t,S,R=>by
  unfold fV nM;rw[V6 R];cases e:EM h A r c with
  |none=>exact Ig f r (c+1) W p A ps M cs o t S R
  |some i=>
   obtain⟨X,v,C⟩:=z0 e;have E:=S.rows (aJ r i) (λm F=>qi F v) λk G=>lO G v
   have w:=R.swap v;have x:((aE W r i r c:Int):Rat)≠0:=by
    obtain⟨l,H,hw⟩:=w.low r (afI r);have hw:=hw c;have I:Dn A r i r c=A i c:=by unfold Dn aJ;rw[afz rfl]
    rw[I]at hw;intro q;have q:((W (aJ r i r) c:Int):Rat)=0:=q;rw[show((W (aJ r i r) c:Int):Rat)=l*A i c from hw]at q;rcases agk.mp q with z|z;exact H z;exact C z
   have y:=E.next (d:=c) x;have R2:=w.next S.nz x;have N:p≠0:=nO.mp S.nz;have B:(λg j=>if g=r then aT (aE W r i) r j else(aT (aE W r i) r c*aT (aE W r i) g j-aT (aE W r i) g c*aT (aE W r i) r j)/(p:Rat))=aT (gy (aE W r i) r c p):=by
    funext g j;have P:=y.whole (h:=g+r+1) (λa _ b=>t (aJ r i a) b) (by lia) (show g<g+r+1 by lia) j;obtain⟨z,n⟩:=P;have n:(if g=r then aT (aE W r i) r j else(aT (aE W r i) r c*aT (aE W r i) g j-aT (aE W r i) g c*aT (aE W r i) r j)/(p:Rat))=(z:Rat):=n;show _=((gy (aE W r i) r c p g j:Int):Rat);unfold gy
    by_cases u:g=r
    rw[afz u,afz u];rw[afy u]at n|-;rw[afy u,n];congr 1;refine(yq N ?_).symm;rw[<-n,ahd,af0,af0]
   have Q:eo (r+1) (λg j=>M (aJ r i g) j) (λs=>if s=r then c else cs s) (aT (gy (aE W r i) r c p)) ((aE W r i r c:Int):Rat):=by rw[<-B];exact y
   have T:dN (r+1) (aT (gy (aE W r i) r c p)) ((aE W r i r c:Int):Rat) (ME (Dn A r i) r c):=by rw[<-B];exact R2
   exact Ig f (r+1) (c+1) _ _ _ (ps++[c]) _ _ (by rw[afM,o];rfl) (λa b=>t _ b) Q T
theorem Aa:∀f r c A ps,r=ps.length->(∀i,r<=i->i<h->∀j,j<c->A i j=0)->
  ∀i,(nM h f r c A ps).2.length<=i->i<h->∀j,j<c+f->(nM h f r c A ps).1 i j=0
 |0,r,c,A,ps,g,z=>λi b a j d=>by refine z i ?_ a j d;rw[g];exact b
 |f+1,r,c,A,ps,g,z=>by
  unfold nM;cases e:EM h A r c with
  |none=>
   have q:=Aa (h:=h) f r (c+1) A ps g λi b a j d=>by
    by_cases l:j=c
    subst l;exact P9 e a b;exact z i b a j (by lia)
   exactλi b a j d=>q i b a j (by lia)
  |some k=>
   obtain⟨n,o,p⟩:=z0 e;have m:∀i,r<=i->i<h->∀j,j<c->Dn A r k i j=0:=λi b a j d=>z (aJ r k i) (lO b o) (nN (by lia) n a) j d
   have s:Dn A r k r c≠0:=by unfold Dn aJ;rw[afz rfl];exact p
   have q:=Aa (h:=h) f (r+1) (c+1) (ME (Dn A r k) r c) (ps++[c]) (by rw[afM,g];rfl) λi b a j d=>by
    unfold ME;rw[afy (by lia)]
    by_cases l:j=c
    subst l;grind;rw[m i (by lia) a j (by lia),m r (afI r) (by lia) j (by lia)];grind
   exactλi b a j d=>q i b a j (by lia)
theorem Qc(h w)(W:Nat->Nat->Int)(A)(d:∀i,∃l:Rat,l≠0/\∀j,(W i j:Rat)=l*A i j): (fV h w 0 0 W 1 []).2.2=(nM h w 0 0 A []).2/\(fV h w 0 0 W 1 []).2.1≠0/\∀i,i<h->∀j,j<w->((fV h w 0 0 W 1 []).1 i j:Rat)=(fV h w 0 0 W 1 []).2.1*(nM h w 0 0 A []).1 i j:=by
 obtain⟨e,f,b⟩:=Ig (h:=h) w 0 0 W 1 A [] (aT W) (λ_=>0) rfl (λi j=>⟨W i j,rfl⟩) (eo.start _ _) ⟨λi a=>absurd a (agu i),λi _=>d i⟩;refine⟨e,f,λi a j c=>?_⟩
 by_cases q:i<(nM h w 0 0 A []).2.length
 exact b.up i q j;obtain⟨l,_,g⟩:=b.low i (aid q);have z:=Aa (h:=h) w 0 0 A [] rfl (λi _ _ j c=>absurd c (agu j)) i (aid q) a j (by lia);rw[show((fV h w 0 0 W 1 []).1 i j:Rat)=l*(nM h w 0 0 A []).1 i j from g j,z];grind
def ev:List Rat->Rat->Rat|[],_=>0|a::l,x=>a+x*ev l x
abbrev co(l:List Rat)(k:Nat):Rat:=l.getD k 0
def iV:List Rat->List Rat->List Rat|[],m=>m|l,[]=>l|a::l,b::m=>(a+b)::iV l m
def rE(k:Nat):co [] k=0:=by simp[co]
def BK(a)(l:List Rat):co (a::l) 0=a:=rfl
def u0(a)(l:List Rat)(k):co (a::l) (k+1)=co l k:=rfl
theorem uw:∀(l m:List Rat)k,co (iV l m) k=co l k+co m k|[],m,k=>by rw[rE];show co m k=_;grind|a::l,[],k=>by rw[rE];show co (a::l) k=_;grind|a::l,b::m,0=>rfl|a::l,b::m,k+1=>by show co (iV l m) k=co l k+co m k;exact uw l m k
theorem nP:∀l m x,ev (iV l m) x=ev l x+ev m x|[],m,x=>by show ev m x=0+_;grind|a::l,[],x=>by show ev (a::l) x=_+0;grind|a::l,b::m,x=>by show(a+b)+x*ev (iV l m) x=(a+x*ev l x)+(b+x*ev m x);rw[nP l m x];grind
theorem KL:∀l m,l.length<=n->m.length<=n->(iV l m).length<=n:=by
 induction n with
 |zero=>
  intro l m c d;cases l with|nil=>exact d|cons a l=>simp at c
 |succ n e=>
  intro l m c d;cases l with
  |nil=>exact d
  |cons a l=>
   cases m with
   |nil=>exact c
   |cons b m=>
    show(iV l m).length+1<=n+1;have:=e l m (by simp at c;lia) (by simp at d;lia)
    lia
def Ab(c:Rat)(l:List Rat):List Rat:=l.map λa=>c*a
theorem oM(c):∀(l:List Rat)k,co (Ab c l) k=c*co l k|[],k=>by show co [] k=_;rw[rE];grind|a::l,0=>rfl|a::l,k+1=>oM c l k
theorem oO(c x):∀l:List Rat,ev (Ab c l) x=c*ev l x|[]=>by show(0:Rat)=c*0;grind|a::l=>by show c*a+x*ev (Ab c l) x=c*(a+x*ev l x);rw[oO c x l];grind
def KN(c)(l:List Rat):(Ab c l).length=l.length:=by simp[Ab]
def ux(l)(x):ev (0::l) x=x*ev l x:=by show 0+x*ev l x=_;grind
theorem N5(l:List Rat):ev l 0=co l 0:=by
 cases l with|nil=>rfl|cons a l=>show a+0*_=a;grind
def MI(h:l.length<=k):co l k=0:=by simp[co,List.getD,List.getElem?_eq_none h]
def dbl:Rat->List Rat->List Rat|_,[]=>[]|c,a::l=>(c-1)*a::dbl (2*c) l
theorem SN(x):∀l c,ev (dbl c l) x=c*ev l (2*x)-ev l x|[],c=>by show(0:Rat)=c*0-0;grind|a::l,c=>by show(c-1)*a+x*ev (dbl (2*c) l) x=c*(a+2*x*ev l (2*x))-(a+x*ev l x);rw[SN x l (2*c)];grind
theorem N6:∀l c,(dbl c l).length=l.length|[],_=>rfl|a::l,c=>by show(dbl (2*c) l).length+1=l.length+1;rw[N6 l]
theorem KO:∀(l:List Rat)c,2<=c->(∀k,co (dbl c l) k=0)->∀k,co l k=0
 |[],_,_,_,k=>rE k
 |a::l,c,b,h,0=>by have:=h 0;rw[dbl,BK]at this;rw[BK];rcases agk.mp this with z|z;grind;exact z
 |a::l,c,b,h,k+1=>by rw[u0];exact KO l (2*c) (by grind) (λk=>h (k+1)) k
theorem FP:∀n(l:List Rat),l.length<=n->(∀x,x≠0->ev l x=0)->∀k,co l k=0
 |_,[],_,_,k=>rE k
 |0,a::l,h,_,_=>by simp at h
 |n+1,a::l,h,e,k=>by
  have d:∀k,co l k=0:=by
   refine KO l 2 (by decide) (FP n (dbl 2 l) (by rw[N6];simp at h;omega) λx c=>?_);have e1:a+x*ev l x=0:=e x c;have j:a+(2*x)*ev l (2*x)=0:=e (2*x) (by intro z;exact c (by grind));rw[SN];have f:x*(2*ev l (2*x)-ev l x)=0:=by grind
   rcases agk.mp f with z|z;exact absurd z c;exact z
  have g:ev l 1=0:=by
   have:∀l,(∀k,co l k=0)->ev l 1=0:=λl=>by
    induction l with|nil=>intro _;rfl|cons b l i=>intro h;show b+1*ev l 1=0;rw[i λk=>h (k+1)];have:b=0:=h 0;grind
   exact this l d
  cases k with|zero=>have:a+1*ev l 1=0:=e 1 (by decide);rw[g]at this;show a=0;grind|succ k=>exact d k
theorem Ih(h:∀x,x≠0->ev l x=ev m x)(k:Nat):co l k=co m k:=by have z:=FP _ (iV l (Ab (-1) m)) (afI _) (λx a=>by rw[nP,oO,h x a];grind) k;rw[uw,oM]at z;grind
def W4:List Rat->List Rat|[]=>[]|_::l=>iV l (0::W4 l)
theorem SO:∀(l:List Rat)k,co (W4 l) k=((k:Rat)+1)*co l (k+1)|[],k=>by rw[rE];show co [] k=_;rw[rE];grind|a::l,0=>by rw[W4,uw,BK,u0];simp;grind|a::l,k+1=>by rw[W4,uw,u0,u0,SO l k];simp;grind
theorem KP(x):∀l:List Rat,∃H,ev H 0=ev (W4 l) x/\∀t,ev l (x+t)-ev l x=t*ev H t|[]=>⟨[],rfl,λt=>by show(0:Rat)-0=t*0;grind⟩|a::l=>by obtain⟨H,b,c⟩:=KP x l;refine⟨iV (Ab x H) (iV [ev l x] (0::H)),?_,λt=>?_⟩;rw[nP,nP,oO,ux,W4,nP,ux,b];show x*ev (W4 l) x+(ev l x+0*0+0*ev (W4 l) x)=_;grind;rw[nP,nP,oO,ux];have:=c t;show a+(x+t)*ev l (x+t)-(a+x*ev l x)=t*(x*ev H t+(ev l x+t*0+t*ev H t));grind
def Ii:Nat->(Nat->List Rat)->List Rat|0,_=>[]|n+1,f=>iV (Ii n f) (f n)
theorem u5(x)(f):∀n,ev (Ii n f) x=aF n λj=>ev (f j) x|0=>rfl|n+1=>by rw[Ii,nP,u5 x f n];rfl
theorem yr(k)(f:Nat->List Rat):∀n,co (Ii n f) k=aF n λj=>co (f j) k|0=>rE k|n+1=>by rw[Ii,uw,yr k f n];rfl
theorem KQ(h:∀j,(f j).length<=m):∀n,(Ii n f).length<=m|0=>agQ _|n+1=>KL _ _ (KQ h n) (h n)
def yt:Nat->(afq)->(afq)->List Rat|0,_,_=>[1]|n+1,a,B=>Ii (n+1) λj=>iV (Ab (qx j*B 0 j) (yt n (b9 a j) (b9 B j))) (0::Ab (qx j*a 0 j) (yt n (b9 a j) (b9 B j)))
theorem BL(x):∀n(a B:afq),ev (yt n a B) x=det n λi j=>x*a i j+B i j
 |0,_,_=>by show(1:Rat)+x*0=1;grind
 |n+1,a,B=>by
  rw[yt,u5];unfold det;refine az λj _=>?_
  rw[nP,ux,oO,oO,BL x n (b9 a j) (b9 B j)];show _=qx j*(x*a 0 j+B 0 j)*det n (λi k=>x*b9 a j i k+b9 B j i k);grind
theorem uy:∀n(a B:afq),(yt n a B).length<=n+1|0,_,_=>afI _|n+1,a,B=>by refine KQ (λj=>KL _ _ ?_ ?_) _;rw[KN];have:=uy n (b9 a j) (b9 B j);lia;rw[af5,KN];have:=uy n (b9 a j) (b9 B j);lia
theorem KR:∀n(a B:afq),co (yt n a B) n=det n a
 |0,_,_=>rfl
 |n+1,a,B=>by
  rw[yt,yr];unfold det;refine az λj _=>?_
  rw[uw,oM,u0,oM,KR n,MI (uy n _ _)];grind
theorem bQ.zero:bQ 0:=⟨0,rfl⟩
theorem Dr:∀n(a B:afq),(∀i j,bQ (a i j))->(∀i j,bQ (B i j))->∀k,bQ (co (yt n a B) k)
 |0,_,_,_,_,0=>⟨1,rfl⟩
 |0,_,_,_,_,k+1=>by show bQ (co [] k);rw[rE];exact bQ.zero
 |n+1,a,B,b,c,k=>by
  rw[yt,yr];refine bQ.sum λj _=>?_
  have d:=Dr n (b9 a j) (b9 B j) (λi l=>b _ _) (λi l=>c _ _);rw[uw,oM];refine bQ.add (((bQ.qx j).mul (c 0 j)).mul (d k)) ?_;cases k with|zero=>exact bQ.zero|succ k=>rw[u0,oM];exact((bQ.qx j).mul (b 0 j)).mul (d k)
theorem N7(M)(b:c<n)(a:Nat->Rat)(u:afq):∀m,det n (aD M c λi=>aF m λt=>a t*u t i)=aF m λt=>a t*det n (aD M c (u t))
 |0=>by
  refine yk b λi _=>?_
  unfold aD;rw[afz rfl];rfl
 |m+1=>by
  have e:(λi=>aF (m+1) λt=>a t*u t i)=λi=>(aF m λt=>a t*u t i)+a m*u m i:=rfl
  rw[e,uY _ _ _ b,N7 M b a u m,Di _ _ _ b];rfl
def xA(A:afq)(x:Rat):afq:=λi j=>x*cg i j+-A i j
def nQ(i:Nat):Nat->Rat:=λr=>cg r i
theorem V7(M)(a:c<n)(b:j<n):aF n (λi=>M i j*det n (aD M c (nQ i)))=cg c j*det n M:=by
 rw[<-N7 M a (λi=>M i j) nQ n];have e:det n (aD M c λi=>aF n λt=>M t j*nQ t i)=det n (aD M c λi=>M i j):=eg λi d k _=>by
  unfold aD
  by_cases h:k=c
  rw[afz h,afz h];show(aF n λt=>M t j*nQ t i)=M i j;rw[nI (k:=i) d λt _ f=>?_];unfold nQ cg;rw[afz rfl];grind;unfold nQ cg;rw[afy λq=>f q.symm];grind;rw[afy h,afy h]
 rw[e]
 by_cases h:c=j
 subst h;rw[gF];unfold cg;rw[afz rfl];grind;rw[yj a b h λi _=>?_];unfold cg;rw[afy h];grind;unfold aD;rw[afz rfl,afy λq=>h q.symm]
def N8(n:Nat)(A:afq):List Rat:=yt n cg λi j=>-A i j
def yW(n:Nat)(A:afq)(c i:Nat):List Rat:=yt n (aD cg c λ_=>0) (aD (λi j=>-A i j) c (nQ i))
def MJ(n)(A:afq)(x):ev (N8 n A) x=det n (xA A x):=BL x n _ _
theorem MK(n)(A:afq)(c i)(x):ev (yW n A c i) x=det n (aD (xA A x) c (nQ i)):=by
 unfold yW;rw[BL];congr 1;funext r k;unfold aD xA
 by_cases h:k=c
 rw[afz h,afz h,afz h];grind;rw[afy h,afy h,afy h]
theorem KS(A:afq)(b:c<n)(a:j<n)(k):co (0::yW n A c j) k=aF n (λi=>co (yW n A c i) k*A i j)+cg c j*co (N8 n A) k:=by
 have e:=Ih (l:=iV (0::yW n A c j) (Ii n λi=>Ab (-A i j) (yW n A c i))) (m:=Ab (cg c j) (N8 n A)) (λx _=>by
  rw[nP,ux,u5,oO,MJ,<-V7 (xA A x) b a,MK];have d:(aF n λi=>ev (Ab (-A i j) (yW n A c i)) x)=aF n λi=>-A i j*det n (aD (xA A x) c (nQ i)):=az λi _=>by rw[oO,MK]
  have f:(aF n λi=>xA A x i j*det n (aD (xA A x) c (nQ i)))=aF n (λi=>x*cg i j*det n (aD (xA A x) c (nQ i)))+aF n λi=>-A i j*det n (aD (xA A x) c (nQ i)):=by rw[<-lN];exact az λi _=>by unfold xA;grind
  have g:(aF n λi=>x*cg i j*det n (aD (xA A x) c (nQ i)))=x*det n (aD (xA A x) c (nQ j)):=by rw[nI (n:=n) (k:=j) a λi _ h=>?_];unfold cg;rw[afz rfl];grind;unfold cg;rw[afy h];grind
  rw[d,f,g]) k
 rw[uw,yr,oM]at e;have o:(aF n λi=>co (Ab (-A i j) (yW n A c i)) k)=-aF n λi=>co (yW n A c i) k*A i j:=by rw[<-yi];exact az λi _=>by rw[oM];grind
 rw[o]at e;grind
theorem Ij(A:afq)(a:c<n)(b:j<n)(k):co (yW n A c j) k=aF n (λi=>co (yW n A c i) (k+1)*A i j)+cg c j*co (N8 n A) (k+1):=KS A a b (k+1)
def ML(M:afq)(c:Nat)(t:Rat):afq:=λi j=>if j<c then M i j+t*cg i j else M i j
theorem KU(M:afq)(t):∀m,m<=n->det n (ML M m t)-det n M=t*aF m λc=>det n (aD (ML M c t) c (nQ c))
 |0,_=>by
  have e:ML M 0 t=M:=by funext i j;unfold ML;rw[afy (agu j)]
  rw[e];show _=t*0;grind
 |m+1,h=>by
  have b:=KU (n:=n) M t m (by lia);have e1:ML M (m+1) t=aD (ML M m t) m λi=>1*ML M m t i m+t*nQ m i:=by
   funext i j;unfold ML aD nQ
   by_cases q:j=m
   subst q;simp only[if_true,Nat.lt_succ_self,Nat.lt_irrefl,if_false];grind
   by_cases a:j<m
   simp only[q,if_false,a,if_true,show j<m+1 by lia];simp only[q,if_false,a,show¬j<m+1 by lia]
  rw[e1,BI _ _ _ _ _ (by lia),gF];show _=t*(aF m _+_);grind
theorem Qd(A:afq)(k):aF n (λc=>co (yW n A c c) k)=((k:Rat)+1)*co (N8 n A) (k+1):=by
 rw[<-SO,<-yr k (λc=>yW n A c c) n];refine Ih (λx _=>?_) k;obtain⟨H,d,f⟩:=KP x (N8 n A);have a:∀c t,ev (yt n (aD (λi j=>if j<c then cg i j else 0) c λ_=>0) (aD (xA A x) c (nQ c))) t=det n (aD (ML (xA A x) c t) c (nQ c)):=λc t=>by
  rw[BL];congr 1;funext i j;unfold aD ML
  by_cases q:j=c
  rw[afz q,afz q,afz q];grind;rw[afy q,afy q,afy q]
  by_cases b:j<c
  simp only[b,if_true];grind;simp only[b,if_false];grind
 have e:=Ih (l:=H) (m:=Ii n λc=>yt n (aD (λi j=>if j<c then cg i j else 0) c λ_=>0) (aD (xA A x) c (nQ c))) (λt g=>by
  have e1:=f t;rw[MJ,MJ]at e1;have h:=KU (n:=n) (xA A x) t n (afI n);have o:det n (ML (xA A x) n t)=det n (xA A (x+t)):=eg λi _ j p=>by unfold ML xA;rw[afz p];grind
  rw[o,e1]at h;rw[u5];have r:(aF n λc=>ev (yt n (aD (λi j=>if j<c then cg i j else 0) c λ_=>0) (aD (xA A x) c (nQ c))) t)=aF n λc=>det n (aD (ML (xA A x) c t) c (nQ c)):=az λc _=>a c t
  rw[r];have s:t*(ev H t-aF n λc=>det n (aD (ML (xA A x) c t) c (nQ c)))=0:=by grind
  rcases agk.mp s with z|z;exact absurd z g;grind) 0
 rw[<-d,N5,e,<-N5,u5,u5];refine az λc _=>?_
 rw[a,MK];congr 2;funext i j;unfold ML
 by_cases q:j<c
 rw[afz q];grind;rw[afy q]
theorem KW:∀n,det n cg=1|0=>rfl|n+1=>by rw[Dj λi a=>by unfold cg;rw[afy (by lia)],KW n];unfold cg;rw[afz rfl];grind
theorem MM(i j):bQ (cg i j):=by
 unfold cg
 by_cases h:i=j
 rw[afz h];exact⟨1,rfl⟩;rw[afy h];exact⟨0,rfl⟩
theorem bQ.neg'(h:bQ a):bQ (-a):=by obtain⟨z,rfl⟩:=h;exact⟨-z,by simp⟩
def Qe(h:∀i j,bQ (A i j))(k:Nat):bQ (co (N8 n A) k):=Dr n _ _ MM (λi j=>(h i j).neg') k
def V8(n)(A:afq):co (N8 n A) n=1:=by unfold N8;rw[KR,KW]
theorem FQ(n)(f:Nat->Rat)(j)(a:j<n):aF n (λt=>f t*cg t j)=f j:=by rw[nI (k:=j) a λt _ b=>?_];unfold cg;rw[afz rfl];grind;unfold cg;rw[afy b];grind
theorem wM(n)(f:Nat->Rat)(i)(a:i<n):aF n (λt=>cg i t*f t)=f i:=by rw[nI (k:=i) a λt _ b=>?_];unfold cg;rw[afz rfl];grind;unfold cg;rw[afy λq=>b q.symm];grind
theorem Ds(n)(A B C)(i j):mulR n (mulR n A B) C i j=mulR n A (mulR n B C) i j:=by
 unfold mulR;have e1:(λk=>(aF n λt=>A i t*B t k)*C k j)=λk=>aF n λt=>A i t*B t k*C k j:=by funext k;have:=cQ (C k j) (λt=>A i t*B t k) n;rw[air,<-this];congr 1;funext t;grind
 have a:(λk=>A i k*aF n λt=>B k t*C t j)=λk=>aF n λt=>A i k*B k t*C t j:=by funext k;rw[<-cQ];congr 1;funext t;grind
 rw[e1,a,uX]
theorem Dt(c):∀n,aF n (λ_=>c)=(n:Rat)*c|0=>by show(0:Rat)=_;simp|n+1=>by show aF n _+c=_;rw[Dt c n];simp;grind
theorem EN{n k j:Nat}(A)(h:k+j=n):aF n (λi=>aF n λl=>A i l*co (yW n A l i) j)=-((k:Rat)*co (N8 n A) j):=by
 have e0:aF n (λi=>aF n λl=>A i l*co (yW n A l i) j)=aF n (λc=>aF n λi=>co (yW n A c i) j*A i c):=by rw[uX];refine az λc _=>az λi _=>air _ _
 have e1:aF n (λc=>co (0::yW n A c c) j)=aF n (λc=>aF n λi=>co (yW n A c i) j*A i c)+(n:Rat)*co (N8 n A) j:=by
  rw[<-Dt,<-lN];refine az λc a=>?_
  rw[KS A a a];unfold cg;rw[afz rfl];grind
 have b:aF n (λc=>co (0::yW n A c c) j)=(j:Rat)*co (N8 n A) j:=by
  cases j with|zero=>rw[jK λc _=>BK _ _];simp|succ j=>have:=Qd (n:=n) A j;rw[show(λc=>co (0::yW n A c c) (j+1))=λc=>co (yW n A c c) j from rfl,this];simp
 have d:(n:Rat)=(k:Rat)+(j:Rat):=by rw[<-h];simp
 rw[e0];rw[b,d]at e1;grind
theorem Qg(A)(a:c<n+1)(b:j<n+1):co (yW (n+1) A c j) n=cg c j:=by
 have z:∀i,i<n+1->co (yW (n+1) A c i) (n+1)=0:=λi d=>by rw[Ij A a d,MI (l:=N8 (n+1) A) (uy _ _ _),jK λt _=>?_];grind;rw[MI (l:=yW (n+1) A c t) (uy _ _ _)];grind
 rw[Ij A a b,V8,jK λt e=>?_];grind;rw[z t e];grind
end Ex
namespace Fx
local macro_rules| `(tactic|simp!$[only%$o]?$[[$a,*]]?$[$l:location]?)=> `(tactic|simp-implicitDefEqProofs$[only%$o]?$[[$a,*]]?$[$l]?)
open PySem DL Ev
section
variable{α β:Type}{ρ:ak}{f g:ak->M D}{fs:ak->M (List D)}{k:afw}{t u:ak->M Bool}
@[simp]theorem bq (a) (f:α->M β):((Except.ok a:M α)>>=f)=f a:=rfl
@[simp]theorem adT (c) (f:α->M β):((Except.error c:M α)>>=f)=.error c:=rfl
@[simp]theorem abf (f:α->M β):((ao:M α)>>=f)=ao:=rfl
@[simp]theorem ZX (c) (f:α->M β):((raises c:M α)>>=f)=raises c:=rfl
@[simp]theorem lZ (f g):aq f g ρ=(f ρ>>=JK g):=rfl
@[simp]theorem rF (g):JK g (.nx ρ)=g ρ:=rfl
@[simp]theorem abZ (g) (d):JK g (.rt d ρ)=.ok (.rt d ρ):=rfl
@[simp]theorem ab0 (g):JK g (.bk ρ)=.ok (.bk ρ):=rfl
@[simp]theorem ab1 (g):JK g (.ct ρ)=.ok (.ct ρ):=rfl
@[simp]theorem ab2:bV ρ=.ok (.nx ρ):=rfl
@[simp]theorem wN (i):aU i f ρ=(f ρ>>=λd=>.ok (.nx (ρ.set i (~~~d)))):=rfl
@[simp]theorem adU:bF f ρ=(f ρ>>=λd=>.ok (.rt d ρ)):=rfl
@[simp]theorem ab3:YQ ρ=.ok (.rt .cK ρ):=rfl
@[simp]theorem abg (C):dI C ρ=raises C:=rfl
@[simp]theorem ab4:NQ ρ=.ok (.ct ρ):=rfl
@[simp]theorem abh:G9 ρ=.ok (.bk ρ):=rfl
@[simp]theorem aeA:pY f ρ=(f ρ>>=λ_=>.ok (.nx ρ)):=rfl
@[simp]theorem adV (a b):dH t a b ρ=(t ρ>>=λq=>if q then a ρ else b ρ):=rfl
@[simp]theorem aeB:GX t f g ρ=(t ρ>>=λq=>if q then f ρ else g ρ):=rfl
@[simp]theorem iE (i) (h:ρ[i]?=some (~~~d)):O i ρ=.ok d:=by unfold O;rw[h]
@[simp]theorem SQ (d):aG d ρ=.ok d:=rfl
@[simp]theorem SS (h):aL h f g ρ=(f ρ>>=λx=>g ρ>>=λy=>h x y):=rfl
@[simp]theorem nP (i j):kC (.int i) (.int j)=.ok (.int (i+j)):=rfl
@[simp]theorem adW (i j):JH (.int i) (.int j)=.ok (.int (i-j)):=rfl
@[simp]theorem iR (i j) (h:xm i j=true):gX (.int i) (.int j)=.ok (.int (i*j)):=afz h
@[simp]theorem MN (i j) (h:j≠0):GW (.int i) (.int j)=.ok (.int (i.fmod j)):=afy h
@[simp]theorem u6 (i j) (h:j≠0):oj (.int i) (.int j)=.ok (.int (i.fdiv j)):=afy h
@[simp]theorem adX:Eo f ρ=(f ρ>>=U5):=rfl
@[simp]theorem ab5 (i):U5 (.int i)=.ok (.int (-i)):=rfl
@[simp]theorem Ik:af ρ=.ok []:=rfl
@[simp]theorem yu:U f fs ρ=(f ρ>>=λd=>fs ρ>>=λds=>.ok (d::ds)):=rfl
@[simp]theorem N9 (k):aa fs k ρ=(fs ρ>>=k):=rfl
@[simp]theorem V9 (n) (h) (ds) (e:ds.length=n):ah n h ds=h ds:=afz e
@[simp]theorem adY (ds) (h:ds.length<=16777216):eS ds=.ok (.tup ds):=afz h
@[simp]theorem adZ (ds) (h:ds.length<=16777216):dB ds=.ok (.lst ds):=afz h
@[simp]theorem rG (a b) (h:a.length+b.length<=16777216):iV (.lst a) (.lst b)=.ok (.lst (a++b)):=afz h
@[simp]theorem Zf (p):eL p f g ρ=(f ρ>>=λx=>g ρ>>=λy=>Pb p x y):=rfl
@[simp]theorem Wa (p) (i j):Pb p (.int i) (.int j)=.ok (p i j):=rfl
@[simp]theorem ab6:kD t ρ=(t ρ>>=λb=>.ok (.bl b)):=rfl
@[simp]theorem ad0:JY f ρ=(f ρ>>=λd=>.ok (Uc d)):=rfl
@[simp]theorem ab7:Uc .cK=true:=rfl
@[simp]theorem ab8 (i):Uc (.int i)=false:=rfl
@[simp]theorem ab9 (C) (xs) (ds):Uc (.obj C xs ds)=false:=rfl
@[simp]theorem aeC:Yk t u ρ=(t ρ>>=λb=>if b then .ok true else u ρ):=rfl
@[simp]theorem ad1:Rv t u ρ=(t ρ>>=λb=>if b then u ρ else .ok false):=rfl
@[simp]theorem ad2:R9 t ρ=(t ρ>>=λb=>.ok (!b)):=rfl
@[simp]theorem acd:zm f ρ=(f ρ>>=Pn):=rfl
@[simp]theorem ace (b):Pn (.bl b)=.ok b:=rfl
@[simp]theorem yw (i):eO (.int i)=.ok i:=rfl
@[simp]theorem KX (l):mW (.lst l)=.ok l:=rfl
@[simp]theorem abi (l):El (.lst l)=.ok l:=rfl
@[simp]theorem abj (l):El (.arr l)=.ok l:=rfl
@[simp]theorem acf (l) (i):ay (.tup l) (.int i)=l6 l i:=rfl
@[simp]theorem Wb (l) (i):ay (.lst l) (.int i)=l6 l i:=rfl
@[simp]theorem acg (l) (i):ay (.arr l) (.int i)=l6 l i:=rfl
def sf(l)(n:Nat)(h:l[n]?=some d):l6 l (n:Int)=.ok d:=by unfold l6;rw[L2.UH h]
@[simp]theorem Zg (a:D) (l):l6 (a::l) 0=.ok a:=sf (a::l) 0 rfl
@[simp]theorem Zh (a b:D) (l):l6 (a::b::l) 1=.ok b:=sf (a::b::l) 1 rfl
@[simp]theorem Zi (a b c:D) (l):l6 (a::b::c::l) 2=.ok c:=sf (a::b::c::l) 2 rfl
@[simp]theorem ad3 (a b c d:D) (l):l6 (a::b::c::d::l) 3=.ok d:=sf (a::b::c::d::l) 3 rfl
@[simp]theorem Zj (C) (x):aB C x f ρ=(f ρ>>=fX C x):=rfl
@[simp]theorem ach (l):iw [.lst l]=.ok (.int l.length):=rfl
@[simp]theorem aci (l):iw [.arr l]=.ok (.int l.length):=rfl
@[simp]theorem ad4 (i):Pc [.int i]=.ok (.int (if i<0 then-i else i)):=rfl
@[simp]theorem acj:NP f ρ=(f ρ>>=NH):=rfl
@[simp]theorem abk (i):NH (.int i)=.ok (.int (Builtin.Int.intBits i)):=rfl
@[simp]theorem Zk (i):xy i fs ρ=(fs ρ>>=λds=>if ds.length<=sizeLine then .ok (.nx (ρ.set i (some (.ow ds))))else ao):=rfl
@[simp]theorem ack (i):qE i fs ρ=(fs ρ>>=λds=>.ok (.nx (ρ.set i (some (.ow ds))))):=rfl
@[simp]theorem abl (i) (h:ρ[i]?=some (some (.ow ds))):ownOf i ρ=.ok ds:=by unfold ownOf;rw[h]
@[simp]theorem ad5 (i):sL i f ρ=(ownOf i ρ>>=λds=>f ρ>>=λd=>if ds.length<sizeLine then .ok (.nx (ρ.set i (some (.ow (ds++[d])))))else ao):=rfl
@[simp]theorem ad6 (i):JP i f ρ=(ownOf i ρ>>=λds=>f ρ>>=λd=>JO d>>=λa=>if ds.length+a.length<=sizeLine then .ok (.nx (ρ.set i (some (.ow (ds++a)))))else ao):=rfl
@[simp]theorem ZY (l):JO (.lst l)=.ok l:=rfl
@[simp]theorem ZZ (l):JO (.tup l)=.ok l:=rfl
@[simp]theorem ad7 (i) (k):o6 i k ρ=k (bE i ρ):=rfl
@[simp]theorem SV (i):Bg i f ρ=(f (bE i ρ)>>=AD):=rfl
@[simp]theorem acm (i):R8 i t ρ=t (bE i ρ):=rfl
@[simp]theorem Zl (a) (fZ) (b):o4 a fZ b ρ=(a ρ>>=λds=>eU fZ b ds ρ):=rfl
@[simp]theorem acn (fZ) (b):eU fZ b [] ρ=.ok (.nx ρ):=rfl
@[simp]theorem oQ (fZ) (b) (d) (ds):eU fZ b (d::ds) ρ=(WU (fZ d ρ)>>=λρ'=>b ρ'>>=wc (eU fZ b ds)):=rfl
@[simp]theorem qj (k):wc k (.nx ρ)=k ρ:=rfl
@[simp]theorem SW (k):wc k (.ct ρ)=k ρ:=rfl
@[simp]theorem SX (k):wc k (.bk ρ)=.ok (.nx ρ):=rfl
@[simp]theorem abm (k) (d):wc k (.rt d ρ)=.ok (.rt d ρ):=rfl
@[simp]theorem qk (i) (d):aI i d ρ=some (ρ.set i (~~~d)):=rfl
@[simp]theorem Z0 (is) (ds):b4 is (.tup ds) ρ=jS is ds ρ:=rfl
@[simp]theorem uz (a:α):WU (some a)=.ok a:=rfl
@[simp]theorem Oa (k):fQ fs k ρ=(fs ρ>>=k):=rfl
@[simp]theorem aco:iF f ρ=(f ρ>>=mW):=rfl
@[simp]theorem ad8:ZR fs ρ=(fs ρ>>=λout=>.ok (.lst out)):=rfl
@[simp]theorem Zm (a) (fZ) (b) (el) (vs):jM a fZ b el vs ρ=(Pf a fZ b el vs ρ>>=λout=>.ok (.lst out)):=rfl
@[simp]theorem Zn (a) (fZ) (b) (el) (vs):Pf a fZ b el vs ρ=(a ρ>>=λds=>br fZ b el (iK ρ vs) ds []):=rfl
@[simp]theorem abn:iK ρ []=ρ:=rfl
@[simp]theorem abo (v) (vs):iK ρ (v::vs)=(iK ρ vs).set v none:=rfl
@[simp]theorem ad9:bM ρ=.ok true:=rfl
@[simp]theorem abp (c) (b) (fuel):Hf c b fuel ρ=c6 c b (fuel ρ) ρ:=rfl
@[simp]theorem acp:L5 (.nx ρ)=.ok .cK:=rfl
@[simp]theorem Wc (d):L5 (.rt d ρ)=.ok d:=rfl
theorem yx(fZ:QF)(el:ak->M D)(ρ:ak)(F G)(b)(C:Addr):∀(l:List o)bY,bY.length+l.length<=16777216->(∀a∈l,∃ρ',fZ (F a) ρ=some ρ'/\el ρ'=if b a then raises C else .ok (G a))->
  br fZ bM el ρ (l.map F) bY=if l.any b then raises C else .ok (bY++l.map G)
 |[],bY,_,_=>by simp[br]
 |a::l,bY,i,h=>by
  obtain⟨ρ',e,d⟩:=h a afH;simp only[List.length_cons]at i;have j:bY.length<sizeLine:=by rw[show sizeLine=16777216 from rfl];lia
  rw[afR,agZ]
  by_cases c:b a=true
  rw[afz c]at d;simp[br,e,d,c];rw[afy c]at d;have m:=yx fZ el ρ F G b C l (bY++[G a]) (by rw[afM];simp;lia) λa n=>h a (afA _ n)
  simp only[Bool.not_eq_true]at c;simp[br,e,d,j,m,c]
theorem lP(fZ)(el)(ρ:ak)(F G)(l:List i)(bY:List D)(b:bY.length+l.length<=16777216)(h:∀a∈l,∃ρ',fZ (F a) ρ=some ρ'/\el ρ'=.ok (G a)):br fZ bM el ρ (l.map F) bY=.ok (bY++l.map G):=by have:=yx fZ el ρ F G (λ_=>false) 0 l bY b (λa c=>by obtain⟨r,d,e⟩:=h a c;exact⟨r,d,by rw[e];rfl⟩);rw[this];simp
end
def bz(i:Int)(b:Nat):Prop:=i.natAbs<2^b
theorem bz.mono(h:bz i b)(a:b<=c):bz i c:=afQ h (agS (by decide) a)
theorem bz.mul(h:bz i b)(h':bz j c):bz (i*j) (b+c):=by unfold bz at*;rw[aiA,Nat.pow_add];exact Nat.mul_lt_mul'' h h'
theorem bz.add(h:bz i b)(h':bz j b):bz (i+j) (b+1):=by
 unfold bz at*;rw[Nat.pow_succ];have:=Int.natAbs_add_le i j
 lia
theorem bz.neg(h:bz i b):bz (-i) b:=by unfold bz at*;rw[Int.natAbs_neg];exact h
theorem bz.sub(h:bz i b)(h':bz j b):bz (i-j) (b+1):=by rw[Int.sub_eq_add_neg];exact h.add h'.neg
theorem bz.fdiv(h:bz i b):bz (i.fdiv j) b:=by
 unfold bz at*;refine Nat.lt_of_le_of_lt ?_ h;rcases Int.lt_trichotomy j 0 with a|a|a;have c:i.fdiv j=(-i).fdiv (-j):=by rw[aie]
 rw[c,ahg _ (by lia),<-Int.natAbs_neg i];exact ahZ _ _;subst a;rw[Int.fdiv_zero];simp;rw[ahg _ (by lia)];exact ahZ _ _
def intBits_le(h:bz i b):Builtin.Int.intBits i<=b:=by exact intBits_le_iff.mpr h
theorem iy(h:bz i b)(h':bz j c)(a:b+c<=134217728):xm i j=true:=by unfold xm;have d:=intBits_le h;have e:=intBits_le h';exact af7 (by lia)
variable{Y:afp}
abbrev Q2:=Int×Int
noncomputable def eQ(p:Q2):D:=.tup [.int p.1,.int p.2]
def vl(p:Q2):Rat:=(p.1:Rat)/(p.2:Rat)
def lw(q:Rat):Q2:=(q.num,(q.den:Int))
def eF(q:Rat):D:=eQ (lw q)
structure sz(p:Q2)(b:Nat):Prop where
 n:bz p.1 b
 d:bz p.2 b
 z:p.2≠0
theorem KY(a b):∀(fuel m n:Nat)r,m<fuel->∃r',c6 (eL Bf (O 3) (aG (.int 0))) (aq (aU 4 (aL GW (O 2) (O 3))) (aq (aU 2 (O 3)) (aU 3 (O 4)))) fuel [a,b,~~~(.int (n:Int)),~~~(.int (m:Int)),r]=
  .ok (.nx [a,b,~~~(.int ((Nat.gcd m n:Nat):Int)),~~~.int 0,r'])
 |0,m,n,r,h=>absurd h (agu m)
 |f+1,0,n,r,h=>⟨r,by simp[c6]⟩
 |f+1,m+1,n,r,h=>by
  have c:((m+1:Nat):Int)≠0:=by lia
  have e:(n:Int).fmod ((m+1:Nat):Int)=((n%(m+1):Nat):Int):=by rw[agL _ (by lia)];rfl
  obtain⟨r',d⟩:=KY a b f (n%(m+1)) (m+1) (~~~(.int ((n%(m+1):Nat):Int))) (by have:=Nat.mod_lt n (show 0<m+1 by lia);lia);refine⟨r',?_⟩;rw[Nat.gcd_succ];have g:(0:Int)<((m+1:Nat):Int):=by lia
  simp only[c6,Zf,iE 3 (ρ:=[a,b,~~~(.int (n:Int)),~~~(.int ((m+1:Nat):Int)),r]) rfl,SQ,bq,Wa,Bf,g,decide_true,if_true,lZ,wN,SS,
   iE 2 (ρ:=[a,b,~~~(.int (n:Int)),~~~(.int ((m+1:Nat):Int)),r]) rfl,MN _ _ c,e,List.set_cons_succ,List.set_cons_zero,rF,
   iE 3 (ρ:=[a,b,~~~(.int (n:Int)),~~~(.int ((m+1:Nat):Int)),~~~(.int ((n%(m+1):Nat):Int))]) rfl,
   iE 4 (ρ:=[a,b,~~~(.int ((m+1:Nat):Int)),~~~(.int ((m+1:Nat):Int)),~~~(.int ((n%(m+1):Nat):Int))]) rfl,qj]
  exact d
theorem MO(a b):d9 Y [.int a,.int b]=.ok (.int ((Int.gcd a b:Nat):Int)):=by
 obtain⟨e,h⟩:=KY (~~~.int a) (~~~.int b) (b.natAbs+1) b.natAbs a.natAbs none (agc _);have e1:(if a<0 then-a else a)=((a.natAbs:Nat):Int):=by split<;>lia
 have c:(if b<0 then-b else b)=((b.natAbs:Nat):Int):=by split<;>lia
 have d:Nat.gcd b.natAbs a.natAbs=Int.gcd a b:=by rw[aiW];rfl
 rw[d]at h;simp[d9,aA,m7,ai,e1,c,NR,h]
def Zo(p:Q2):vl (-p.1,-p.2)=vl p:=by unfold vl;simp only[Rat.intCast_neg];grind
theorem SY{n:Int}{d:Nat}(h:d≠0):lw (vl (n,(d:Int)))=(n/(Int.gcd n d:Nat),((d:Int)/(Int.gcd n d:Nat))):=by
 have e:vl (n,(d:Int))=mkRat n d:=by unfold vl;rw[ahm,ahp]
 have a:Int.gcd n (d:Int)=Nat.gcd n.natAbs d:=by rw[Int.gcd];simp
 unfold lw;rw[e,Rat.num_mkRat,Rat.den_mkRat,afy h,afy h,a,aiW];simp
def Zp{p:Q2}:lw (vl (-p.1,-p.2))=lw (vl p):=by rw[Zo]
def yz{a b:Int}(h:0<=b):a.fdiv b=a/b:=ahg _ h
theorem ql(p)(h:p.2≠0):gY Y [eQ p]=.ok (eF (vl p)):=by
 obtain⟨n,d⟩:=p;have h:d≠0:=h;have g:(Int.gcd n d:Int)≠0:=by
  have:Int.gcd n d≠0:=λz=>h (ahu z)
  lia
 by_cases i:d<0
 obtain⟨m,c⟩:∃m:Nat,d=-(m:Int):=⟨d.natAbs,by lia⟩;subst c;have a:m≠0:=by lia
 have e1:lw (vl (n,-(m:Int)))=((-n)/(Int.gcd n m:Nat),((m:Int)/(Int.gcd n m:Nat))):=by have:=SY (n:=-n) a;rw[Int.neg_gcd]at this;rw[<-this,<-Zp];simp
 have j:Int.gcd n (-(m:Int))=Int.gcd n m:=Int.gcd_neg;rw[j]at g;have b:-((Int.gcd n m:Nat):Int)≠0:=by lia
 have e:n.fdiv (-((Int.gcd n m:Nat):Int))=(-n)/(Int.gcd n m:Nat):=by rw[show n.fdiv (-((Int.gcd n m:Nat):Int))=(-n).fdiv ((Int.gcd n m:Nat):Int)by rw[<-aie,Int.neg_neg],yz (by lia)]
 have f:(-(m:Int)).fdiv (-((Int.gcd n m:Nat):Int))=(m:Int)/(Int.gcd n m:Nat):=by rw[aie,yz (by lia)]
 have k:-(m:Int)<0:=i;simp only[gY,aA,zG,ai,eF,e1];have l:0<m:=Nat.pos_of_ne_zero a;simp[eQ,MO,j,l,b,e,f,u6 _ _ b];obtain⟨m,c⟩:∃m:Nat,d=(m:Int):=⟨d.natAbs,by lia⟩;subst c;have a:m≠0:=by lia
 have e1:=SY (n:=n) a;have e:n.fdiv ((Int.gcd n m:Nat):Int)=n/(Int.gcd n m:Nat):=yz (by lia);have f:(m:Int).fdiv ((Int.gcd n m:Nat):Int)=(m:Int)/(Int.gcd n m:Nat):=yz (by lia);simp only[gY,aA,zG,ai,eF,e1];simp[eQ,MO,i,e,f,u6 _ _ g]
theorem Wd(i):Builtin.Int.intBits i=Vagraa.bits i.natAbs:=by
 unfold Builtin.Int.intBits Vagraa.bits
 by_cases h:i=0
 subst h;rfl;rw[afy (by simpa using h),afy (by lia)]
theorem Ac(q:Rat):p8 Y [eF q]=.ok (.int ((Vagraa.weight (Ex.fr q):Nat):Int)):=by simp[p8,aA,FE,ai,eF,eQ,lw,Wd,Vagraa.weight,Ex.fr]
theorem Du(p:Q2)(h:p.2≠0):cW Y [eQ p]=if decide (2000<Vagraa.weight (Ex.fr (vl p)))then raises (Y 8)else .ok (eF (vl p)):=by
 by_cases hw:2000<Vagraa.weight (Ex.fr (vl p))
 have a:(2000:Int)<((Vagraa.weight (Ex.fr (vl p)):Nat):Int):=by omega
 simp[cW,aA,jb,ai,ql p h,Ac,hw,a];have a:¬(2000:Int)<((Vagraa.weight (Ex.fr (vl p)):Nat):Int):=by omega
 simp[cW,aA,jb,ai,ql p h,Ac,hw,a]
def fW(p q:Q2):Q2:=(p.1*q.2+q.1*p.2,p.2*q.2)
def dj(p q:Q2):Q2:=(p.1*q.1,p.2*q.2)
def Dv(p q:Q2):Q2:=(p.1*q.2,p.2*q.1)
def je(p:Q2):Q2:=(-p.1,p.2)
theorem yC(a:sz p b)(e:sz q c)(f:b+c<=134217728):pC Y [eQ p,eQ q]=.ok (eQ (fW p q)):=by simp[pC,aA,NW,ai,eQ,fW,iy a.n e.d f,iy e.n a.d (by lia),iy a.d e.d f]
def oR(p:Q2):fS Y [eQ p]=.ok (eQ (je p)):=by simp[fS,aA,AG,ai,eQ,je]
theorem sz.je(h:sz p b):sz (Fx.je p) b:=⟨h.n.neg,h.d,h.z⟩
theorem uA(a:sz p b)(d:sz q c)(e:b+c<=134217728):gI Y [eQ p,eQ q]=.ok (eQ (fW p (je q))):=by simp[gI,aA,J8,ai,oR,yC a d.je e]
theorem uB(a:sz p b)(e:sz q c)(f:b+c<=134217728):jn Y [eQ p,eQ q]=.ok (eQ (dj p q)):=by simp[jn,aA,J9,ai,eQ,dj,iy a.n e.n f,iy a.d e.d f]
theorem Ob(a:sz p b)(e:sz q c)(f:b+c<=134217728):wB Y [eQ p,eQ q]=.ok (eQ (Dv p q)):=by simp[wB,aA,NX,ai,eQ,Dv,iy a.n e.d f,iy a.d e.n f]
theorem sz.fW{p q}{b c:Nat}(a:sz p b)(e:sz q c):sz (Fx.fW p q) (b+c+1):=
 ⟨(a.n.mul e.d).add ((e.n.mul a.d).mono (by lia)),(a.d.mul e.d).mono (by lia),afW a.z e.z⟩
theorem sz.dj(a:sz p b)(e:sz q c):sz (Fx.dj p q) (b+c):=⟨a.n.mul e.n,a.d.mul e.d,afW a.z e.z⟩
theorem sz.Dv(a:sz p b)(e:sz q c)(h:q.1≠0):sz (Fx.Dv p q) (b+c):=⟨a.n.mul e.d,a.d.mul e.n,afW a.z h⟩
theorem sz.mono(h:sz p b)(a:b<=c):sz p c:=⟨h.n.mono a,h.d.mono a,h.z⟩
def gp{i:Int}(h:i≠0):(i:Rat)≠0:=λz=>h (by exact_mod_cast z)
theorem lB{p q:Q2}(a:p.2≠0)(b:q.2≠0):vl (fW p q)=vl p+vl q:=by unfold vl fW;have:=gp a;have:=gp b;simp only[Rat.intCast_add,Rat.intCast_mul];grind
def oU(p):vl (je p)=-vl p:=by unfold vl je;simp only[Rat.intCast_neg];grind
def nR(p q):vl (dj p q)=vl p*vl q:=by unfold vl dj;simp only[Rat.intCast_mul];grind
def Oc(p q):vl (Dv p q)=vl p/vl q:=by unfold vl Dv;simp only[Rat.intCast_mul];grind
def cR(q):vl (lw q)=q:=by unfold vl lw;show(q.num:Rat)/((q.den:Int):Rat)=q;rw[ahp,<-ahm,ag7]
theorem bR(q):(lw q).2≠0:=by
 unfold lw;have:=q.den_nz
 lia
noncomputable def Dy(c:Int):List Q2->Int|[]=>c|p::l=>Dy (c*p.2.fdiv (Int.gcd c p.2:Nat)) l
def eG(l:List Q2):Int:=Dy 1 l
theorem MP(h:d≠0):((Int.gcd c d:Nat):Int)≠0:=by
 have:Int.gcd c d≠0:=λz=>h (ahu z)
 lia
theorem FT(a)(b:Nat):∀l c B x y,(∀p∈l,bz p.2 b/\p.2≠0)->bz c B->B+l.length*b<=134217728->∃d e,eU (aI 2) (aq (aU 3 (aL ay (O 2) (aG (.int 1)))) (aU 1 (aL gX (O 1) (aL oj (O 3) (aa (U (O 1) (U (O 3) af)) (ah 2 (d9 Y))))))) (l.map eQ) [a,~~~.int c,x,y]=.ok (.nx [a,~~~.int (Dy c l),d,e])|[],c,B,x,y,_,_,_=>⟨x,y,rfl⟩|p::l,c,B,x,y,h,f,j=>by obtain⟨k,m⟩:=h p afH;simp only[List.length_cons,Nat.succ_mul]at j;have n:=MP (c:=c) m;have g:bz (p.2.fdiv (Int.gcd c p.2:Nat)) b:=k.fdiv;obtain⟨d,e,i⟩:=FT a b l (c*p.2.fdiv (Int.gcd c p.2:Nat)) (B+b) (~~~eQ p) (~~~.int p.2) (λq o=>h q (afA _ o)) (f.mul g) (by omega);refine⟨d,e,?_⟩;rw[afR];simp[eQ,MO,u6 _ _ n,iR _ _ (iy f g (by omega))];simp[eQ]at i;exact i
theorem rH(h:∀p∈l,bz p.2 b/\p.2≠0)(a:1+l.length*b<=134217728):aQ Y [.lst (l.map eQ)]=.ok (.int (eG l)):=by obtain⟨c,d,e⟩:=FT (Y:=Y) (~~~.lst (l.map eQ)) b l 1 1 none none h (by show Int.natAbs 1<2^1;decide) a;simp[aQ,aA,kG,ai];rw[e];simp[eG]
theorem KZ:∀{l:List Q2}{c:Int},(∀p∈l,p.2≠0)->c≠0->Dy c l≠0
 |[],c,_,h=>h
 |p::l,c,h,g=>by
  have f:=h p afH;refine KZ (l:=l) (c:=c*p.2.fdiv (Int.gcd c p.2:Nat)) (λq i=>h q (afA _ i)) (afW g λz=>?_);obtain⟨k,d⟩:=aiR (a:=c) (b:=p.2);have j:=MP (c:=c) f;have e:p.2.fdiv (Int.gcd c p.2:Nat)=k:=by
   conv=>lhs;arg 1;rw[d]
   exact ahr _ j
  rw[e]at z;rw[z,Int.mul_zero]at d;exact f d
theorem FU:∀l c,c∣Dy c l|[],c=>Int.dvd_refl c|p::l,c=>Int.dvd_trans (Int.dvd_mul_right c _) (FU l _)
theorem FW:∀{l:List Q2}{c:Int},(∀p∈l,p.2≠0)->∀p∈l,p.2∣Dy c l
 |[],c,_,p,d=>by cases d
 |q::l,c,h,p,d=>by
  rcases afU.mp d with e|d;subst e;have g:=h p afH;refine Int.dvd_trans ?_ (FU l _);obtain⟨k,f⟩:=aiR (a:=c) (b:=p.2);obtain⟨j,i⟩:=Int.gcd_dvd_left (a:=c) (b:=p.2);have m:=MP (c:=c) g;have e:p.2.fdiv (Int.gcd c p.2:Nat)=k:=by
   conv=>lhs;arg 1;rw[f]
   exact ahr _ m
  rw[e];refine⟨j,?_⟩
  conv=>lhs;rw[i]
  conv=>rhs;rw[f]
  grind;exact FW (λr n=>h r (afA _ n)) p d
theorem K0:∀{l:List Q2}{c:Int}{B:Nat},(∀p∈l,bz p.2 b)->bz c B->bz (Dy c l) (B+l.length*b)|[],c,B,_,h=>by show bz c _;simpa using h|p::l,c,B,h,a=>by have:=K0 (l:=l) (c:=c*p.2.fdiv (Int.gcd c p.2:Nat)) (B:=B+b) (λq d=>h q (afA _ d)) (a.mul (h p afH).fdiv);rw[af5,agY];exact this.mono (by lia)
def BN(h:∀p∈l,p.2≠0):eG l≠0:=KZ h (by decide)
def Dz(h:∀p∈l,p.2≠0):∀p∈l,p.2∣eG l:=FW h
def u7(h:∀p∈l,bz p.2 b):bz (eG l) (1+l.length*b):=K0 h (by show Int.natAbs 1<2^1;decide)
def fY(c:Int)(p:Q2):Int:=p.1*c.fdiv p.2
theorem lQ(h:p.2∣c)(hz:p.2≠0):((fY c p:Int):Rat)=(c:Rat)*vl p:=by
 obtain⟨k,a⟩:=h;have e:c.fdiv p.2=k:=by rw[a];exact ahr _ hz
 unfold fY vl;rw[e,a,af0,af0];have:=gp hz;grind
def oV(a:bz p.1 b)(d:bz c B):bz (fY c p) (b+B):=a.mul d.fdiv
theorem yD{l:List Q2}{c:Int}{b B}(h:∀p∈l,bz p.1 b/\p.2≠0)(d:bz c B)(hs:b+B<=134217728)(e:l.length<=16777216):bN Y [.lst (l.map eQ),.int c]=.ok (.lst (l.map λp=>.int (fY c p))):=by
 have a:br (b4 [2,3]) bM (aL gX (O 2) (aL oj (O 1) (O 3))) [~~~.lst (l.map eQ),~~~.int c,none,none] (l.map eQ) []=.ok ([]++l.map λp=>.int (fY c p)):=by
  refine lP _ _ _ eQ (λp=>.int (fY c p)) l [] (by simpa using e) λp f=>?_
  obtain⟨g,i⟩:=h p f;exact⟨[~~~.lst (l.map eQ),~~~.int c,~~~.int p.1,~~~.int p.2],by simp[eQ,jS],by simp[fY,u6 _ _ i,iR _ _ (iy g d.fdiv hs)]⟩
 simp[bN,aA,m8,ai];simp at a;rw[a];simp
theorem bf(G)(c:n<=1000000)(h:∀i,i<n->∃ρ',fZ (F i) ρ=some ρ'/\el ρ'=.ok (G i)):br fZ bM el ρ ((List.range n).map F) []=.ok ((List.range n).map G):=by
 have:=lP fZ el ρ F G (List.range n) [] (by simp;lia) λa b=>h a (afG.mp b)
 simpa using this
theorem FY(G)(b)(C)(d:n<=1000000)(h:∀i,i<n->∃ρ',fZ (F i) ρ=some ρ'/\el ρ'=if b i then raises C else .ok (G i)):br fZ bM el ρ ((List.range n).map F) []=if(List.range n).any b then raises C else .ok ((List.range n).map G):=by
 have:=yx fZ el ρ F G b C (List.range n) [] (by simp;lia) λa c=>h a (afG.mp c)
 simpa using this
theorem mR(F G):∀l:List b,ja (l.map F) (l.map G)=l.map λi=>.tup [F i,G i]|[]=>rfl|a::l=>by simp[ja,mR F G l]
theorem kj(F:Nat->D):∀n k,numbered k ((List.range n).map F)=(List.range n).map λi=>.tup [.int ((k+i:Nat):Int),F i]:=by
 intro n
 induction n generalizing F with
 |zero=>intro k;rfl
 |succ n a=>
  intro k;rw[ago,afR,afS];show D.tup [.int (k:Int),F 0]::numbered (k+1) ((List.range n).map (F∘Nat.succ))=_;rw[a (F∘Nat.succ) (k+1),afR,afS];rw[show D.tup [.int ((k+0:Nat):Int),F 0]=D.tup [.int (k:Int),F 0]from rfl];refine agg (λl=>D.tup [.int (k:Int),F 0]::l) ?_;refine afY λi _=>?_
  show D.tup [.int ((k+1+i:Nat):Int),F (i+1)]=D.tup [.int ((k+(i+1):Nat):Int),F (i+1)];rw[show k+1+i=k+(i+1)by lia]
def u9{n:Nat}(h:n<=1000000):small (n:Int)=true:=by unfold small;rw[afL];exact⟨af7 (by lia),af7 (by lia)⟩
def K1(n):vm 0 n=(List.range n).map λi=>D.int ((i:Nat):Int):=by unfold vm;exact afY λi _=>by rw[ahV]
@[simp]theorem fk {n:Nat} (h:n<=1000000):nX [.int (n:Int)]=.ok ((List.range n).map λi=>.int ((i:Nat):Int)):=by unfold nX;simp only[u9 h,if_true,Int.toNat_natCast,K1]
@[simp]theorem acq (a b):v5 [.lst a,.lst b]=.ok (ja a b):=rfl
@[simp]theorem abq (a):jQ [.lst a]=.ok (numbered 0 a):=rfl
def rJ(F)(h:k<n):l6 ((List.range n).map F) (k:Int)=.ok (F k):=sf _ _ (by rw[afF,afV h];rfl)
theorem K2(F:Nat->b)(n a):((List.range n).map F).drop a=(List.range (n-a)).map λj=>F (a+j):=by
 refine agm λi=>?_
 rw[aiK,afF,afF]
 by_cases h:a+i<n
 rw[afV h,afV (by omega)];rfl;rw[afO (by rw[afN];omega),afO (by rw[afN];omega)];rfl
theorem DA(F:Nat->c)(h:a<=n):((List.range n).map F).take a=(List.range a).map F:=by
 refine agm λi=>?_
 rw[ahX]
 by_cases b:i<a
 rw[afz b,afF,afF,afV b,afV (by lia)];rw[afy b,afO (by rw[afB,afN];lia)]
theorem Il(F:Nat->D)(d:a<=b)(c:b<=n):cutD ((List.range n).map F) (some (a:Int)) (some (b:Int))=(List.range (b-a)).map λj=>F (a+j):=by unfold cutD;rw[afB,afN,HT.n8,HT.n8,ahe c,ahe (by lia),K2,DA _ (by lia)]
@[simp]theorem aea (f) (lo a) (ρ):vY f lo a ρ=(f ρ>>=λx=>lo ρ>>=λl=>a ρ>>=λu=>El x>>=λds=>.ok (.lst (cutD ds l u))):=rfl
@[simp]theorem acr (f) (ρ):iB f ρ=(f ρ>>=λd=>eO d>>=λi=>.ok (some i)):=rfl
@[simp]theorem Z1 (ρ):qD ρ=.ok none:=rfl
@[simp]theorem acs (i) (C) (x) (f) (ρ):iM i C x f ρ=(f ρ>>=λd=>cV i ρ>>=λl=>Cu C x d l>>=λa=>.ok (.nx (ρ.set i (some a)))):=rfl
@[simp]theorem abr (C) (xs) (ds) (r):cV 0 (some (.ce C xs ds)::r)=.ok (.ce C xs ds):=rfl
@[simp]theorem Z2 (ds) (r):cV 0 (some (.ow ds)::r)=.ok (.ow ds):=rfl
@[simp]theorem abt (a) (C) (xs) (ds) (r):cV 1 (a::some (.ce C xs ds)::r)=.ok (.ce C xs ds):=rfl
@[simp]theorem Z3 (a) (ds) (r):cV 1 (a::some (.ow ds)::r)=.ok (.ow ds):=rfl
@[simp]theorem abu (a b) (C) (xs) (ds) (r):cV 2 (a::b::some (.ce C xs ds)::r)=.ok (.ce C xs ds):=rfl
@[simp]theorem abv (C) (xs) (ds):(L.ce C xs ds).own=true:=rfl
@[simp]theorem abw (ds):(L.ow ds).own=true:=rfl
theorem rK(C)(x)(d)(xs)(ds)(h:xs.length<1000):Cu C x d (.ce C xs ds)=.ok (.ce C (fy x d xs ds).1 (fy x d xs ds).2):=afz ⟨rfl,h⟩
theorem abx(C)(d:x≠y)(e:x≠z)(f:y≠z)(a b c):runC (aq (iM 0 C x (O 1)) (aq (iM 0 C y (O 2)) (iM 0 C z (O 3)))) 4 (.ce C [] []) [a,b,c]=.ok (.cK,.ce C [x,y,z] [a,b,c]):=by simp[runC,dY,rK,fy,sy,pW,d,e,f]
theorem Od(C)(c:x≠y)(a b):runC (aq (iM 0 C x (O 1)) (iM 0 C y (O 2))) 3 (.ce C [] []) [a,b]=.ok (.cK,.ce C [x,y] [a,b]):=by simp[runC,dY,rK,fy,sy,pW,c]
theorem aby(C)(e:x≠y)(f:x≠z)(g:y≠z)(h:x≠w)(i:y≠w)(j:z≠w)(a b c d):runC (aq (iM 0 C x (O 1)) (aq (iM 0 C y (O 2)) (aq (iM 0 C z (O 3)) (iM 0 C w (O 4))))) 5 (.ce C [] []) [a,b,c,d]=.ok (.cK,.ce C [x,y,z,w] [a,b,c,d]):=by simp[runC,dY,rK,fy,sy,pW,e,f,g,h,i,j]
theorem vc(a:ds.length=n)(e:h (.ce C [] []) ds=.ok (.cK,.ce C xs b)):cH n C h ds=.ok (.obj C xs b):=by unfold cH xF;rw[afz a,e];rfl
@[simp]theorem abz (a b c):cH 3 (Y 19) (aO Y) [a,b,c]=.ok (.obj (Y 19) ["height","width","rows"] [a,b,c]):=vc rfl (abx _ (by decide) (by decide) (by decide) a b c)
@[simp]theorem Zq (a b):cH 2 (Y 21) (jz Y) [a,b]=.ok (.obj (Y 21) ["table","leading"] [a,b]):=vc rfl (Od _ (by decide) a b)
@[simp]theorem W5 (a b):cH 2 (Y 23) (jc Y) [a,b]=.ok (.obj (Y 23) ["table","only"] [a,b]):=vc rfl (Od _ (by decide) a b)
@[simp]theorem acu (a b):cH 2 (Y 31) (gM Y) [a,b]=.ok (.obj (Y 31) ["changes","numbers"] [a,b]):=vc rfl (Od _ (by decide) a b)
@[simp]theorem We (a b):cH 2 (Y 15) (jo Y) [a,b]=.ok (.obj (Y 15) ["kind","numbers"] [a,b]):=vc rfl (Od _ (by decide) a b)
@[simp]theorem acv (a b c d):cH 4 (Y 17) (jq Y) [a,b,c,d]=.ok (.obj (Y 17) ["unknowns","parameters","lines","outs"] [a,b,c,d]):=vc rfl (aby _ (by decide) (by decide) (by decide) (by decide) (by decide) (by decide) a b c d)
def bW(h:(xs.zip ds).lookup x=some d):fX C x (.obj C xs ds)=.ok d:=by unfold fX;simp[h]
abbrev PF:=Nat->Nat->Q2
def dm(c:Nat)(f:Nat->Q2):D:=.lst ((List.range c).map λj=>eQ (f j))
def eT(Y:afp)(r c:Nat)(P:PF):D:=.obj (Y 19) ["height","width","rows"] [.int r,.int c,.lst ((List.range r).map λi=>dm c (P i))]
@[simp]theorem afh (r c:Nat) (P):fX (Y 19) "height" (eT Y r c P)=.ok (.int r):=bW rfl
@[simp]theorem afi (r c:Nat) (P):fX (Y 19) "width" (eT Y r c P)=.ok (.int c):=bW rfl
@[simp]theorem afj (r c:Nat) (P):fX (Y 19) "rows" (eT Y r c P)=.ok (.lst ((List.range r).map λi=>dm c (P i))):=bW rfl
@[simp]theorem aeb (c) (f:Nat->Q2):mW (dm c f)=.ok ((List.range c).map λj=>eQ (f j)):=rfl
@[simp]theorem acw (c) (f:Nat->Q2):El (dm c f)=.ok ((List.range c).map λj=>eQ (f j)):=rfl
theorem cA(r c:Nat)(P):aX Y [eT Y r c P]=if decide (r≠c)then raises (Y 4)else .ok .cK:=by
 by_cases h:r=c
 subst h;simp[aX,aA,ni,ai];have a:¬(r:Int)=(c:Int):=by lia
 simp[aX,aA,ni,ai,h,a]
theorem Ad(a:∀i,i<r->∀j,j<c->sz (P i j) b)(d:sz f e)(hs:b+e<=134217728)(k:r<=1000)(l:c<=1000):jg Y [eT Y r c P,eQ f]=.ok (eT Y r c λi j=>dj (P i j) f):=by simp[jg,aA,FF,ai];rw[bf (λi=>dm c λj=>dj (P i j) f) (by lia) λi g=>?_];rfl;refine⟨_,rfl,?_⟩;simp;rw[bf (λj=>eQ (dj (P i j) f)) (by lia) λj h=>?_];rfl;refine⟨_,rfl,?_⟩;simp[uB (a i g j h) d hs]
theorem FZ(l:∀i,i<r->∀j,j<c->sz (P i j) b)(m:∀i,i<r'->∀j,j<a->sz (Q i j) n)(hs:b+n<=134217728)(o:r<=1000)(p:c<=1000):
  lJ Y [eT Y r c P,eT Y r' a Q]=if decide (r≠r')||decide (c≠a)then raises (Y 4)else .ok (eT Y r c λi j=>fW (P i j) (Q i j)):=by
 by_cases d:r=r'
 by_cases g:c=a
 subst d g;simp[lJ,aA,uT,ai,mR];rw[bf (λi=>dm c λj=>fW (P i j) (Q i j)) (by lia) λi h=>?_];rfl;refine⟨[~~~eT Y r c P,~~~eT Y r c Q,none,~~~dm c (P i),~~~dm c (Q i),none,none],by simp[jS],?_⟩;simp;rw[show v5 [dm c (P i),dm c (Q i)]=.ok ((List.range c).map λj=>.tup [eQ (P i j),eQ (Q i j)])by show Except.ok (ja _ _)=_;rw[mR]];simp;rw[bf (λj=>eQ (fW (P i j) (Q i j))) (by lia) λj k=>?_];rfl;refine⟨[~~~eT Y r c P,~~~eT Y r c Q,none,~~~dm c (P i),~~~dm c (Q i),~~~eQ (P i j),~~~eQ (Q i j)],by simp[jS],?_⟩;simp[yC (l i h j k) (m i h j k) hs];subst d;have e:¬(c:Int)=(a:Int):=by lia
 simp[lJ,aA,uT,ai,g,e];have f:¬(r:Int)=(r':Int):=by lia
 simp[lJ,aA,uT,ai,d,f]
def Im:sz (-1,1) 1:=⟨by show Int.natAbs (-1)<2^1;decide,by show Int.natAbs 1<2^1;decide,by decide⟩
theorem MQ(h:∀i,i<r->∀j,j<c->sz (P i j) b)(g:∀i,i<r'->∀j,j<a->sz (Q i j) k)(hs:b+(k+1)<=134217728)(l:r<=1000)(m:c<=1000)(d:r'<=1000)(f:a<=1000):
  gZ Y [eT Y r c P,eT Y r' a Q]=if decide (r≠r')||decide (c≠a)then raises (Y 4)else .ok (eT Y r c λi j=>fW (P i j) (dj (Q i j) (-1,1))):=by
 have e:=Ad (Y:=Y) g Im (by lia) d f;have n:jg Y [eT Y r' a Q,.tup [.int (-1),.int 1]]=.ok (eT Y r' a λi j=>dj (Q i j) (-1,1)):=e;simp only[gZ,aA,p9,ai];simp[n,FZ (Y:=Y) h (λi o j p=>(g i o j p).dj Im) hs l m];split<;>rfl
theorem F6(b:r<=1000)(d:c<=1000):nj Y [eT Y r c P]=.ok (eT Y c r λi j=>P j i):=by simp! [nj,aA,FG,ai,fk (show c<=1000000 by lia)];rw[bf (λj=>dm r λi=>P i j) (by lia) λj a=>?_];rfl;refine⟨_,rfl,?_⟩;simp;rw[bf (λi=>eQ (P i j)) (by lia) λi e=>?_];rfl;refine⟨_,rfl,?_⟩;simp;show l6 _ _=_;exact rJ _ a
theorem Io(F G:Nat->b)(c d):(List.range c).map F++(List.range d).map G=(List.range (c+d)).map λj=>if j<c then F j else G (j-c):=by
 refine agm λi=>?_
 rw[afF]
 by_cases h:i<c
 rw[agj (by simpa using h),afF,afV h,afV (by omega)];simp[h];rw[agK (by simpa using h),afF,afB,afN]
 by_cases a:i<c+d
 rw[afV (by omega),afV a];simp[h];rw[afO (by simp;omega),afO (by simp;omega)];rfl
def fC(c:Nat)(P Q:PF):PF:=λi j=>if j<c then P i j else Q i (j-c)
def S0(r:Nat)(P Q:PF):PF:=λi j=>if i<r then P i j else Q (i-r) j
theorem vd(f:r<=1000)(g:c<=1000)(h:d<=1000):bZ Y [eT Y r c P,eT Y r' d Q]=if decide (r≠r')then raises (Y 4)else .ok (eT Y r (c+d) (fC c P Q)):=by
 by_cases e:r=r'
 subst e;simp[bZ,aA,kO,ai,mR];rw[bf (λi=>dm (c+d) (fC c P Q i)) (by lia) λi k=>?_];rfl;refine⟨[~~~eT Y r c P,~~~eT Y r d Q,none,~~~dm c (P i),~~~dm d (Q i)],by simp[jS],?_⟩;simp;show iV (.lst _) (.lst _)=_;rw[rG _ _ (by simp;lia),Io];unfold dm fC;refine agg (λl=>(Except.ok (D.lst l):M D)) (afY λj _=>?_)
 by_cases a:j<c
 rw[afz a,afz a];rw[afy a,afy a];have b:¬(r:Int)=(r':Int):=by lia
 simp[bZ,aA,kO,ai,e,b]
theorem S8(f:r<=1000)(hs:s<=1000):f9 Y [eT Y r c P,eT Y s d Q]=if decide (c≠d)then raises (Y 4)else .ok (eT Y (r+s) c (S0 r P Q)):=by
 by_cases b:c=d
 subst b;simp[f9,aA,lV,ai];rw[rG _ _ (by simp;lia),Io];simp;unfold eT;refine agg (λl=>D.obj (Y 19) ["height","width","rows"] [.int ((r+s:Nat):Int),.int c,.lst l]) (afY λi _=>?_);unfold S0
 by_cases e:i<r
 simp[e];simp[e];have a:¬(c:Int)=(d:Int):=by lia
 simp[f9,aA,lV,ai,b,a]
theorem Oe(i j h w:Nat)(g:r<=1000)(k:c<=1000):jH Y [eT Y r c P,.int i,.int j,.int h,.int w]=if decide (r<i+h)||decide (c<j+w)then raises (Y 4)else .ok (eT Y h w λx y=>P (i+x) (j+y)):=by
 by_cases d:r<i+h
 have a:(r:Int)<(i:Int)+(h:Int):=by lia
 simp[jH,aA,qR,ai,d,a];have a:¬(r:Int)<(i:Int)+(h:Int):=by lia
 by_cases e:c<j+w
 have b:(c:Int)<(j:Int)+(w:Int):=by lia
 simp[jH,aA,qR,ai,d,a,e,b];have b:¬(c:Int)<(j:Int)+(w:Int):=by lia
 have e1:(i:Int)+(h:Int)=((i+h:Nat):Int):=by lia
 have f:(j:Int)+(w:Int)=((j+w:Nat):Int):=by lia
 simp only[jH,aA,qR,ai];simp[d,a,e,b];rw[e1,Il _ (by lia) (by lia),show i+h-i=h by lia];rw[bf (λx=>dm w λy=>P (i+x) (j+y)) (by lia) λx l=>?_];rfl;refine⟨_,rfl,?_⟩;simp;rw[f,Il _ (by lia) (by lia),show j+w-j=w by lia];rfl
abbrev ZF:=Nat->Nat->Int
def dJ(c:Nat)(f:Nat->Int):D:=.lst ((List.range c).map λj=>.int (f j))
def eZ(r c:Nat)(W:ZF):D:=.lst ((List.range r).map λi=>dJ c (W i))
@[simp]theorem acy (c) (f:Nat->Int):mW (dJ c f)=.ok ((List.range c).map λj=>.int (f j)):=rfl
@[simp]theorem aeD (r c:Nat) (W:ZF):mW (eZ r c W)=.ok ((List.range r).map λi=>dJ c (W i)):=rfl
@[simp]theorem abA (c) (f:Nat->Int):iw [dJ c f]=.ok (.int c):=by show Except.ok _=_;simp!
@[simp]theorem Zr (r c:Nat) (W:ZF):iw [eZ r c W]=.ok (.int r):=by show Except.ok _=_;simp!
def ko(f:Nat->Int)(h:k<c):ay (dJ c f) (.int (k:Int))=.ok (.int (f k)):=rJ (λj=>D.int (f j)) h
def DB(W:ZF)(h:k<r):ay (eZ r c W) (.int (k:Int))=.ok (dJ c (W k)):=rJ (λi=>dJ c (W i)) h
def zU:ZF:=λi j=>if i=j then 1 else 0
theorem DC{n:Nat}(b:n<=1000):iY Y [.int n]=.ok (eZ n n zU):=by
 simp! [iY,aA,vB,ai,fk (show n<=1000000 by lia)];rw[bf (λi=>dJ n (zU i)) (by lia) λi c=>?_];rfl;refine⟨_,rfl,?_⟩;simp! [fk (show n<=1000000 by lia)];rw[bf (λj=>.int (zU i j)) (by lia) λj d=>?_];rfl;refine⟨_,rfl,?_⟩;unfold zU
 by_cases h:i=j
 simp[h];have a:¬(i:Int)=(j:Int):=by lia
 simp[h,a]
def sumZ(n:Nat)(f:Nat->Int):Int:=((List.range n).map f).sum
theorem DE(f):∀l:List Nat,iJ (l.map λk=>D.int (f k))=some (l.map f)|[]=>rfl|a::l=>by simp[iJ,DE f l]
theorem K3(n:Nat)(f):Em [.lst ((List.range n).map λk=>.int (f k))]=.ok (.int (sumZ n f)):=by show(match iJ ((List.range n).map λk=>D.int (f k))with|some a=>(.ok (.int a.sum):M D)|none=>ao)=_;rw[DE];rfl
def iG(n:Nat)(A B:ZF):ZF:=λi j=>sumZ n λk=>A i k*B k j
theorem DF(e:∀i,i<r->∀k,k<n->bz (A i k) b)(f:∀k,k<n->∀j,j<c->bz (B k j) g)(hs:b+g<=134217728)(l:r<=1000)(m:n<=1000)(o:c<=1000):dD Y [eZ r n A,eZ n c B,.int c]=.ok (eZ r c (iG n A B)):=by simp[dD,aA,qa,ai];rw[bf (λi=>dJ c (iG n A B i)) (by lia) λi h=>?_];rfl;refine⟨_,rfl,?_⟩;simp! [fk (show c<=1000000 by lia)];rw[bf (λj=>.int (iG n A B i j)) (by lia) λj d=>?_];rfl;refine⟨_,rfl,?_⟩;simp! [fk (show n<=1000000 by lia)];rw[bf (λk=>.int (A i k*B k j)) (by lia) λk a=>?_];simp[K3,iG];refine⟨_,rfl,?_⟩;simp[ko _ a,DB _ a,ko _ d,iR _ _ (iy (e i h k a) (f k a j d) hs)]
theorem uC(h:∀i,i<r->∀j,j<c->sz (P i j) b)(a:bz k B)(hs:b+B<=134217728)(m:r<=1000)(o:c<=1000):fN Y [eT Y r c P,.int k]=.ok (eZ r c λi j=>fY k (P i j)):=by
 simp[fN,aA,vC,ai];rw[bf (λi=>dJ c λj=>fY k (P i j)) (by lia) λi d=>?_];rfl;refine⟨_,rfl,?_⟩;simp;have e:=yD (Y:=Y) (l:=(List.range c).map (P i)) (c:=k) (b:=b) (B:=B) (λp f=>by obtain⟨j,g,rfl⟩:=af6.mp f;have:=h i d j (afG.mp g);exact⟨this.n,this.z⟩) a hs (by simp;lia)
 rw[afS,afS]at e;exact e
theorem yE(a:r<=1000)(b:c<=1000):iN Y [eZ r c W,.int d]=.ok (.lst ((List.range r).map λi=>dm c λj=>(W i j,d))):=by simp[iN,aA,xR,ai];rw[bf (λi=>dm c λj=>(W i j,d)) (by lia) λi e=>?_];rfl;refine⟨_,rfl,?_⟩;simp;rw[bf (λj=>eQ (W i j,d)) (by lia) λj f=>?_];rfl;refine⟨_,rfl,?_⟩;simp[eQ]
def K4{n:Nat}(a:n<=1000):i6 Y [.int n]=.ok (eT Y n n λi j=>(zU i j,1)):=by simp! [i6,aA,vD,ai,DC a,yE a a];rfl
theorem kq(a lo b):bO Y [.int a,.int lo,.int b]=if a<lo\/b<a then raises (Y 0)else .ok .cK:=by
 by_cases c:a<lo
 simp[bO,aA,ly,ai,c]
 by_cases d:b<a
 simp[bO,aA,ly,ai,c,d];simp[bO,aA,ly,ai,c,d]
theorem yF(a):bD Y [.int a]=if a<0\/5<a then raises (Y 0)else .ok .cK:=by
 by_cases h:a<0\/5<a
 simp[bD,aA,pH,ai,kq,h];simp[bD,aA,pH,ai,kq,h]
theorem Of(a):gE Y [.int a]=if a<0\/1<a then raises (Y 0)else .ok .cK:=by
 by_cases h:a<0\/1<a
 simp[gE,aA,qV,ai,kq,h];simp[gE,aA,qV,ai,kq,h]
theorem Wf{b}{code}{a}(f:b.length=6):aV Y [au (Y 27) b code,.int a]=if a<0\/5<a then raises (Y 0)else .ok (b.getD a.toNat .cK):=by
 by_cases h:a<0\/5<a
 simp[aV,aA,pI,ai,yF,h];obtain⟨k,c⟩:∃k:Nat,a=(k:Int):=⟨a.toNat,by lia⟩;subst c;have c:k<b.length:=by lia
 have e:fX (Y 27) "tables" (au (Y 27) b code)=.ok (.lst b):=bW rfl;have d:l6 b (k:Int)=.ok (b.getD k .cK):=sf _ _ (by rw[afC,afE c];rfl);simp[aV,aA,pI,ai,yF,h,e,d]
theorem F7(a):∀(l:List Q2)bY x,bY.length+2*l.length<=16777216->∃b,eU (aI 2) (JP 1 (O 2)) (l.map eQ) [a,some (.ow bY),x]=.ok (.nx [a,some (.ow (bY++(l.flatMap λp=>[p.1,p.2]).map D.int)),b])
 |[],bY,x,_=>⟨x,by simp⟩
 |p::l,bY,x,h=>by
  simp only[List.length_cons]at h;obtain⟨b,c⟩:=F7 a l (bY++[.int p.1,.int p.2]) (~~~eQ p) (by rw[afM];simp;lia);refine⟨b,?_⟩;have d:bY.length<=16777214:=by lia
  rw[afR];simp[eQ,show sizeLine=16777216 from rfl,d];simp[eQ]at c;exact c
theorem Og{l:List Q2}(h:l.length<=1000000):gk Y [.lst (l.map eQ)]=.ok (.lst ((l.flatMap λp=>[p.1,p.2]).map D.int)):=by obtain⟨a,e⟩:=F7 (~~~.lst (l.map eQ)) l [] none (by simp;lia);simp[gk,aA,oE,ai,show sizeLine=16777216 from rfl];rw[e];simp[bE,dF]
def oW(p:Q2):Bool:=decide (2000<Vagraa.weight (Ex.fr (vl p)))
def settle(p:Q2):Q2:=lw (vl p)
theorem Br{l:List Q2}(h:l.length<=1000000)(hz:∀p∈l,p.2≠0):dh Y [.lst (l.map eQ)]=if l.any oW then raises (Y 8)else .ok (.lst (((l.map settle).flatMap λp=>[p.1,p.2]).map D.int)):=by
 have e:=yx (aI 1) (aa (U (O 1) af) (ah 1 (cW Y))) [~~~.lst (l.map eQ),none] eQ (λp=>eQ (settle p)) oW (Y 8) l [] (by simp;lia) (λp b=>⟨[~~~.lst (l.map eQ),~~~eQ p],rfl,by simp[Du p (hz p b),oW,settle,eF]⟩);have c:(l.map λp=>eQ (settle p))=(l.map settle).map eQ:=by rw[afS];rfl
 simp[dh,aA,rZ,ai];rw[e]
 by_cases a:l.any oW=true
 rw[afz a,afz a];rfl;rw[afy a,afy a,c,agH];simp only[bq,V9 1 _ [D.lst (List.map eQ (List.map settle l))] rfl,Og (show(l.map settle).length<=1000000 by simpa using h),Wc]
noncomputable def dz(r c:Nat)(P:PF):List Q2:=(List.range r).flatMap λi=>(List.range c).map (P i)
theorem F8(a)(P:PF):∀(l:List Nat)bY x,bY.length+l.length*c<=16777216->∃b,eU (aI 2) (JP 1 (O 2)) (l.map λi=>dm c (P i)) [a,some (.ow bY),x]=.ok (.nx [a,some (.ow (bY++(l.flatMap λi=>(List.range c).map (P i)).map eQ)),b])
 |[],bY,x,_=>⟨x,by simp⟩
 |i::l,bY,x,h=>by
  simp only[List.length_cons,Nat.succ_mul]at h;obtain⟨b,d⟩:=F8 a (c:=c) P l (bY++(List.range c).map λj=>eQ (P i j)) (~~~dm c (P i)) (by rw[afM];simp;omega);refine⟨b,?_⟩;have e:bY.length+c<=16777216:=by omega
  have f:JO (dm c (P i))=.ok ((List.range c).map λj=>eQ (P i j)):=rfl;rw[afR];simp[f,show sizeLine=16777216 from rfl,e];rw[d];simp[Function.comp_def]
theorem jj(r c)(P:PF):(dz r c P).length=r*c:=by
 unfold dz;generalize b:List.range r=l;have d:r=l.length:=by rw[<-b,afN]
 rw[d];clear b d
 induction l with|nil=>simp|cons a l e=>rw[List.flatMap_cons,List.length_append,e,List.length_cons,Nat.succ_mul];simp;lia
theorem qm(h:p∈dz r c P):∃i j,i<r/\j<c/\p=P i j:=by unfold dz at h;obtain⟨i,a,h⟩:=aiZ.mp h;obtain⟨j,b,e⟩:=af6.mp h;exact⟨i,j,afG.mp a,afG.mp b,e.symm⟩
def K5(a:i<r)(b:j<c):P i j∈dz r c P:=aiZ.mpr ⟨i,afG.mpr a,af6.mpr ⟨j,afG.mpr b,rfl⟩⟩
theorem jE(a:r<=1000)(b:c<=1000):dc Y [eT Y r c P]=.ok (.lst ((dz r c P).map eQ)):=by have d:r*c<=1000*1000:=agR a b;obtain⟨f,e⟩:=F8 (~~~eT Y r c P) P (c:=c) (List.range r) [] none (by simp;lia);simp[dc,aA,vA,ai,show sizeLine=16777216 from rfl];rw[e];simp[bE,dF,dz]
def uD(n k1 k2:Nat)(P Q:PF):PF:=λi j=>(iG n (λi k=>fY (eG (dz k1 n P)) (P i k)) (λk j=>fY (eG (dz n k2 Q)) (Q k j)) i j,eG (dz k1 n P)*eG (dz n k2 Q))
theorem DG(h:∀i,i<r->∀j,j<n->sz (P i j) b)(l:∀i,i<n'->∀j,j<c->sz (Q i j) m)(hs:(b+(1+r*n*b))+(m+(1+n'*c*m))<=134217728)(o:r<=1000)(g:n<=1000)(C:n'<=1000)(q:c<=1000):
  gJ Y [eT Y r n P,eT Y n' c Q]=if decide (n≠n')then raises (Y 4)else .ok (eT Y r c (uD n r c P Q)):=by
 by_cases w:n=n'
 subst w;have x:∀p∈dz r n P,bz p.2 b/\p.2≠0:=λp a=>by obtain⟨i,j,e,f,rfl⟩:=qm a;exact⟨(h i e j f).d,(h i e j f).z⟩
 have y:∀p∈dz n c Q,bz p.2 m/\p.2≠0:=λp a=>by obtain⟨i,j,e,f,rfl⟩:=qm a;exact⟨(l i e j f).d,(l i e j f).z⟩
 have E:=rH (Y:=Y) x (by rw[jj];omega);have F:=rH (Y:=Y) y (by rw[jj];omega);have s:bz (eG (dz r n P)) (1+r*n*b):=by have:=u7 λp a=>(x p a).1;rwa [jj]at this
 have t:bz (eG (dz n c Q)) (1+n*c*m):=by have:=u7 λp a=>(y p a).1;rwa [jj]at this
 have G:=uC (Y:=Y) h s (by omega) o g;have H:=uC (Y:=Y) l t (by omega) g q;have I:=DF (Y:=Y) (A:=λi k=>fY (eG (dz r n P)) (P i k)) (B:=λk j=>fY (eG (dz n c Q)) (Q k j)) (λi e k u=>oV (h i e k u).n s) (λk u j f=>oV (l k u j f).n t) hs o g q;have m1:=iy s t (by omega);simp[gJ,aA,pF,ai,jE o g,jE g q,E,F,G,H,I,iR _ _ m1,yE o q];rfl;have v:¬(n:Int)=(n':Int):=by omega
 simp[gJ,aA,pF,ai,w,v]
def F9(n)(f):sumZ (n+1) f=sumZ n f+f n:=by unfold sumZ;rw[ahO,agz,List.sum_append];simp
theorem BO(f):∀{n:Nat},(∀k,k<n->bz (f k) b)->bz (sumZ n f) (b+n)
 |0,_=>by show Int.natAbs (sumZ 0 f)<_;exact agI _
 |n+1,h=>by
  rw[F9];have:=BO f (n:=n) λk a=>h k (by lia)
  exact(this.add ((h n (by lia)).mono (by lia))).mono (by lia)
theorem Wg(d:∀i,i<r->∀k,k<n->bz (A i k) b)(e:∀k,k<n->∀j,j<c->bz (B k j) f):∀i,i<r->∀j,j<c->bz (iG n A B i j) (b+f+n):=λi g j h=>BO _ λk a=>(d i g k a).mul (e k a j h)
def K6(n:Nat)(A:ZF):Nat->ZF|0=>zU|k+1=>iG n (K6 n A k) A
def S9(i j):bz (zU i j) 1:=by unfold zU bz;split<;>decide
theorem Oh(a:∀i,i<n->∀k,k<n->bz (A i k) B):∀k i,i<n->∀j,j<n->bz (K6 n A k i j) (1+k*(B+n))|0,i,b,j,c=>(S9 i j).mono (by lia)|k+1,i,b,j,c=>(Wg (Oh a k) a i b j c).mono (by rw[agY];lia)
theorem Tc(h:bz c B):∀k,bz (c^k) (1+k*B)|0=>by show Int.natAbs (c^0)<_;simp|k+1=>by rw[Int.pow_succ];exact((Tc h k).mul h).mono (by rw[agY];lia)
theorem K7(P:PF)(e0)(d:∀i,i<n->∀k,k<n->bz (A i k) B)(e:bz c a)(b:n<=1000)(m)(hs:1+m*(B+n)+B<=134217728)(f:1+m*a+a<=134217728):∀(l:List Nat)k x,k+l.length<=m->∃g,
  eU (aI 6) (aq (aU 4 (aa (U (O 4) (U (O 3) (U (aB (Y 19) "width" (O 0)) af))) (ah 3 (dD Y)))) (aU 5 (aL gX (O 5) (O 2)))) (l.map λi=>.int ((i:Nat):Int)) [~~~eT Y n n P,e0,~~~.int c,~~~eZ n n A,~~~eZ n n (K6 n A k),~~~.int (c^k),x]=
   .ok (.nx [~~~eT Y n n P,e0,~~~.int c,~~~eZ n n A,~~~eZ n n (K6 n A (k+l.length)),~~~.int (c^(k+l.length)),g])
 |[],k,x,_=>⟨x,by simp⟩
 |i::l,k,x,h=>by
  simp only[List.length_cons]at h;obtain⟨g,j⟩:=K7 P e0 d e b m hs f l (k+1) (~~~(.int ((i:Nat):Int))) (by lia);refine⟨g,?_⟩;have q:k*(B+n)<=m*(B+n):=agn _ (by lia);have o:k*a<=m*a:=agn _ (by lia);have p:=DF (Y:=Y) (Oh d k) d (by lia) b b b;have m1:=iy (Tc e k) e (by lia);rw[afR];simp[p,iR _ _ m1];rw[show c^k*c=c^(k+1)from(Int.pow_succ c k).symm];have e1:k+1+l.length=k+(l.length+1):=by lia
  rw[e1]at j;exact j
def Td(n k:Nat)(P:PF):PF:=λi j=>(K6 n (λi j=>fY (eG (dz n n P)) (P i j)) k i j,eG (dz n n P)^k)
theorem Te(k:Nat)(g:∀i,i<r->∀j,j<c->sz (P i j) b)(hs:1+k*((b+(1+r*r*b))+r)+(b+(1+r*r*b))<=134217728)(a:r<=1000)(w:c<=1000)(x:k<=1000):
  kP Y [eT Y r c P,.int k]=if decide (r≠c)then raises (Y 4)else .ok (eT Y r c (Td r k P)):=by
 by_cases m:r=c
 subst m;have s:∀p∈dz r r P,bz p.2 b/\p.2≠0:=λp o=>by obtain⟨i,j,h,l,rfl⟩:=qm o;exact⟨(g i h j l).d,(g i h j l).z⟩
 have u:=rH (Y:=Y) s (by rw[jj];omega);have q:bz (eG (dz r r P)) (1+r*r*b):=by have:=u7 λp o=>(s p o).1;rwa [jj]at this
 have v:=uC (Y:=Y) g q (by omega) a a;have y:k*(1+r*r*b)<=k*((b+(1+r*r*b))+r):=ag2 _ (by omega);obtain⟨A,t⟩:=K7 (Y:=Y) P (~~~(.int (k:Int))) (λi h j l=>oV (g i h j l).n q) q a k hs (by omega) (List.range k) 0 none (by simp);rw[afN,agG]at t;have e:aX Y [eT Y r r P]=.ok .cK:=by rw[cA];simp
 simp! [kP,aA,tM,ai,e,jE a a,u,v,DC a,fk (show k<=1000000 by omega)];have f:=t;rw[show K6 r (λi j=>fY (eG (dz r r P)) (P i j)) 0=zU from rfl,Int.pow_zero]at f;rw[f];simp[yE a a];rfl;have e:aX Y [eT Y r c P]=raises (Y 4):=by rw[cA];simp[m]
 simp[kP,aA,tM,ai,e,m]
def kr(r c:Nat)(P:PF):Bool:=(List.range r).any λi=>(List.range c).any λj=>oW (P i j)
theorem K8(hz:∀i,i<r->∀j,j<c->(P i j).2≠0)(k:r<=1000)(l:c<=1000):eB Y [eT Y r c P]=if decide (6<r)||decide (6<c)||kr r c P then raises (Y 8)else .ok (eT Y r c λi j=>settle (P i j)):=by
 by_cases e:6<r
 have b:(6:Int)<(r:Int):=by lia
 simp[eB,aA,iX,ai,e,b];have b:¬(6:Int)<(r:Int):=by lia
 by_cases f:6<c
 have d:(6:Int)<(c:Int):=by lia
 simp[eB,aA,iX,ai,e,b,f,d];have d:¬(6:Int)<(c:Int):=by lia
 simp[eB,aA,iX,ai,e,b,f,d];rw[FY (λi=>dm c λj=>settle (P i j)) (λi=>(List.range c).any λj=>oW (P i j)) (Y 8) (by lia) λi g=>?_];show _=if kr r c P=true then _ else _
 unfold kr
 by_cases a:((List.range r).any λi=>(List.range c).any λj=>oW (P i j))=true
 rw[afz a,afz a];rfl;rw[afy a,afy a];rfl;refine⟨_,rfl,?_⟩;simp;rw[FY (λj=>eQ (settle (P i j))) (λj=>oW (P i j)) (Y 8) (by lia) λj h=>?_]
 by_cases a:((List.range c).any λj=>oW (P i j))=true
 rw[afz a];simp only[List.any_eq_true]at a|-;rw[afz (by simpa using a)];rfl;rw[afy a];rw[afy (by simpa using a)];rfl;refine⟨_,rfl,?_⟩;simp[Du _ (hz i g j h),oW,settle,eF]
theorem BP:∀{l:List d},(∀a∈l,lT (F a)=some (G a))->pX (l.map F)=some (l.map G)|[],_=>by simp[pX]|a::l,h=>by rw[afR];unfold pX;rw[h a afH,BP λb c=>h b (afA _ c)];rfl
theorem Ip(F G):∀l:List b,PyData.eqvAll (l.map F) (l.map G)=l.all λa=>PyData.eqv (F a) (G a)|[]=>by simp[PyData.eqvAll]|a::l=>by simp[PyData.eqvAll,Ip F G l]
theorem BQ:∀{l:List d},(∀a∈l,(F a).canLay0=true)->PyData.canLayAll0 (l.map F)=true|[],_=>by simp[PyData.canLayAll0]|a::l,h=>by simp[PyData.canLayAll0,h a List.mem_cons_self,BQ λb c=>h b (List.mem_cons_of_mem _ c)]
theorem BR:∀{l:List d},(∀a∈l,(F a).depth<=k)->PyData.depthAll (l.map F)<=k
 |[],_=>by simp[PyData.depthAll]
 |a::l,h=>by
  have e:=h a afH;have f:=BR (F:=F) (k:=k) (l:=l) λb c=>h b (afA _ c)
  simp[PyData.depthAll]
  lia
def pQ(p:Q2):PyData:=.tuple [.int p.1,.int p.2]
def Qh(c:Nat)(f:Nat->Q2):PyData:=.list ((List.range c).map λj=>pQ (f j))
def DH(r c:Nat)(P:PF):PyData:=.list ((List.range r).map λi=>Qh c (P i))
def aec(p:Q2):lT (eQ p)=some (pQ p):=by simp[eQ,lT,pX,pQ]
def Zs(c)(f:Nat->Q2):lT (dm c f)=some (Qh c f):=by unfold dm lT;rw[BP λj _=>aec (f j)];rfl
theorem Oi(r c:Nat)(P:PF):lT (.lst ((List.range r).map λi=>dm c (P i)))=some (DH r c P):=by unfold lT;rw[BP λi _=>Zs c (P i)];rfl
theorem K9(r c:Nat)(P:PF):SeqAt.shaped (DH r c P)=true:=by
 unfold SeqAt.shaped;rw[afL];constructor;unfold DH PyData.canLay0;refine BQ λi _=>?_
 unfold Qh PyData.canLay0;refine BQ λj _=>?_
 simp[pQ,PyData.canLay0,PyData.canLayAll0];refine af7 ?_;unfold DH PyData.depth;have:PyData.depthAll ((List.range r).map λi=>Qh c (P i))<=2:=BR λi _=>by
  unfold Qh PyData.depth;have:PyData.depthAll ((List.range c).map λj=>pQ (P i j))<=1:=BR λj _=>by simp[pQ,PyData.depth,PyData.depthAll]
  lia
 lia
def DI(r c:Nat)(P Q:PF):Bool:=(List.range r).all λi=>(List.range c).all λj=>decide (P i j=Q i j)
theorem Tf(r c:Nat)(P Q:PF):PyData.eqv (DH r c P) (DH r c Q)=DI r c P Q:=by
 unfold DH DI PyData.eqv;rw[Ip];congr 1;funext i;unfold Qh PyData.eqv;rw[Ip];congr 1;funext j;simp[pQ,PyData.eqv,PyData.eqvAll,Prod.ext_iff]
 by_cases a:(P i j).1=(Q i j).1<;>by_cases b:(P i j).2=(Q i j).2<;>simp[a,b]
theorem Wh(r c r' a:Nat)(P Q:PF):jy Y [eT Y r c P,eT Y r' a Q]=.ok (.bl (decide (r=r')&&(decide (c=a)&&DI r c P Q))):=by
 by_cases b:r=r'
 by_cases g:c=a
 subst b g;have e:Pk (.lst ((List.range r).map λi=>dm c (P i))) (.lst ((List.range r).map λi=>dm c (Q i)))=.ok (DI r c P Q):=by unfold Pk;rw[Oi,Oi];simp[K9,Tf]
 simp[jy,aA,oq,ai,Po,YR,e];subst b;have d:¬(c:Int)=(a:Int):=by lia
 simp[jy,aA,oq,ai,Po,g,d];have f:¬(r:Int)=(r':Int):=by lia
 simp[jy,aA,oq,ai,Po,b,f]
def fq(ns:List Int)(k:Nat):Q2:=(ns.getD (2*k) 0,ns.getD (2*k+1) 0)
theorem Oj{ns:List Int}{k}(h:k<ns.length):l6 (ns.map D.int) (k:Int)=.ok (.int (ns.getD k 0)):=sf _ _ (by rw[afF,afC,afE h];rfl)
theorem yG(f):∀l:List b,mC (l.map λk=>D.bl (f k))=some (l.map f)|[]=>rfl|a::l=>by simp[mC,yG f l]
theorem uE(f)(l:List b):Cj [.lst (l.map λk=>D.bl (f k))]=.ok (.bl (l.any f)):=by show(match mC (l.map λk=>D.bl (f k))with|some a=>(.ok (.bl (a.any id)):M D)|none=>ao)=_;rw[yG];simp[List.any_map,Function.comp_def]
def Tg{n b:Nat}(h:n<2^b):bz (n:Int) b:=by unfold bz;simpa using h
theorem mJ{ns:List Int}{n:Nat}(f:n<=1000):dg Y [.lst (ns.map D.int),.int n]=if decide (ns.length≠2*n)||(List.range n).any (λk=>decide ((fq ns k).2<1))then raises (Y 1)else .ok (.lst ((List.range n).map λk=>eQ (fq ns k))):=by
 have d:∀k:Nat,k<=1000->xm 2 (k:Int)=true:=λk i=>iy (b:=2) (c:=10) (by show Int.natAbs 2<2^2;decide) (Tg (by lia)) (by decide)
 by_cases e:ns.length=2*n
 have a:(ns.length:Int)=2*(n:Int):=by lia
 have j:br (aI 3) bM (aa (U (aL ay (O 0) (aL gX (aG (.int 2)) (O 3))) (U (aL ay (O 0) (aL kC (aL gX (aG (.int 2)) (O 3)) (aG (.int 1)))) af)) eS) [~~~.lst (ns.map D.int),~~~(.int (n:Int)),none,none,none] ((List.range n).map λk=>.int ((k:Nat):Int)) []=.ok ((List.range n).map λk=>eQ (fq ns k)):=bf _ (by lia) λk i=>by
  refine⟨_,rfl,?_⟩;have e1:(2:Int)*(k:Int)=((2*k:Nat):Int):=by lia
  have m:(2:Int)*(k:Int)+1=((2*k+1:Nat):Int):=by lia
  simp[iR _ _ (d k (by lia))];rw[m,e1,Oj (by lia),Oj (by lia)];rfl
 have l:∀(g:ak),g=[~~~.lst (ns.map D.int),~~~(.int (n:Int)),~~~(.lst ((List.range n).map λk=>eQ (fq ns k))),none,none]->br (aI 4) bM (kD (eL Fz (aL ay (O 4) (aG (.int 1))) (aG (.int 1)))) g ((List.range n).map λk=>eQ (fq ns k)) []=.ok ((List.range n).map λk=>.bl (decide ((fq ns k).2<1))):=λg h=>bf _ (by lia) λk i=>by subst h;refine⟨_,rfl,?_⟩;simp[eQ]
 have a1:=uE (λk=>decide ((fq ns k).2<1)) (List.range n);have o:decide (ns.length≠2*n)=false:=by simp[e]
 rw[o,ahF];generalize ((List.range n).any λk=>decide ((fq ns k).2<1))=B at a1|-;cases B with
 |true=>simp! [dg,aA,ju,ai,iR _ _ (d n f),e,fk (show n<=1000000 by lia),j,l _ rfl,a1]
 |false=>simp! [dg,aA,ju,ai,iR _ _ (d n f),e,fk (show n<=1000000 by lia),j,l _ rfl,a1]
 have a:¬(ns.length:Int)=2*(n:Int):=by lia
 simp[dg,aA,ju,ai,iR _ _ (d n f),e,a]
open Ex (jD aE gy fV aJ)
def Qi:Option Nat->D|some i=>.int (i:Int)|none=>.cK
theorem AW(s)(a:k<c):∀(l:List Nat)x,(∀i∈l,i<r)->∃ρ',eU (aI 3) (dH (eL wR (aL ay (aL ay (O 0) (O 3)) (O 2)) (aG (.int 0))) (bF (O 3)) bV) (l.map λi=>.int ((i:Nat):Int)) [~~~eZ r c W,s,~~~(.int (k:Int)),x]=
  match l.find? λi=>decide (W i k≠0)with|some i=>.ok (.rt (.int (i:Int)) ρ')|none=>.ok (.nx ρ')
 |[],x,_=>⟨_,rfl⟩
 |i::l,x,h=>by
  have b:=h i afH
  by_cases hw:W i k=0
  obtain⟨ρ',d⟩:=AW s a l (~~~(.int (i:Int))) λj e=>h j (afA _ e)
  refine⟨ρ',?_⟩;rw[afR,agA];simp[DB _ b,ko _ a,hw];rw[d];simp;refine⟨[~~~eZ r c W,s,~~~(.int (k:Int)),~~~(.int (i:Int))],?_⟩;rw[afR,agA];simp[DB _ b,ko _ a,hw]
theorem Th(p)(s r):((List.range (r-s)).map λi=>s+i).find? p=(List.range r).find? λi=>decide (s<=i)&&p i:=by
 by_cases h:s<=r
 have e:List.range r=List.range s++(List.range (r-s)).map λi=>s+i:=by
  have:=Io (λi=>i) (λi=>s+i) s (r-s);rw[List.map_id']at this;rw[this,show s+(r-s)=r by lia];refine(agm λi=>?_);rw[afF]
  by_cases b:i<r
  rw[afV b];simp
  lia
  rw[afO (by simpa using b)];rfl
 rw[e,List.find?_append];have e1:(List.range s).find? (λi=>decide (s<=i)&&p i)=none:=aha.mpr λi b=>by
  have:=afG.mp b;simp
  lia
 rw[e1,Option.none_or];have:∀l:List Nat,(∀i∈l,s<=i)->l.find? p=l.find? λi=>decide (s<=i)&&p i:=λl=>by
  induction l with|nil=>intro _;rfl|cons a l d=>intro c;have f:=c a afH;rw[agA,agA,d λi b=>c i (afA _ b)];simp[f]
 exact this _ λi b=>by
  obtain⟨j,_,rfl⟩:=af6.mp b
  lia
 rw[show r-s=0 by lia]
 symm
 exact aha.mpr λi b=>by
  have:=afG.mp b;simp
  lia
theorem La{s r:Nat}(hs:s<=1000000)(a:r<=1000000):AB [.int (s:Int),.int (r:Int)]=.ok (((List.range (r-s)).map λi=>s+i).map λi=>.int ((i:Nat):Int)):=by simp! only[AB,two,bq,yw,u9 hs,u9 a,Bool.and_self,if_true];unfold vm;rw[show((r:Int)-(s:Int)).toNat=r-s by lia,afS];refine agg (λl=>(Except.ok l:M (List D))) (afY λi _=>?_);show D.int ((s:Int)+(i:Int))=D.int (((s+i:Nat)):Int);rw[ais]
theorem Ga{r c s k:Nat}{W}(a:k<c)(l:r<=1000)(hs:s<=1000):e7 Y [eZ r c W,.int s,.int k]=.ok (Qi (jD r W s k)):=by
 obtain⟨b,e⟩:=AW (r:=r) (W:=W) (~~~(.int (s:Int))) a ((List.range (r-s)).map λi=>s+i) none (λi d=>by obtain⟨j,f,rfl⟩:=af6.mp d;have:=afG.mp f;omega);rw[Th]at e;have g:((List.range r).find? λi=>decide (s<=i)&&decide (W i k≠0))=jD r W s k:=rfl;rw[g]at e;have h:=La (s:=s) (r:=r) (by omega) (by omega);simp! only[e7,aA,rY,ai];simp! only[List.map_cons,List.map_nil,List.length_cons,List.length_nil,List.cons_append,List.nil_append,lZ,Zl,Oa,yu,Ik,N9,bq,
  iE 1 (ρ:= ~~~eZ r c W:: ~~~(.int (s:Int)):: ~~~(.int (k:Int))::List.replicate (4-(0+1+1+1)) none) rfl,iE 0 (ρ:= ~~~eZ r c W:: ~~~(.int (s:Int)):: ~~~(.int (k:Int))::List.replicate (4-(0+1+1+1)) none) rfl,Zr,h]
 rw[show(some (L.J (eZ r c W)):: ~~~(.int (s:Int)):: ~~~(.int (k:Int))::List.replicate (4-(0+1+1+1)) none)=[some (L.J (eZ r c W)),~~~(.int (s:Int)),~~~(.int (k:Int)),none]from rfl,e];cases jD r W s k with|none=>rfl|some i=>rfl
theorem Qj(F:Nat->c)(d:i<r)(e:j<r):((((List.range r).map F).set i (F j)).set j (F i))=(List.range r).map λm=>F (aJ i j m):=by
 refine agm λm=>?_
 rw[afF]
 by_cases a:m<r
 rw[afV a];unfold aJ
 by_cases e1:m=i
 subst e1
 by_cases b:j=m
 subst b;rw[afK (by simpa using a)];simp;rw[afD b,afK (by simpa using a)];simp
 by_cases b:m=j
 subst b;rw[afK (by simpa using a)];simp[e1];rw[afD (λz=>b z.symm),afD (λz=>e1 z.symm),afF,afV a];simp[e1,b];rw[afO (by simpa using a),afO (by simpa using a)];rfl
def Iq(h:k<n):L2.B6 n (k:Int)=some k:=by unfold L2.B6;rw[afz (by lia),afz (by lia)];simp
theorem Gb(F:Nat->D)(a:i<r)(b:j<r):dU Y (.ow ((List.range r).map F)) [.int i,.int j]=.ok (.cK,.ow ((List.range r).map λm=>F (aJ i j m))):=by have e1:L2.B6 r (i:Int)=some i:=Iq a;have c:L2.B6 r (j:Int)=some j:=Iq b;simp[dU,runC,tN,dY,RT,G5,rJ F a,rJ F b,e1,c,sy,pW];rw[Qj F a b]
theorem DJ(a:k<c)(e:∀j,j<c->bz (x j) b)(f:∀j,j<c->bz (y j) b)(h:p≠0)(hs:b+b<=134217728)(i:c<=1000):dW Y [dJ c x,dJ c y,.int k,.int p]=.ok (dJ c λj=>(y k*x j-x k*y j).fdiv p):=by
 have z:v5 [dJ c x,dJ c y]=.ok ((List.range c).map λj=>.tup [.int (x j),.int (y j)]):=by show Except.ok (ja _ _)=_;rw[mR]
 have d:br (b4 [4,5]) bM (aL oj (aL JH (aL gX (aL ay (O 1) (O 2)) (O 4)) (aL gX (aL ay (O 0) (O 2)) (O 5))) (O 3)) [~~~dJ c x,~~~dJ c y,~~~(.int (k:Int)),~~~.int p,none,none] ((List.range c).map λj=>.tup [.int (x j),.int (y j)]) []=.ok ((List.range c).map λj=>.int ((y k*x j-x k*y j).fdiv p)):=bf _ (by lia) λj g=>by refine⟨[~~~dJ c x,~~~dJ c y,~~~(.int (k:Int)),~~~.int p,~~~.int (x j),~~~.int (y j)],by simp[jS],?_⟩;simp[ko _ a,iR _ _ (iy (f k a) (e j g) hs),iR _ _ (iy (e k a) (f j g) hs),u6 _ _ h]
 simp[dW,aA,tO,ai,z,d];rfl
def iS(h w:Nat)(W:ZF):List D:=(List.range h).map λi=>dJ w (W i)
def nS(h w)(W:ZF):D.lst (iS h w W)=eZ h w W:=rfl
def sC(ps:List Nat):List D:=ps.map λc=>D.int ((c:Nat):Int)
@[simp]theorem Wi (ps:List Nat):(sC ps).length=ps.length:=by unfold sC;simp
def ve(Y:afp):afw:=(aq (aU 5 (Bg 2 (aa (U (O 2) af) iw)))
  (aq (aU 6 (Bg 1 (aa (U (O 1) (U (O 5) (U (O 4) af))) (ah 3 (e7 Y)))))
  (aq (dH (JY (O 6)) NQ bV)
  (aq (Cr (sM 1 2 (dU Y) (U (O 6) (U (O 5) af))))
  (o6 1 (aq (aU 7 (aL ay (O 1) (O 5)))
  (aq (qE 1 (Pf (fQ (U (O 1) af) jQ) (b4 [9,8]) bM (GX (eL iW (O 9) (O 5)) (O 8) (aa (U (O 8) (U (O 7) (U (O 4) (U (O 3) af)))) (ah 4 (dW Y)))) (List.map (·.2) [(("i":Str),9),("row",8)])))
  (aq (aU 3 (aL ay (O 7) (O 4)))
  (sL 2 (O 4))))))))))
@[simp]theorem abB (i):AD (.int i)=.ok (.int i):=rfl
@[simp]theorem abC:AD .cK=.ok .cK:=rfl
@[simp]theorem abD (fr) (ρ):Cr fr ρ=(fr ρ>>=λp=>.ok (.nx p.2)):=rfl
def Ti(W)(r c)(p):gy W r c p r=W r:=by funext j;unfold gy;rw[afz rfl]
def Qk(W)(c)(p)(h:m≠r):gy W r c p m=λj=>(W r c*W m j-W m c*W r j).fdiv p:=by funext j;unfold gy;rw[afy h]
theorem Tj(T F G v k n:Option L)(H:∀i,i<h->∀j,j<w->bz (W i j) b)(I:p≠0)(hs:b+b<=134217728)(d:c<w)(N:h<=1000)(hw:w<=1000)(P:ps.length<=h):
  ∃x y z A,ve Y [T,some (.ow (iS h w W)),some (.ow (sC ps)),~~~.int p,~~~(.int (c:Int)),F,G,v,k,n]=match jD h W ps.length c with
   |none=>.ok (.ct [T,some (.ow (iS h w W)),some (.ow (sC ps)),~~~.int p,~~~(.int (c:Int)),~~~(.int (ps.length:Int)),A,x,y,z])
   |some i=>.ok (.nx [T,some (.ow (iS h w (gy (aE W ps.length i) ps.length c p))),some (.ow (sC (ps++[c]))),~~~.int (aE W ps.length i ps.length c),~~~(.int (c:Int)),~~~(.int (ps.length:Int)),A,x,y,z]):=by
 have f:=Ga (Y:=Y) (W:=W) d N (show ps.length<=1000 by lia);cases e:jD h W ps.length c with
 |none=>rw[e]at f;refine⟨v,k,n,~~~.cK,?_⟩;simp! [ve,bE,dF,nS,f,Qi]
 |some i=>
  rw[e]at f;obtain⟨B,Q,i3⟩:=Ex.gR e;have R:ps.length<=i/\W i c≠0:=by simpa using Q
  have g:ps.length<h:=by lia
  have S:=Gb (Y:=Y) (λm=>dJ w (W m)) B g;have X:dU Y (.ow (iS h w W)) [.int (i:Int),.int (ps.length:Int)]=.ok (.cK,.ow (iS h w (aE W ps.length i))):=by refine S.trans ?_;refine agg (λl=>(Except.ok (D.cK,L.ow l):M (D×L))) (afY λm _=>?_);unfold aE;rw[Ex.wL]
  have C:∀o,o<h->∀j,j<w->bz (aE W ps.length i o j) b:=λo q j Z=>H _ (Ex.nN g B q) j Z
  have en:jQ [eZ h w (aE W ps.length i)]=.ok ((List.range h).map λm=>.tup [.int ((m:Nat):Int),dJ w (aE W ps.length i m)]):=by show Except.ok (DL.numbered 0 _)=_;rw[kj];simp
  have r:∀s:ak,s=[T,~~~eZ h w (aE W ps.length i),some (.ow (sC ps)),~~~.int p,~~~(.int (c:Int)),~~~(.int (ps.length:Int)),~~~(.int (i:Int)),~~~dJ w (aE W ps.length i ps.length),none,none]->
    br (b4 [9,8]) bM (GX (eL iW (O 9) (O 5)) (O 8) (aa (U (O 8) (U (O 7) (U (O 4) (U (O 3) af)))) (ah 4 (dW Y)))) s ((List.range h).map λm=>.tup [.int ((m:Nat):Int),dJ w (aE W ps.length i m)]) []=.ok (iS h w (gy (aE W ps.length i) ps.length c p)):=λs t=>by
   subst t;refine bf _ (by lia) λm hm=>?_
   refine⟨[T,~~~eZ h w (aE W ps.length i),some (.ow (sC ps)),~~~.int p,~~~(.int (c:Int)),~~~(.int (ps.length:Int)),~~~(.int (i:Int)),~~~dJ w (aE W ps.length i ps.length),~~~dJ w (aE W ps.length i m),~~~(.int (m:Int))],by simp[jS],?_⟩
   by_cases a:m=ps.length
   subst a;rw[Ti];simp;have u:¬(m:Int)=(ps.length:Int):=by lia
   rw[Qk _ c p a];simp[u,DJ (Y:=Y) d (C m hm) (C ps.length g) I hs hw]
  have ap:(sC ps).length<sizeLine:=by rw[Wi,show sizeLine=16777216 from rfl];lia
  refine⟨~~~dJ w (aE W ps.length i ps.length),k,n,~~~(.int (i:Int)),?_⟩;have E:ps.length<sizeLine:=by rw[show sizeLine=16777216 from rfl];lia
  simp! [ve,bE,dF,nS,f,Qi,sM,X,DB _ g,en,ko _ d,E];rw[r _ rfl];simp[ko _ d,E,sC]
theorem DK(c f):((List.range (f+1)).map λj=>D.int ((c+j:Nat):Int))=.int ((c:Nat):Int)::(List.range f).map λj=>.int ((c+1+j:Nat):Int):=by rw[ago,afR,afS];refine agg (λl=>D.int ((c:Nat):Int)::l) (afY λj _=>?_);show D.int ((c+(j+1):Nat):Int)=D.int ((c+1+j:Nat):Int);rw[show c+(j+1)=c+1+j by lia]
def bX(B k:Nat):Nat:=2^k*(B+1)-1
theorem yH(B k):bX B (k+1)=bX B k+bX B k+1:=by
 unfold bX;have:0<2^k*(B+1):=Nat.mul_pos (agI k) (by lia);rw[Nat.pow_succ,ahT (2^k) 2,Nat.mul_assoc]
 lia
def BS(B)(h:k<=l):bX B k<=bX B l:=by unfold bX;have:=agn (B+1) (agS (show 0<2 by decide) h);omega
theorem yI(T)(hs:bX B (h+1)<=134217728)(Q:h<=1000)(hw:w<=1000):∀f c(W:ZF)p(ps:List Nat)(y n o r s t:Option L),c+f<=w->(∀i,i<h->∀j,j<w->bz (W i j) (bX B ps.length))->p≠0->bz p (bX B ps.length)->ps.length<=h->(∃y4 y5 z A C E,eU (aI 4) (ve Y) ((List.range f).map λj=>.int ((c+j:Nat):Int)) [T,some (.ow (iS h w W)),some (.ow (sC ps)),~~~.int p,y,n,o,r,s,t]=
   .ok (.nx [T,some (.ow (iS h w (fV h f ps.length c W p ps).1)),some (.ow (sC (fV h f ps.length c W p ps).2.2)),~~~.int (fV h f ps.length c W p ps).2.1,y4,y5,z,A,C,E]))/\
  (∀i,i<h->∀j,j<w->bz ((fV h f ps.length c W p ps).1 i j) (bX B h))/\(fV h f ps.length c W p ps).2.1≠0/\bz (fV h f ps.length c W p ps).2.1 (bX B h)/\(fV h f ps.length c W p ps).2.2.length<=h
 |0,c,W,p,ps,y,n,o,r,s,t,hc,u,F,g,k=>⟨⟨y,n,o,r,s,t,rfl⟩,λi hi j l=>(u i hi j l).mono (BS B k),F,g.mono (BS B k),k⟩
 |f+1,c,W,p,ps,y,n,o,r,s,t,hc,u,F,g,k=>by
  have hb:=yH B h;have hm:=BS B k;obtain⟨A,C,E,z,st⟩:=Tj (Y:=Y) (p:=p) T n o r s t u F (by lia) (show c<w by lia) Q hw k;rw[DK];unfold fV;cases e:jD h W ps.length c with
  |none=>rw[e]at st;obtain⟨⟨R,S,X,Z,z8,z9,G⟩,H,I,N,P⟩:=yI T hs Q hw f (c+1) W p ps (~~~(.int (c:Int))) (~~~(.int (ps.length:Int))) z A C E (by lia) u F g k;refine⟨⟨R,S,X,Z,z8,z9,?_⟩,H,I,N,P⟩;simp! only[oQ,qk,uz,bq,List.set_cons_succ,List.set_cons_zero,st,SW];exact G
  |some i=>
   rw[e]at st;obtain⟨i1,i2,_⟩:=Ex.gR e;have ds:ps.length<=i/\W i c≠0:=by simpa using i2
   have v:ps.length<h:=by lia
   have e2:aE W ps.length i ps.length c=W i c:=by unfold aE aJ;rw[afz rfl]
   have m:∀b,b<h->∀j,j<w->bz (aE W ps.length i b j) (bX B ps.length):=λb d j l=>u _ (Ex.nN v i1 d) j l
   have a:(ps++[c]).length=ps.length+1:=by simp
   have x:=yH B ps.length;have hC:∀b,b<h->∀j,j<w->bz (gy (aE W ps.length i) ps.length c p b j) (bX B (ps++[c]).length):=λb d j l=>by
    rw[a,x];unfold gy
    by_cases q:b=ps.length
    rw[afz q];exact(m _ v j l).mono (by lia);rw[afy q];exact(((m _ v c (by lia)).mul (m b d j l)).sub ((m b d c (by lia)).mul (m _ v j l))).fdiv
   obtain⟨⟨R,S,X,Z,z8,z9,G⟩,H,I,N,P⟩:=yI T hs Q hw f (c+1) (gy (aE W ps.length i) ps.length c p) (aE W ps.length i ps.length c) (ps++[c]) (~~~(.int (c:Int))) (~~~(.int (ps.length:Int))) z A C E (by lia) hC (by rw[e2];exact ds.2) (by rw[a,x];exact(m _ v c (by lia)).mono (by lia)) (by rw[a];lia);rw[a]at G H I N P;refine⟨⟨R,S,X,Z,z8,z9,?_⟩,H,I,N,P⟩;simp! only[oQ,qk,uz,bq,List.set_cons_succ,List.set_cons_zero,st,qj];exact G
def jk(c:Nat)(P:PF)(i:Nat):Int:=eG ((List.range c).map (P i))
def fO(c:Nat)(P:PF):ZF:=λi j=>fY (jk c P i) (P i j)
def cD(r c:Nat)(P:PF):ZF×Int×List Nat:=fV r c 0 0 (fO c P) 1 []
def qo(Y:afp)(T:D)(ps:List Nat):D:=.obj (Y 21) ["table","leading"] [T,.lst (sC ps)]
def gS(r c:Nat)(P:PF):PF:=λi j=>((cD r c P).1 i j,(cD r c P).2.1)
theorem lC(g:∀i,i<r->∀j,j<c->sz (P i j) b)(h:i<r):bz (jk c P i) (1+c*b)/\jk c P i≠0/\∀j,j<c->(P i j).2∣jk c P i:=by
 have z:∀p∈(List.range c).map (P i),bz p.2 b/\p.2≠0:=λp a=>by obtain⟨j,e,rfl⟩:=af6.mp a;have:=g i h j (afG.mp e);exact⟨this.d,this.z⟩
 have f:=u7 (l:=(List.range c).map (P i)) λp a=>(z p a).1
 rw[afB,afN]at f;exact⟨f,BN λp a=>(z p a).2,λj e=>Dz (λp a=>(z p a).2) _ (af6.mpr ⟨j,afG.mpr e,rfl⟩)⟩
theorem rL(e:∀i,i<r->∀j,j<c->sz (P i j) b)(hs:bX (b+(1+c*b)) (r+1)<=134217728)(q:r<=1000)(s:c<=1000):i7 Y [eT Y r c P]=.ok (qo Y (eT Y r c (gS r c P)) (cD r c P).2.2):=by
 have b1:b+(1+c*b)<=bX (b+(1+c*b)) (r+1):=by unfold bX;have:(b+(1+c*b)+1)*1<=(b+(1+c*b)+1)*2^(r+1):=ag2 _ (agI _);rw[ahT (2^(r+1))];omega
 have e0:∀i,i<r->aQ Y [dm c (P i)]=.ok (.int (jk c P i)):=λi a=>by
  have z:∀p∈(List.range c).map (P i),bz p.2 b/\p.2≠0:=λp h=>by obtain⟨j,f,rfl⟩:=af6.mp h;have:=e i a j (afG.mp f);exact⟨this.d,this.z⟩
  have:=rH (Y:=Y) z (by rw[afB,afN];omega);rw[afS]at this;exact this
 have e1:∀i,i<r->bN Y [dm c (P i),.int (jk c P i)]=.ok (dJ c (fO c P i)):=λi a=>by
  have:=yD (Y:=Y) (l:=(List.range c).map (P i)) (c:=jk c P i) (b:=b) (B:=1+c*b) (λp h=>by obtain⟨j,f,rfl⟩:=af6.mp h;have:=e i a j (afG.mp f);exact⟨this.n,this.z⟩) (lC e a).1 (by omega) (by simp;omega)
  rw[afS,afS]at this;exact this
 have k:∀m:ak,m=[~~~eT Y r c P,none,none,none,none,none,none,none,none,none]->br (aI 8) bM (aa (U (O 8) (U (aa (U (O 8) af) (ah 1 (aQ Y))) af)) (ah 2 (bN Y))) m ((List.range r).map λi=>dm c (P i)) []=.ok (iS r c (fO c P)):=λm o=>by
  subst o;refine bf _ (by omega) λi a=>⟨_,rfl,?_⟩
  simp[e0 i a,e1 i a]
 have t:∀i,i<r->∀j,j<c->bz (fO c P i j) (bX (b+(1+c*b)) ([]:List Nat).length):=λi a j f=>by
  have:bX (b+(1+c*b)) ([]:List Nat).length=b+(1+c*b):=by unfold bX;simp
  rw[this];exact oV (e i a j f).n (lC e a).1
 obtain⟨⟨u,v,w,x,y,A,g⟩,C,E,F,G⟩:=yI (Y:=Y) (~~~eT Y r c P) hs q s c 0 (fO c P) 1 [] none none none none none none (by omega) t (by decide) (by
  have:bX (b+(1+c*b)) ([]:List Nat).length=b+(1+c*b):=by unfold bX;simp
  rw[this];exact bz.mono (b:=1) (by show Int.natAbs 1<2^1;decide) (by omega)) (agQ _)
 have g:eU (aI 4) (ve Y) ((List.range c).map λj=>.int ((j:Nat):Int)) [~~~eT Y r c P,some (.ow (iS r c (fO c P))),some (.ow []),~~~.int 1,none,none,none,none,none,none]=.ok (.nx [~~~eT Y r c P,some (.ow (iS r c (cD r c P).1)),some (.ow (sC (cD r c P).2.2)),~~~.int (cD r c P).2.1,u,v,w,x,y,A]):=by refine Eq.trans ?_ g;simp[sC]
 simp! only[i7,aA,CY,ai];simp! [fk (show c<=1000000 by omega)];rw[k _ rfl];simp[show sizeLine=16777216 from rfl];unfold ve at g;simp! only[List.map_cons,List.map_nil]at g;rw[g];simp[bE,dF,nS,yE q s];rfl
open Ex (jD aE gy fV aJ mk nM)
def vF(P:PF):afq:=λi j=>vl (P i j)
theorem gT(f:∀i,i<r->∀j,j<c->sz (P i j) b):Vagram.reduce (mk r c (vF P))=(mk r c (vF (gS r c P)),(cD r c P).2.2)/\(cD r c P).2.1≠0:=by
 let l:Nat->Rat:=λi=>if jk c P i=0 then 1 else(jk c P i:Rat)
 let A:afq:=λi j=>(fO c P i j:Rat)/l i
 have g:∀i,l i≠0:=λi=>by
  show(if jk c P i=0 then(1:Rat)else(jk c P i:Rat))≠0
  by_cases h:jk c P i=0
  rw[afz h];decide;rw[afy h];exact gp h
 have n:∀i,i<r->∀j,j<c->A i j=vF P i j:=λi a j d=>by obtain⟨_,k,o⟩:=lC f a;have e:l i=(jk c P i:Rat):=afy k;show(fO c P i j:Rat)/l i=vl (P i j);unfold fO;rw[e,lQ (o j d) (f i a j d).z];have:=gp k;grind
 obtain⟨p,m,q⟩:=Ex.Qc r c (fO c P) A λi=>⟨l i,g i,λj=>by show(fO c P i j:Rat)=l i*((fO c P i j:Rat)/l i);have:=g i;grind⟩
 rw[<-Ex.d7 n,Ex.Qa];refine⟨?_,m⟩;have e:mk r c (nM r c 0 0 A []).1=mk r c (vF (gS r c P)):=Ex.d7 λi a j d=>by have:=q i a j d;show(nM r c 0 0 A []).1 i j=((cD r c P).1 i j:Rat)/((cD r c P).2.1:Rat);unfold cD;rw[this];have:=gp m;grind
 rw[e,<-p];rfl
theorem rM(e:∀i,i<r->∀j,j<c->sz (P i j) b)(hs:bX (b+(1+c*b)) (r+1)<=134217728)(f:r<=1000)(g:c<=1000):(∀i,i<r->∀j,j<c->sz (gS r c P i j) (bX (b+(1+c*b)) r))/\(cD r c P).2.2.length<=r:=by
 have h:∀i,i<r->∀j,j<c->bz (fO c P i j) (bX (b+(1+c*b)) ([]:List Nat).length):=λi a j d=>by
  have:bX (b+(1+c*b)) ([]:List Nat).length=b+(1+c*b):=by unfold bX;simp
  rw[this];exact oV (e i a j d).n (lC e a).1
 obtain⟨_,k,l,m,o⟩:=yI (Y:=λ_=>0) (none) hs f g c 0 (fO c P) 1 [] none none none none none none (by lia) h (by decide) (by
  have:bX (b+(1+c*b)) ([]:List Nat).length=b+(1+c*b):=by unfold bX;simp
  rw[this];exact bz.mono (b:=1) (by show Int.natAbs 1<2^1;decide) (by lia)) (agQ _)
 exact⟨λi a j d=>⟨k i a j d,m,l⟩,o⟩
theorem BU(hz:∀i,i<r->∀j,j<c->(P i j).2≠0)(a:i<r)(b:j<c):(P i j).2∣eG (dz r c P)/\eG (dz r c P)≠0:=by
 have z:∀p∈dz r c P,p.2≠0:=λp d=>by obtain⟨i,j,a,b,rfl⟩:=qm d;exact hz i a j b
 exact⟨Dz z _ (K5 a b),BN z⟩
theorem mS(n)(f):((sumZ n f:Int):Rat)=Ex.aF n λk=>(f k:Rat):=by
 induction n with|zero=>rfl|succ n a=>rw[F9,aip,a];rfl
def mK(hz:∀i,i<r->∀j,j<c->(P i j).2≠0):eG (dz r c P)≠0:=BN λp a=>by obtain⟨i,j,b,d,rfl⟩:=qm a;exact hz i b j d
theorem DM(b:∀i,i<r->∀j,j<n->(P i j).2≠0)(d:∀i,i<n->∀j,j<c->(Q i j).2≠0)(f:i<r)(g:j<c):vl (uD n r c P Q i j)=Ex.mulR n (vF P) (vF Q) i j/\(uD n r c P Q i j).2≠0:=by
 have k1:=mK b;have k2:=mK d;refine⟨?_,afW k1 k2⟩;unfold uD vl iG Ex.mulR;rw[mS];have e:(Ex.aF n λk=>(((fY (eG (dz r n P)) (P i k)*fY (eG (dz n c Q)) (Q k j):Int)):Rat))=Ex.aF n λk=>((eG (dz r n P):Rat)*(eG (dz n c Q):Rat))*(vF P i k*vF Q k j):=Ex.az λk a=>by rw[af0,lQ (BU b f a).1 (b i f k a),lQ (BU d a g).1 (d k a j g)];show _=_*(vl (P i k)*vl (Q k j));grind
 rw[e,Ex.cQ,af0];have:=gp k1;have:=gp k2;grind
theorem Lb(a:∀i,i<n->∀j,j<n->(A i j:Rat)=c*R i j):∀k i,i<n->∀j,j<n->((K6 n A k i j:Int):Rat)=c^k*Ex.SK n R k i j
 |0,i,b,j,d=>by
  show((zU i j:Int):Rat)=c^0*Ex.cg i j;unfold zU Ex.cg;rw[Rat.pow_zero]
  by_cases h:i=j
  rw[afz h,afz h,Rat.one_mul];rfl;rw[afy h,afy h,Rat.one_mul];rfl
 |k+1,i,b,j,d=>by
  show((sumZ n λm=>K6 n A k i m*A m j:Int):Rat)=c^(k+1)*Ex.aF n λm=>Ex.SK n R k i m*R m j
  rw[mS,<-Ex.cQ];refine Ex.az λm e=>?_
  rw[af0,Lb a k i b m e,a m e j d,Rat.pow_succ];grind
theorem Ol(d:∀i,i<n->∀j,j<n->(P i j).2≠0)(h:i<n)(l:j<n):vl (Td n k P i j)=Ex.SK n (vF P) k i j/\(Td n k P i j).2≠0:=by
 have k1:=mK d;have e:eG (dz n n P)^k≠0:=Int.pow_ne_zero k1;refine⟨?_,e⟩;unfold Td vl;rw[Lb (c:=(eG (dz n n P):Rat)) (R:=vF P) (λa f b g=>lQ (BU d f g).1 (d a f b g)) k i h j l,Rat.intCast_pow];have:((eG (dz n n P):Rat))^k≠0:=by rw[<-Rat.intCast_pow];exact gp e
 grind
theorem Lc:∀(l m:List Int),PyData.eqvAll (l.map PyData.int) (m.map PyData.int)=decide (l=m)
 |[],[]=>by simp[PyData.eqvAll]
 |[],_::_=>by simp[PyData.eqvAll]
 |_::_,[]=>by simp[PyData.eqvAll]
 |a::l,b::m=>by
  rw[afR,afR];simp only[PyData.eqvAll,PyData.eqv,Lc l m]
  by_cases c:a=b<;>by_cases d:l=m<;>simp[c,d]
theorem Tn(l m:List Int):Pk (.lst (l.map D.int)) (.lst (m.map D.int))=.ok (decide (l=m)):=by
 have p:∀l:List Int,lT (.lst (l.map D.int))=some (.list (l.map PyData.int)):=λl=>by unfold lT;rw[BP (F:=D.int) (G:=PyData.int) λi _=>by simp[lT]];rfl
 have s:∀l:List Int,SeqAt.shaped (.list (l.map PyData.int))=true:=λl=>by
  unfold SeqAt.shaped;rw[afL];constructor;unfold PyData.canLay0;exact BQ λi _=>by simp[PyData.canLay0]
  refine af7 ?_;unfold PyData.depth;have:PyData.depthAll (l.map PyData.int)<=0:=BR λi _=>by simp[PyData.depth]
  lia
 unfold Pk;rw[p,p];simp only[s,Bool.and_self,if_true];unfold PyData.eqv;rw[Lc]
def qp(ps):sC ps=(ps.map λc=>((c:Nat):Int)).map D.int:=by unfold sC;rw[afS];rfl
theorem Ql{l m:List Nat}:(l.map λc=>((c:Nat):Int))=(m.map λc=>((c:Nat):Int))↔l=m:=by constructor;intro h;exact List.map_inj_right (λa b e=>by lia)|>.mp h;intro h;rw[h]
@[simp]theorem aeE (T) (ps):fX (Y 21) "table" (qo Y T ps)=.ok T:=bW rfl
@[simp]theorem abE (T) (ps):fX (Y 21) "leading" (qo Y T ps)=.ok (.lst (sC ps)):=bW rfl
def Zt(ds:List D):M (List D):=DL.one ds>>=λd=>eO d>>=λk=>if 0<=k/\k<=1000 then .ok (vm 0 k.toNat)else ao
@[simp]theorem aed:YN fs ρ=(fs ρ>>=Zt):=rfl
theorem To{n:Nat}(a:n<=1000):Zt [.int (n:Int)]=.ok (sC (List.range n)):=by have e:(0:Int)<=(n:Int)/\(n:Int)<=1000:=⟨by lia,by lia⟩;unfold Zt;simp only[bq,DL.one,yw,if_pos e,Int.toNat_natCast,K1];rfl
def Ld(r:Nat)(P:PF):PF:=λi j=>P i (r+j)
theorem DN{r w b:Nat}{P:PF}(g:∀i,i<r->∀j,j<w->sz (P i j) b)(hs:bX (b+(1+w*b)) (r+1)<=134217728)(o:r<=w)(hw:w<=1000):ia Y [eT Y r w P]=if decide ((cD r w P).2.2≠List.range r)then raises (Y 7)else .ok (eT Y r (w-r) (Ld r (gS r w P))):=by
 have e1:=rL (Y:=Y) g hs (by omega) hw;have e:=To (n:=r) (by omega);have f:Pk (.lst (sC (cD r w P).2.2)) (.lst (sC (List.range r)))=.ok (decide ((cD r w P).2.2=List.range r)):=by rw[qp,qp,Tn];congr 1;exact ahD.mpr Ql
 have d:=Oe (Y:=Y) (P:=gS r w P) (r:=r) (c:=w) 0 r r (w-r) (by omega) hw;have k:(decide (r<0+r)||decide (w<r+(w-r)))=false:=by simp;omega
 rw[k]at d;have l:((0:Nat):Int)=0:=rfl;have m:((w-r:Nat):Int)=(w:Int)-(r:Int):=by omega
 rw[l,m]at d
 by_cases h:(cD r w P).2.2=List.range r
 have a:Pk (.lst (sC (cD r w P).2.2)) (.lst (sC (List.range r)))=.ok true:=by rw[f,af7 h]
 rw[show decide ((cD r w P).2.2≠List.range r)=false by simp[h]];simp[ia,aA,nk,ai,e1,VC,e,a,d];rfl;have a:Pk (.lst (sC (cD r w P).2.2)) (.lst (sC (List.range r)))=.ok false:=by rw[f,aga h]
 simp[ia,aA,nk,ai,e1,VC,e,a,h]
def nT:PF:=λi j=>(zU i j,1)
def yJ(i j):sz (nT i j) 1:=⟨S9 i j,by show Int.natAbs 1<2^1;decide,by show(1:Int)≠0;decide⟩
theorem rN(e:∀i,i<r->∀j,j<c->sz (P i j) b)(f:∀i,i<r->∀j,j<d->sz (Q i j) b):∀i,i<r->∀j,j<c+d->sz (fC c P Q i j) b:=λi a j g=>by
 unfold fC
 by_cases h:j<c
 rw[afz h];exact e i a j h;rw[afy h];exact f i a (j-c) (by omega)
def Ae(r:Nat)(P:PF):PF:=Ld r (gS r (r+r) (fC r P nT))
def Ir(r:Nat)(P:PF):List Nat:=(cD r (r+r) (fC r P nT)).2.2
theorem MR(m:1<=b)(o:∀i,i<r->∀j,j<c->sz (P i j) b)(hs:bX (b+(1+(r+r)*b)) (r+1)<=134217728)(s:r<=500)(t:c<=500):gK Y [eT Y r c P]=if decide (r≠c)then raises (Y 4)else if decide (Ir r P≠List.range r)then raises (Y 7)else .ok (eT Y r r (Ae r P)):=by
 by_cases h:r=c
 subst h;have a:aX Y [eT Y r r P]=.ok .cK:=by rw[cA];simp
 have p:=K4 (Y:=Y) (n:=r) (by lia);have b1:=vd (Y:=Y) (r:=r) (c:=r) (r':=r) (d:=r) (P:=P) (Q:=nT) (by lia) (by lia) (by lia);have k:bZ Y [eT Y r r P,eT Y r r nT]=.ok (eT Y r (r+r) (fC r P nT)):=by rw[b1];simp
 have q:=rN (d:=r) o λi u j v=>(yJ i j).mono m
 have f:=DN (Y:=Y) q hs (by lia) (by lia);rw[show r+r-r=r by lia]at f;have l:i6 Y [.int (r:Int)]=.ok (eT Y r r nT):=p
 by_cases g:Ir r P=List.range r
 have e:(cD r (r+r) (fC r P nT)).2.2=List.range r:=g;rw[e]at f;simp! [gK,aA,lq,ai,a,l,k,f,g];rfl;have e:¬(cD r (r+r) (fC r P nT)).2.2=List.range r:=g;simp! [e]at f;simp! [gK,aA,lq,ai,a,l,k,f,g];have a:aX Y [eT Y r c P]=raises (Y 4):=by rw[cA];simp[h]
 simp[gK,aA,lq,ai,a,h]
theorem Af:∀f r c W p ps,ps.Nodup->(∀x∈ps,x<c)->(fV h f r c W p ps).2.2.Nodup/\∀x∈(fV h f r c W p ps).2.2,x<c+f
 |0,r,c,W,p,ps,j,e=>⟨j,λx d=>by have:=e x d;lia⟩
 |f+1,r,c,W,p,ps,j,e=>by
  unfold fV;cases jD h W r c with
  |none=>
   have g:=Af (h:=h) f r (c+1) W p ps j λx d=>by have:=e x d;lia
   exact⟨g.1,λx d=>by have:=g.2 x d;lia⟩
  |some i=>
   have g:=Af (h:=h) f (r+1) (c+1) (gy (aE W r i) r c p) (aE W r i r c) (ps++[c]) (by
    refine List.nodup_append.mpr ⟨j,by simp,λa k b l=>?_⟩;have:=e a k;simp at l
    lia) λx d=>by rcases agt.mp d with d|d;have:=e x d;lia;simp at d;lia
   exact⟨g.1,λx d=>by have:=g.2 x d;lia⟩
theorem Gd(r c)(P):(cD r c P).2.2.Nodup/\∀x∈(cD r c P).2.2,x<c:=by have:=Af (h:=r) c 0 0 (fO c P) 1 [] List.nodup_nil (by simp);rw[agG]at this;exact this
def Ge(G:Nat->D):List Nat->Nat->(Nat->D)->Nat->D
 |[],_,F=>F
 |c::a,k,F=>Ge G a (k+1) λi=>if i=c then G k else F i
theorem wO(G):∀(ps:List Nat)k F i,ps.Nodup->Ge G ps k F i=match ps.findIdx? λc=>decide (c=i)with|some r=>G (k+r)|none=>F i
 |[],k,F,i,_=>rfl
 |c::ps,k,F,i,h=>by
  have a:=agV.mp h;unfold Ge;rw[wO G ps (k+1) _ i a.2,List.findIdx?_cons]
  by_cases e:c=i
  subst e;have:(ps.findIdx? λd=>decide (d=c))=none:=ah0.mpr λx b=>by
   have:x≠c:=λz=>a.1 (z▸b)
   simp[this]
  rw[this];simp;have f:¬i=c:=λz=>e z.symm
  cases (ps.findIdx? λd=>decide (d=i))with|none=>simp[e,f]|some r=>simp[e];rw[show k+1+r=k+(r+1)by lia]
theorem DO(G)(a:∀r col rows,r<m->el (a0::a1::a2::some (.ow rows):: ~~~(.int ((r:Nat):Int)):: ~~~(.int ((col:Nat):Int))::rest)=.ok (G r)):∀(ps:List Nat)k F x y,k+ps.length<=m->(∀c∈ps,c<n)->
  ∃f g,eU (b4 [4,5]) (G5 3 el (O 5)) (numbered k (sC ps)) (a0::a1::a2::some (.ow ((List.range n).map F))::x::y::rest)=.ok (.nx (a0::a1::a2::some (.ow ((List.range n).map (Ge G ps k F)))::f::g::rest))
 |[],k,F,x,y,_,_=>⟨x,y,rfl⟩
 |c::ps,k,F,x,y,l,j=>by
  have h:=j c afH;simp only[List.length_cons]at l;obtain⟨f,g,o⟩:=DO G a ps (k+1) (λi=>if i=c then G k else F i) (~~~(.int (k:Int))) (~~~(.int (c:Int))) (by lia) λd p=>j d (afA _ p)
  refine⟨f,g,?_⟩;have e1:numbered k (sC (c::ps))=.tup [.int (k:Int),.int (c:Int)]::numbered (k+1) (sC ps):=rfl;have q:L2.B6 n (c:Int)=some c:=Iq h;have s:((List.range n).map F).set c (G k)=(List.range n).map λi=>if i=c then G k else F i:=by
   refine agm λi=>?_
   by_cases b:i<n
   rw[afF,afV b]
   by_cases e:c=i
   subst e;rw[afK (by simpa using b)];simp;rw[afD e,afF,afV b];have t:¬i=c:=λz=>e z.symm
   simp[t];rw[afO (by simpa using b),afO (by simpa using b)]
  rw[e1];simp[jS,G5,a k c _ (by lia),q,s];exact o
def pN(c:Nat)(ps:List Nat)(R:PF):PF:=λi j=>match ps.findIdx? λx=>decide (x=i)with|some r=>R r (c+j)|none=>(0,1)
def Bs(Y:afp)(T:D)(b:Bool):D:=.obj (Y 23) ["table","only"] [T,.bl b]
def Om(ps):sC ps=ps.map λc=>.int ((c:Nat):Int):=rfl
theorem Tp{d:Nat}(a:d<=1000):Mf (.lst [.tup [.int 0,.int 1]]) (.int (d:Int))=.ok (dm d λ_=>(0,1)):=by
 unfold Mf;have e1:(decide ([D.tup [.int 0,.int 1]].length*d<=sizeLine))=true:=by rw[show sizeLine=16777216 from rfl];exact af7 (by rw[agr,Nat.one_mul];lia)
 simp! only[KX,bq,yw,u9 (show d<=1000000 by lia),Int.toNat_natCast];rw[e1,Bool.and_self,afz rfl];unfold dm;refine agg (λl=>(Except.ok (D.lst l):M D)) ?_;clear e1 a
 induction d with|zero=>rfl|succ n b=>rw[agE,agW,b,ago,afR,afS];rfl
theorem Le(F)(h:a<=n):cutD ((List.range n).map F) (some (a:Int)) none=(List.range (n-a)).map λj=>F (a+j):=by have:=Il F (n:=n) (a:=a) (b:=n) h (by lia);unfold cutD at this|-;rw[afB,afN,HT.n8,HT.n8,aiV]at this;rw[afB,afN,HT.Jo,HT.n8];exact this
theorem Lf{r c r' d b:Nat}{P Q}(w:∀i,i<r->∀j,j<c->sz (P i j) b)(y:∀i,i<r->∀j,j<d->sz (Q i j) b)(hs:bX (b+(1+(c+d)*b)) (r+1)<=134217728)(E:r<=500)(F:c<=500)(G:d<=500):
  dX Y [eT Y r c P,eT Y r' d Q]=if decide (r≠r')then raises (Y 4)else if(cD r (c+d) (fC c P Q)).2.2.any (λx=>decide (c<=x))then .ok .cK
   else .ok (Bs Y (eT Y c d (pN c (cD r (c+d) (fC c P Q)).2.2 (gS r (c+d) (fC c P Q)))) (decide ((cD r (c+d) (fC c P Q)).2.2.length=c))):=by
 have b1:=vd (Y:=Y) (r:=r) (c:=c) (r':=r') (d:=d) (P:=P) (Q:=Q) (by lia) (by lia) (by lia)
 by_cases o:r=r'
 subst o;have k:bZ Y [eT Y r c P,eT Y r d Q]=.ok (eT Y r (c+d) (fC c P Q)):=by rw[b1];simp
 have l:=rN (d:=d) w y;have e1:=rL (Y:=Y) l hs (by lia) (by lia);have s:=Gd r (c+d) (fC c P Q);have z:=(rM l hs (by lia) (by lia)).2;have e0:decide (r≠r)=false:=by simp
 rw[e0,afy afJ];generalize gS r (c+d) (fC c P Q)=R at e1|-;generalize (cD r (c+d) (fC c P Q)).2.2=a at e1 s z|-;have g:∀e,e=[~~~eT Y r c P,~~~eT Y r d Q,~~~qo Y (eT Y r (c+d) R) a,none,none,none]->br (aI 5) bM (kD (eL LK (O 5) (aB (Y 19) "width" (O 0)))) e (sC a) []=.ok (a.map λx=>.bl (decide (c<=x))):=λe f=>by
  subst f;have:=lP (aI 5) (kD (eL LK (O 5) (aB (Y 19) "width" (O 0)))) [~~~eT Y r c P,~~~eT Y r d Q,~~~qo Y (eT Y r (c+d) R) a,none,none,none] (λx:Nat=>.int (x:Int)) (λx:Nat=>.bl (decide (c<=x))) a [] (by simp;lia) λx t=>⟨_,rfl,by simp[LK]⟩
  rw[agH]at this;exact this
 have a1:=uE (λx=>decide (c<=x)) a;generalize l:(a.any λx=>decide (c<=x))=B at a1|-;cases B with
 |true=>simp[dX,aA,iO,ai,k,e1,g _ rfl,a1]
 |false=>
  have p:∀x∈a,x<c:=λx t=>by have:=agb.mp l x t;simpa using this
  have h:∀e:ak,e=[~~~eT Y r c P,~~~eT Y r d Q,~~~qo Y (eT Y r (c+d) R) a,none,none,none]->br (aI 5) bM (aL Mf (aa (U (aa (U (aG (.int 0)) (U (aG (.int 1)) af)) eS) af) dB) (aB (Y 19) "width" (O 1))) e ((List.range c).map λj=>.int ((j:Nat):Int)) []=.ok ((List.range c).map λ_=>dm d λ_=>(0,1)):=λe f=>by
   subst f;refine bf _ (by lia) λi u=>⟨_,rfl,?_⟩
   simp! [Tp (show d<=1000 by lia)]
  obtain⟨H,I,v⟩:=DO (el:=vY (aL ay (aB (Y 19) "rows" (aB (Y 21) "table" (O 2))) (O 4)) (iB (aB (Y 19) "width" (O 0))) qD) (a0:= ~~~eT Y r c P) (a1:= ~~~eT Y r d Q) (a2:= ~~~qo Y (eT Y r (c+d) R) a) (rest:=[]) (n:=c) (m:=r) (λi=>dm d λj=>R i (c+j)) (λi A rows u=>by simp[rJ _ u];rw[Le _ (by lia),ah9];rfl) a 0 (λ_=>dm d λ_=>(0,1)) none none (by lia) p
  have q:((List.range c).map (Ge (λi=>dm d λj=>R i (c+j)) a 0 λ_=>dm d λ_=>(0,1)))=(List.range c).map λi=>dm d (pN c a R i):=afY λi _=>by
   rw[wO _ _ _ _ _ s.1];unfold pN;cases (a.findIdx? λx=>decide (x=i))with|none=>rfl|some r=>simp
  rw[q]at v;simp! [dX,aA,iO,ai,k,e1,g _ rfl,a1,fk (show c<=1000000 by lia)];rw[h _ rfl];simp[v,bE,dF];have C:iW (a.length:Int) (c:Int)=decide (a.length=c):=ahD.mpr (by lia);rw[C];rfl
 have k:bZ Y [eT Y r c P,eT Y r' d Q]=raises (Y 4):=by rw[b1];simp[o]
 simp[dX,aA,iO,ai,k,o]
theorem DQ(fZ:QF)(b)(el)(ρ:ak)(F G:i->D)(q):∀(l:List i)bY,bY.length+l.length<=16777216->(∀a∈l,∃ρ',fZ (F a) ρ=some ρ'/\b ρ'=.ok (q a)/\el ρ'=.ok (G a))->
  br fZ b el ρ (l.map F) bY=.ok (bY++(l.filter q).map G)
 |[],bY,_,_=>by simp[br]
 |a::l,bY,j,h=>by
  obtain⟨ρ',f,g,k⟩:=h a afH;simp only[List.length_cons]at j;have m:bY.length<sizeLine:=by rw[show sizeLine=16777216 from rfl];lia
  rw[afR,List.filter_cons]
  by_cases c:q a=true
  have d:=DQ fZ b el ρ F G q l (bY++[G a]) (by rw[afM,agr];lia) λa e=>h a (afA _ e)
  simp[br,f,g,k,m,d,c];have d:=DQ fZ b el ρ F G q l bY (by lia) λa e=>h a (afA _ e)
  simp only[Bool.not_eq_true]at c;simp[br,f,g,d,c]
theorem uF:∀l,iJ (l.map D.int)=some l|[]=>rfl|a::l=>by simp[iJ,uF l]
def Tq(ps):xG (.lst (sC ps))=.ok (ps.map λc=>((c:Nat):Int)):=by unfold xG;rw[KX,bq,qp,uF]
theorem EO(ps:List Nat)(x:Nat):(ps.map λc=>((c:Nat):Int)).contains (x:Int)=ps.contains x:=by
 induction ps with
 |nil=>rfl
 |cons c ps a=>
  rw[afR,ag9,ag9,a];have e:((x:Int)==(c:Int))=(x==c):=by
   by_cases h:x=c
   subst h;rw[ag5,ag5];have b:¬(x:Int)=(c:Int):=by lia
   rw[agq.mpr h,agq.mpr b]
  rw[e]
theorem map_getD(l:List a)(d)(g:a->b):l.map g=(List.range l.length).map λj=>g (l.getD j d):=by
 refine agm λi=>?_
 rw[afF,afF]
 by_cases h:i<l.length
 rw[afV h,afE h];simp[List.getD_eq_getElem?_getD,List.getElem?_eq_getElem h];rw[afO (by lia),afO (by rw[afN];lia)];rfl
def lR(c:Nat)(ps:List Nat):List Nat:=(List.range c).filter λx=>!ps.contains x
def DR(c:Nat)(ps:List Nat)(R:PF):PF:=λi j=>match ps.findIdx? λx=>decide (x=i)with
 |some r=>je (R r ((lR c ps).getD j 0))
 |none=>if i=(lR c ps).getD j 0 then(1,1)else(0,1)
theorem Qm(u:∀i,i<r->∀j,j<c->sz (P i j) b)(hs:bX (b+(1+c*b)) (r+1)<=134217728)(F:r<=500)(G:c<=500):
  jJ Y [eT Y r c P]=.ok (eT Y c (lR c (cD r c P).2.2).length (DR c (cD r c P).2.2 (gS r c P))):=by
 have e1:=rL (Y:=Y) u hs (by lia) (by lia);have q:=Gd r c P;have z:=(rM u hs (by lia) (by lia)).2;generalize gS r c P=R at e1|-;generalize (cD r c P).2.2=a at e1 q z|-;have v:∀g:ak,g=[~~~eT Y r c P,~~~qo Y (eT Y r c R) a,none,none,none,none,none]->br (aI 5) (Cw (O 5) (aB (Y 21) "leading" (O 1))) (O 5) g ((List.range c).map λj=>.int ((j:Nat):Int)) []=.ok (sC (lR c a)):=λg k=>by
  have:=DQ (aI 5) (Cw (O 5) (aB (Y 21) "leading" (O 1))) (O 5) g (λx:Nat=>.int (x:Int)) (λx:Nat=>.int (x:Int)) (λx=>!a.contains x) (List.range c) [] (by rw[afN];simp;lia) λx H=>by
   subst k;refine⟨_,rfl,?_,by simp⟩;have e:(Cw (O 5) (aB (Y 21) "leading" (O 1))) [~~~eT Y r c P,~~~qo Y (eT Y r c R) a,none,none,none,~~~(.int (x:Int)),none]=.ok (!(a.map λc=>((c:Nat):Int)).contains (x:Int)):=by unfold Cw;rw[iE (d:=.int (x:Int)) 5 rfl,Zj,iE (d:=qo Y (eT Y r c R) a) 1 rfl];rw[bq,bq,abE,bq,yw,bq,Tq,bq]
   rw[EO]at e;exact e
  rw[agH]at this;exact this
 have p:(lR c a).length<=c:=by have:=ait (λx=>!a.contains x) (List.range c);rw[afN]at this;exact this
 have l:∀f∈lR c a,f<c:=λf h=>afG.mp (ahG.mp h).1
 generalize s:lR c a=fr at v p l|-;have A:∀g:ak,g=[~~~eT Y r c P,~~~qo Y (eT Y r c R) a,~~~.lst (sC fr),none,none,none,none]->br (aI 5) bM (jM (iF (O 2)) (aI 6) bM (GX (eL iW (O 5) (O 6)) (aa (U (aG (.int 1)) (U (aG (.int 1)) af)) eS) (aa (U (aG (.int 0)) (U (aG (.int 1)) af)) eS)) [6]) g ((List.range c).map λj=>.int ((j:Nat):Int)) []=.ok ((List.range c).map λi=>.lst (fr.map λf=>eQ (if i=f then(1,1)else(0,1)))):=λg k=>by
  subst k;refine bf _ (by lia) λi w=>⟨_,rfl,?_⟩
  simp;rw[Om,lP (aI 6) _ _ (λx:Nat=>.int (x:Int)) (λf=>eQ (if i=f then(1,1)else(0,1))) fr [] (by rw[aiu];lia) λf p=>⟨_,rfl,?_⟩];simp
  by_cases h:i=f
  subst h;simp[iW,eQ];have B:¬(i:Int)=(f:Int):=by lia
  simp[iW,eQ,h,B]
 have C:∀(i o:Nat)(rows:List D),i<r->jM (iF (O 2)) (aI 6) bM (aa (U (aL ay (aL ay (aB (Y 19) "rows" (aB (Y 21) "table" (O 1))) (O 4)) (O 6)) af) (ah 1 (fS Y))) [6] [~~~eT Y r c P,~~~qo Y (eT Y r c R) a,~~~.lst (sC fr),some (.ow rows),~~~(.int (i:Int)),~~~(.int (o:Int)),none]=.ok (.lst (fr.map λf=>eQ (je (R i f)))):=λi o rows w=>by simp;rw[Om,lP (aI 6) _ _ (λx:Nat=>.int (x:Int)) (λf=>eQ (je (R i f))) fr [] (by rw[aiu];lia) λf p=>⟨_,rfl,?_⟩];simp;have e:=rJ (λi=>dm c (R i)) w;have E:ay (dm c (R i)) (.int (f:Int))=.ok (eQ (R i f)):=rJ (λj=>eQ (R i j)) (l f p);simp[e,E,oR]
 obtain⟨I,N,y⟩:=DO (n:=c) (m:=r) (λi=>.lst (fr.map λf=>eQ (je (R i f)))) C a 0 (λi=>.lst (fr.map λf=>eQ (if i=f then(1,1)else(0,1)))) none none (by lia) q.2;have t:((List.range c).map (Ge (λi=>.lst (fr.map λf=>eQ (je (R i f)))) a 0 λi=>.lst (fr.map λf=>eQ (if i=f then(1,1)else(0,1)))))=(List.range c).map λi=>dm fr.length (DR c a R i):=afY λi _=>by
  rw[wO _ _ _ _ _ q.1];unfold DR dm;rw[s];cases (a.findIdx? λx=>decide (x=i))with|none=>exact agg D.lst (map_getD fr 0 _)|some r=>show D.lst (fr.map λf=>eQ (je (R (0+r) f)))=_;rw[agG];exact agg D.lst (map_getD fr 0 _)
 rw[t]at y;simp! [jJ,aA,xS,ai,e1,fk (show c<=1000000 by lia)];rw[v _ rfl];simp[fk (show c<=1000000 by lia)];rw[A _ rfl];simp[y,bE,dF];rfl
open Ex (jD aE gy fV aJ mk nM fr)
theorem MS(c)(P Q):Ex.V5 c (vF P) (vF Q)=vF (fC c P Q):=by
 funext i j;unfold Ex.V5 vF fC
 by_cases h:j<c
 rw[afz h,afz h];rw[afy h,afy h]
def Iu:vl (0,1)=0:=by unfold vl;simp;grind
def Tr:vl (1,1)=1:=by unfold vl;simp;grind
theorem Oo{ps:List Nat}{i r}(h:(ps.findIdx? λx=>decide (x=i))=some r):r<ps.length:=by have:=List.findIdx?_eq_some_iff_getElem.mp h;exact this.1
theorem Qn{r c d b}{P Q}(n:∀i,i<r->∀j,j<c->sz (P i j) b)(o:∀i,i<r->∀j,j<d->sz (Q i j) b)(hs:bX (b+(1+(c+d)*b)) (r+1)<=134217728)(t:r<=500)(u:c<=500)(v:d<=500):
  Vagram.solve (mk r c (vF P)) (mk r d (vF Q))=if(cD r (c+d) (fC c P Q)).2.2.any (λx=>decide (c<=x))then .none
   else if(cD r (c+d) (fC c P Q)).2.2.length=c then .one (mk c d (vF (pN c (cD r (c+d) (fC c P Q)).2.2 (gS r (c+d) (fC c P Q)))))else .many (mk c d (vF (pN c (cD r (c+d) (fC c P Q)).2.2 (gS r (c+d) (fC c P Q))))):=by
 have m:=rN (d:=d) n o;have e1:=(gT m).1;have p:=(rM m hs (by lia) (by lia)).2;unfold Vagram.solve;rw[Ex.zY,MS,e1];generalize gS r (c+d) (fC c P Q)=R;generalize (cD r (c+d) (fC c P Q)).2.2=a at p|-;have l:Vagram.make c d (λi j=>match a.findIdx? λx=>decide (x=i)with|some k=>(mk r (c+d) (vF R)).get k (c+j)|none=>Vagraa.zero)=mk c d (vF (pN c a R)):=Ex.cF λi w j y=>by
  show _=fr (vl (pN c a R i j));unfold pN;cases h:(a.findIdx? λx=>decide (x=i))with|none=>show _=fr (vl (0,1));rw[Iu];rfl|some k=>have:=Oo h;exact Ex.di _ (by lia) (by lia)
 show(if(a.any λx=>decide (c<=x))=true then Vagram.Solved.none else if a.length=c then .one (Vagram.make c d _)else .many (Vagram.make c d _))=_;have q:∀f:Nat->Nat->Vagraa.Frac,f=(λi j=>match a.findIdx? λx=>decide (x=i)with|some k=>(mk r (c+d) (vF R)).get k (c+j)|none=>Vagraa.zero)->Vagram.make c d f=mk c d (vF (pN c a R)):=λf s=>by rw[s];exact l
 have z:=q _ rfl
 by_cases e:(a.any λx=>decide (c<=x))=true
 rw[afz e,afz e];rw[afy e,afy e]
 by_cases g:a.length=c
 rw[afz g,afz g];exact agg Vagram.Solved.one l;rw[afy g,afy g];exact agg Vagram.Solved.many l
theorem Tt(a:∀i,i<r->∀j,j<c->sz (P i j) b):Vagram.free (mk r c (vF P))=lR c (cD r c P).2.2:=by unfold Vagram.free lR;rw[(gT a).1];rfl
theorem MT{r c b:Nat}{P}(a:∀i,i<r->∀j,j<c->sz (P i j) b)(hs:bX (b+(1+c*b)) (r+1)<=134217728)(s:r<=500)(t:c<=500):
  Vagram.kernel (mk r c (vF P))=mk c (lR c (cD r c P).2.2).length (vF (DR c (cD r c P).2.2 (gS r c P))):=by
 have e1:=(gT a).1;have o:=(rM a hs (by lia) (by lia)).2;unfold Vagram.kernel;rw[Tt a,e1];generalize gS r c P=R;generalize (cD r c P).2.2=ps at o|-;refine Ex.cF λi u j g=>?_
 show _=fr (vl (DR c ps R i j));have p:(lR c ps).getD j 0∈lR c ps:=by rw[afC,afE g];exact agF g
 have l:=ahG.mp p;have m:=afG.mp l.1;have n:(lR c ps).getD j 0∉ps:=by simpa using l.2
 unfold DR;generalize (lR c ps).getD j 0=f at m n|-
 by_cases e:i=f
 subst e;have:(ps.findIdx? λd=>decide (d=i))=none:=ah0.mpr λx q=>by
  have:x≠i:=λz=>n (z▸q)
  simp[this]
 simp only[this,if_true];rw[Tr];rfl;simp only[if_neg e];cases h:(ps.findIdx? λx=>decide (x=i))with|none=>show _=fr (vl (0,1));rw[Iu];rfl|some k=>have:=Oo h;show Vagraa.neg ((mk r c (vF R)).get k f)=fr (vl (je (R k f)));rw[Ex.di _ (by lia) m,Ex.zW,oU];rfl
def Iw(Y:afp):afw:=(o6 1 (aq (aU 7 (aL ay (O 1) (O 5)))
  (aq (qE 1 (RO (vY (O 1) qD (iB (aL kC (O 5) (aG (.int 1))))) (jM (iF (vY (O 1) (iB (aL kC (O 5) (aG (.int 1)))) qD)) (aI 8) bM (aa (U (O 8) (U (O 7) (U (O 5) (U (O 4) af)))) (ah 4 (dW Y))) (List.map (·.2) [(("row":Str),8)]))))
  (aq (aU 4 (aL ay (O 7) (O 5)))
  (sL 3 (O 4))))))
def wQ(Y:afp):afw:=(aq (aU 6 (Bg 1 (aa (U (O 1) (U (O 5) (U (O 5) af))) (ah 3 (e7 Y)))))
  (aq (dH (JY (O 6)) (aq (sL 3 (aG (.int 0)))
  G9) bV)
  (aq (dH (eL wR (O 6) (O 5)) (aq (Cr (sM 1 2 (dU Y) (U (O 6) (U (O 5) af))))
  (R4 2 (aG (.int 1)))) bV)
  (Iw Y))))
def yK(V:ZF)(k:Nat)(p:Int):ZF:=λm j=>if m<=k then V m j else(V k k*V m j-V m k*V k j).fdiv p
theorem Tu(F)(h:a<=n):cutD ((List.range n).map F) none (some (a:Int))=(List.range a).map F:=by unfold cutD;rw[afB,afN,HT.Jo,HT.n8,ahe h,Nat.sub_zero,List.drop_zero,DA _ h]
theorem Qo{b:Type}(F:Nat->b){n a}(h:a<=n):(List.range a).map F++((List.range (n-a)).map λj=>F (a+j))=(List.range n).map F:=by rw[<-DA F h,<-K2 F n a,List.take_append_drop]
theorem Gf(W)(k):aE W k k=W:=by
 funext m j;unfold aE aJ
 by_cases h:m=k
 subst h;rw[afz rfl];rw[afy h,afy h]
theorem Oq(T d s q:Option L)(r:∀i,i<n->∀j,j<n->bz (V i j) b)(t:p≠0)(hs:b+b<=134217728)(c:k<n)(u:n<=1000)(B:nums.length<=1000):
  Iw Y [T,some (.ow (iS n n V)),~~~.int ch,some (.ow (nums.map D.int)),~~~.int p,~~~(.int (k:Int)),d,s,q]=
  .ok (.nx [T,some (.ow (iS n n (yK V k p))),~~~.int ch,some (.ow ((nums++[V k k]).map D.int)),~~~.int (V k k),~~~(.int (k:Int)),d,~~~dJ n (V k),q]):=by
 have v:(k:Int)+1=((k+1:Nat):Int):=by omega
 have w:=Tu (λi=>dJ n (V i)) (n:=n) (a:=k+1) (by omega);have x:=Le (λi=>dJ n (V i)) (n:=n) (a:=k+1) (by omega);have f:∀g,g=[T,~~~eZ n n V,~~~.int ch,some (.ow (nums.map D.int)),~~~.int p,~~~(.int (k:Int)),d,~~~dJ n (V k),none]->
   br (aI 8) bM (aa (U (O 8) (U (O 7) (U (O 5) (U (O 4) af)))) (ah 4 (dW Y))) g ((List.range (n-(k+1))).map λj=>dJ n (V (k+1+j))) []=.ok ((List.range (n-(k+1))).map λj=>dJ n (yK V k p (k+1+j))):=λg h=>by
  subst h;refine bf _ (by omega) λm C=>⟨_,rfl,?_⟩
  have e:yK V k p (k+1+m)=λj=>(V k k*V (k+1+m) j-V (k+1+m) k*V k j).fdiv p:=by funext j;unfold yK;rw[afy (by omega)]
  rw[e];simp[DJ (Y:=Y) c (r (k+1+m) (by omega)) (r k c) t hs u]
 have sp:=Qo (λi=>dJ n (yK V k p i)) (n:=n) (a:=k+1) (by omega);have y:(List.range (k+1)).map (λi=>dJ n (V i))=(List.range (k+1)).map λi=>dJ n (yK V k p i):=afY λi z=>by
  have:=afG.mp z;have e:yK V k p i=V i:=by funext j;unfold yK;rw[afz (by omega)]
  rw[e]
 have A:nums.length<sizeLine:=by rw[show sizeLine=16777216 from rfl];omega
 have l:k+1+(n-(k+1))<=sizeLine:=by rw[show sizeLine=16777216 from rfl];omega
 have o:El (eZ n n V)=.ok ((List.range n).map λi=>dJ n (V i)):=rfl;unfold Iw;simp[bE,dF,nS,DB _ c,RO,o];rw[v,w,x,f _ rfl,y];simp[l,sp,ko _ c,A];rfl
theorem Wj(T x f a)(y:∀i,i<n->∀j,j<n->bz (W i j) b)(r:p≠0)(hs:b+b<=134217728)(c:k<n)(g:n<=1000)(s:nums.length<=1000):
  ∃t u,wQ Y [T,some (.ow (iS n n W)),~~~.int ch,some (.ow (nums.map D.int)),~~~.int p,~~~(.int (k:Int)),x,f,a]=match jD n W k k with
   |none=>.ok (.bk [T,some (.ow (iS n n W)),~~~.int ch,some (.ow ((nums++[0]).map D.int)),~~~.int p,~~~(.int (k:Int)),t,u,a])
   |some i=>.ok (.nx [T,some (.ow (iS n n (yK (aE W k i) k p))),~~~.int (ch+if i=k then 0 else 1),some (.ow ((nums++[aE W k i k k]).map D.int)),~~~.int (aE W k i k k),~~~(.int (k:Int)),t,u,a]):=by
 have d:=Ga (Y:=Y) (W:=W) c g (show k<=1000 by lia);have z:nums.length<sizeLine:=by rw[show sizeLine=16777216 from rfl];lia
 cases e:jD n W k k with
 |none=>rw[e]at d;refine⟨~~~.cK,f,?_⟩;unfold wQ;simp! [bE,dF,nS,d,Qi,z]
 |some i=>
  rw[e]at d;obtain⟨v,F,G⟩:=Ex.gR e;have A:=Gb (Y:=Y) (λm=>dJ n (W m)) v c;have B:dU Y (.ow (iS n n W)) [.int (i:Int),.int (k:Int)]=.ok (.cK,.ow (iS n n (aE W k i))):=by refine A.trans ?_;refine agg (λl=>(Except.ok (D.cK,L.ow l):M (D×L))) (afY λm _=>?_);unfold aE;rw[Ex.wL]
  have w:∀o,o<n->∀j,j<n->bz (aE W k i o j) b:=λo q j C=>y _ (Ex.nN c v q) j C
  refine⟨~~~(.int (i:Int)),~~~dJ n (aE W k i k),?_⟩
  by_cases h:i=k
  subst h;have tl:=Oq (Y:=Y) (ch:=ch) (nums:=nums) T (~~~(.int (i:Int))) f a w r hs c g s;unfold wQ;rw[Gf]at tl;rw[lZ,wN,SV];simp! [-List.map_append,bE,dF,nS,d,Qi,wR,Gf];exact tl;have tl:=Oq (Y:=Y) (ch:=ch+1) (nums:=nums) T (~~~(.int (i:Int))) f a w r hs c g s;have E:¬(i:Int)=(k:Int):=by lia
  unfold wQ;rw[lZ,wN,SV];simp! [-List.map_append,bE,dF,nS,d,Qi,wR,E,h,sM,B,R4];exact tl
def mL(n:Nat):Nat->Nat->ZF->Int->Int×List Int
 |0,_,_,_=>(0,[])
 |f+1,k,W,p=>match jD n W k k with
  |none=>(0,[0])
  |some i=>((if i=k then 0 else 1)+(mL n f (k+1) (yK (aE W k i) k p) (aE W k i k k)).1,aE W k i k k::(mL n f (k+1) (yK (aE W k i) k p) (aE W k i k k)).2)
theorem Ot(T:Option L)(hs:bX B (n+1)<=134217728)(y:n<=500):∀f k(W:ZF)p nums(ch:Int)r h l c,k+f=n->(∀i,i<n->∀j,j<n->bz (W i j) (bX B k))->p≠0->nums.length=k->
  ∃Z z A m o,eU (aI 5) (wQ Y) ((List.range f).map λj=>.int ((k+j:Nat):Int)) [T,some (.ow (iS n n W)),~~~.int ch,some (.ow (nums.map D.int)),~~~.int p,r,h,l,c]=
   .ok (.nx [T,Z,~~~.int (ch+(mL n f k W p).1),some (.ow ((nums++(mL n f k W p).2).map D.int)),z,A,m,o,c])
 |0,k,W,p,nums,ch,r,h,l,c,C,s,v,w=>⟨_,_,_,_,_,by unfold mL;rw[agh,Int.add_zero];rfl⟩
 |f+1,k,W,p,nums,ch,r,h,l,c,C,s,v,w=>by
  have R:=yH B n;have t:=yH B k;have S:=BS B (show k<=n by lia);obtain⟨m,o,st⟩:=Wj (Y:=Y) (p:=p) (nums:=nums) (ch:=ch) T h l c s v (by lia) (show k<n by lia) (by lia) (by lia);rw[DK];unfold mL;cases e:jD n W k k with
  |none=>rw[e]at st;refine⟨some (.ow (iS n n W)),~~~.int p,~~~(.int (k:Int)),m,o,?_⟩;simp! only[oQ,qk,uz,bq,List.set_cons_succ,List.set_cons_zero,st,SX,Int.add_zero]
  |some i=>
   rw[e]at st;obtain⟨E,F,_⟩:=Ex.gR e;have u:k<=i/\W i k≠0:=by simpa using F
   have G:aE W k i k k=W i k:=by unfold aE aJ;rw[afz rfl]
   have d:∀b,b<n->∀j,j<n->bz (aE W k i b j) (bX B k):=λb a j g=>s _ (Ex.nN (by lia) E a) j g
   have H:∀b,b<n->∀j,j<n->bz (yK (aE W k i) k p b j) (bX B (k+1)):=λb a j g=>by
    rw[t];unfold yK
    by_cases q:b<=k
    rw[afz q];exact(d _ a j g).mono (by lia);rw[afy q];exact(((d k (by lia) k (by lia)).mul (d b a j g)).sub ((d b a k (by lia)).mul (d k (by lia) j g))).fdiv
   obtain⟨Z,I,N,P,Q,x⟩:=Ot T hs y f (k+1) (yK (aE W k i) k p) (aE W k i k k) (nums++[aE W k i k k]) (ch+if i=k then 0 else 1) (~~~(.int (k:Int))) m o c (by lia) H (by rw[G];exact u.2) (by rw[afM,agr,w]);refine⟨Z,I,N,P,Q,?_⟩;rw[agX,Int.add_assoc]at x;simp! only[oQ,qk,uz,bq,List.set_cons_succ,List.set_cons_zero,st,qj];exact x
def Wk(Y:afp)(ch:Int)(nums:List Int):D:=.obj (Y 31) ["changes","numbers"] [.int ch,.lst (nums.map D.int)]
theorem vO(hs:bX B (n+1)<=134217728)(b:n<=500)(c:∀i,i<n->∀j,j<n->bz (W i j) B):i9 Y [eZ n n W]=.ok (Wk Y (mL n n 0 W 1).1 (mL n n 0 W 1).2):=by
 obtain⟨Z,d,e,f,g,a⟩:=Ot (Y:=Y) (~~~eZ n n W) hs b n 0 W 1 [] 0 none none none none (by lia) (λi h j k=>(c i h j k).mono (by unfold bX;simp)) (by decide) rfl;have l:iw [eZ n n W]=.ok (.int (n:Int)):=by show Except.ok (D.int (((List.range n).map λi=>dJ n (W i)).length:Int))=_;rw[afB,afN]
 have m:RP (U (O 0) af) [~~~eZ n n W,none,none,none,none,none,none,none,none]=.ok (iS n n W):=rfl;have a:eU (aI 5) (wQ Y) ((List.range n).map λj=>.int ((j:Nat):Int)) [~~~eZ n n W,some (.ow (iS n n W)),~~~.int 0,some (.ow []),~~~.int 1,none,none,none,none]=.ok (.nx [~~~eZ n n W,Z,~~~.int (mL n n 0 W 1).1,some (.ow ((mL n n 0 W 1).2.map D.int)),d,e,f,g,none]):=by refine Eq.trans ?_ (a.trans ?_);simp;rw[agH,ahV]
 simp! only[i9,aA,vE,ai];simp! [m,l,fk (show n<=1000000 by lia),show sizeLine=16777216 from rfl];unfold wQ Iw at a;simp! only[List.map_cons,List.map_nil]at a;rw[a];simp[bE,dF];rfl
open Ex (jD aE gy fV aJ mk nM fr eo bQ aT aF det aD)
theorem Lg{k}{W e:ZF}{p:Int}{M}(C:∀i j,bQ (M i j))(S:eo k M (λs=>s) (aT e) p)(E:∀a,k<=a->∀j,W a j=e a j){i}(t:k<=i)(F:W i k≠0):
  ∃n:ZF,eo (k+1) (λa j=>M (aJ k i a) j) (λs=>s) (aT n) ((aE W k i k k:Int):Rat)/\(∀a,k+1<=a->∀j,yK (aE W k i) k p a j=n a j)/\∀a,k<a->∀j,aE W k i k k*aE W k i a j-aE W k i a k*aE W k i k j=p*yK (aE W k i) k p a j:=by
 have G:=S.rows (aJ k i) (λm H=>Ex.qi H t) λa g=>Ex.lO g t
 have f:∀a,k<=a->∀j,aE W k i a j=aE e k i a j:=λa g j=>E _ (Ex.lO g t) j
 have e0:aE W k i k k=W i k:=by unfold aE aJ;rw[afz rfl]
 have u:aT (aE e k i) k k≠0:=by show((aE e k i k k:Int):Rat)≠0;rw[<-f k (afI k) k,e0];exact Ex.nO.mpr F
 have x:=G.next (d:=k) u;have I:p≠0:=Ex.nO.mp S.nz;have y:∀a j,∃z:Int,(if a=k then aT (aE e k i) k j else(aT (aE e k i) k k*aT (aE e k i) a j-aT (aE e k i) a k*aT (aE e k i) k j)/(p:Rat))=(z:Rat):=λa j=>by obtain⟨z,l⟩:=x.whole (h:=a+k+1) (λb _ c=>C (aJ k i b) c) (by lia) (show a<a+k+1 by lia) j;exact⟨z,l⟩
 have A:(λa j=>if a=k then aT (aE e k i) k j else(aT (aE e k i) k k*aT (aE e k i) a j-aT (aE e k i) a k*aT (aE e k i) k j)/(p:Rat))=aT (gy (aE e k i) k k p):=by
  funext a j;obtain⟨z,l⟩:=y a j;show _=((gy (aE e k i) k k p a j:Int):Rat);unfold gy
  by_cases r:a=k
  rw[afz r,afz r];rw[afy r]at l|-;rw[afy r,l];congr 1;refine(Ex.yq I ?_).symm;rw[<-l,ahd,af0,af0]
 have N:(λs=>if s=k then k else s)=λs:Nat=>s:=by funext s;by_cases h:s=k<;>simp[h]
 have o:∀a,k<a->∀j,yK (aE W k i) k p a j=gy (aE e k i) k k p a j:=λa g j=>by unfold yK gy;rw[afy (by lia),afy (by lia),f k (afI k),f a (by lia),f a (by lia),f k (afI k)]
 refine⟨gy (aE e k i) k k p,?_,λa g j=>o a (by lia) j,λa g j=>?_⟩;have B:eo (k+1) (λa j=>M (aJ k i a) j) (λs=>if s=k then k else s) (aT (gy (aE e k i) k k p)) ((aE e k i k k:Int):Rat):=by rw[<-A];exact x
 rw[N]at B;rw[f k (afI k)];exact B;rw[o a g j];obtain⟨z,l⟩:=y a j;have q:=congrFun (congrFun A a) j;have v:¬a=k:=by lia
 simp only[if_neg v]at q;have w:((aE W k i k k*aE W k i a j-aE W k i a k*aE W k i k j:Int):Rat)=((p*gy (aE e k i) k k p a j:Int):Rat):=by rw[f k (afI k),f a (by lia),f a (by lia),f k (afI k),ahd,af0,af0,af0];have P:((gy (aE e k i) k k p a j:Int):Rat)=(aT (aE e k i) k k*aT (aE e k i) a j-aT (aE e k i) a k*aT (aE e k i) k j)/(p:Rat):=q.symm;rw[P];have:=S.nz;show aT (aE e k i) k k*aT (aE e k i) a j-aT (aE e k i) a k*aT (aE e k i) k j=_;grind
 exact_mod_cast w
def Jb(ch:Int):Int:=if ch.fmod 2=1 then-1 else 1
theorem Lh(ch:Int):Jb (1+ch)=-Jb ch:=by
 unfold Jb;rw[agL _ (by decide),agL _ (by decide)]
 by_cases h:ch%2=1
 rw[afz h,afy (by lia)];rfl;rw[afy h,afz (by lia)]
theorem Tv:∀f k W b(p:Int)(M:afq),k+f=n->(∀i j,bQ (M i j))->eo k M (λs=>s) (aT b) p->(∀a,k<=a->∀j,W a j=b a j)->
  det n M=((Jb (mL n f k W p).1*(mL n f k W p).2.getLastD p:Int):Rat)
 |0,k,W,b,p,M,w,g,S,l=>by
  have:k=n:=by lia
  subst this;unfold mL;rw[show det k M=(p:Rat)from S.dt];show _=((1*p:Int):Rat);rw[ahP]
 |f+1,k,W,b,p,M,w,g,S,l=>by
  unfold mL;cases e:jD n W k k with
  |none=>
   have z:∀a,k<=a->a<n->W a k=0:=λa x y=>by have:=Ex.zZ e y;simpa[x]using this
   have P:=S.nz;have c:det n (aD M k λa=>M a k)=(if k<k then aT b k k/(p:Rat)else 0)*det n M:=Ex.uZ M (show k<n by lia) (λt=>if t<k then aT b t k/(p:Rat)else 0) λa A=>by
    have B:(aF n λt=>(if t<k then aT b t k/(p:Rat)else 0)*M a t)=aF k λt=>(1/(p:Rat))*(M a t*aT b t k):=by
     rw[show n=k+(n-k)by lia,Ex.nJ];rw[Ex.jK (n:=n-k) λt _=>by rw[afy (by lia)];grind];rw[ahq];refine Ex.az λt C=>?_
     rw[afz C];grind
    rw[B,Ex.cQ]
    by_cases q:a<k
    have:=S.up a q k;grind;have:=S.low a (by lia) k;have E:aT b a k=0:=by show((b a k:Int):Rat)=0;rw[<-l a (by lia),z a (by lia) A];rfl
    rw[E]at this;grind
   rw[Ex.gF]at c;rw[c];simp
  |some i=>
   obtain⟨F,G,_⟩:=Ex.gR e;have d:k<=i/\W i k≠0:=by simpa using G
   obtain⟨m,H,o,_⟩:=Lg g S l d.1 d.2;have u:=Tv (n:=n) f (k+1) (yK (aE W k i) k p) m (aE W k i k k) (λa j=>M (aJ k i a) j) (by lia) (λa j=>g _ j) H o;show _=((Jb ((if i=k then 0 else 1)+(mL n f (k+1) (yK (aE W k i) k p) (aE W k i k k)).1)*(aE W k i k k::(mL n f (k+1) (yK (aE W k i) k p) (aE W k i k k)).2).getLastD p:Int):Rat);generalize mL n f (k+1) (yK (aE W k i) k p) (aE W k i k k)=r at u|-;have I:(aE W k i k k::r.2).getLastD p=r.2.getLastD (aE W k i k k):=List.getLastD_cons ..;rw[I]
   by_cases h:i=k
   rw[afz h,ahV,<-u];refine Ex.eg λa _ j _=>?_
   have:aJ k i a=a:=by unfold aJ;(repeat' split)<;>lia
   rw[this];have v:k<n:=by lia
   have N:=Ex.KD (n:=n) M v F (λz=>h z.symm);rw[afy h,Lh,ai2,ahN,<-u,N];grind
open Vagram (cell stepped swapRows leadFrom)
theorem DS:∀{l:List d},(∀a∈l,p a=q a)->l.find? p=l.find? q|[],_=>rfl|a::l,h=>by rw[agA,agA,h a afH,DS λb c=>h b (afA _ c)]
theorem Li(F:Nat->Nat->Int)(c:a<n)(d:b<n):cell ((List.range n).map λi=>(List.range n).map λj=>F i j) a b=F a b:=by unfold cell;rw[Ex.range_getD _ _ c,Ex.range_getD _ _ d]
theorem Qp(g)(b)(c:a<n):cell (swapRows g n r s) a b=cell g (aJ r s a) b:=by
 unfold cell swapRows;rw[Ex.range_getD _ _ c];unfold aJ
 (repeat' split)<;>first|rfl|omega
theorem Ou:∀f k s g(W m:ZF)(p:Int)(M:afq),k+f=n->(∀i j,bQ (M i j))->eo k M (λs=>s) (aT m) p->(∀a,k<=a->∀j,W a j=m a j)->(∀a b,k<=a->a<n->k<=b->b<n->cell g a b=W a b)->
  leadFrom n f k s p g=(s*Jb (mL n f k W p).1,(mL n f k W p).2)
 |0,k,s,g,W,m,p,M,C,t,S,y,u=>by unfold mL leadFrom;show _=(s*1,[]);rw[ah5]
 |f+1,k,s,g,W,m,p,M,C,t,S,y,u=>by
  have E:((List.range n).find? λi=>decide (k<=i)&&decide (cell g i k≠0))=jD n W k k:=DS λi F=>by
   by_cases h:k<=i
   rw[u i k h (afG.mp F) (afI k) (by lia)];rw[aga h,ahz,ahz]
  unfold mL leadFrom;rw[E];cases e:jD n W k k with
  |none=>show(s,[0])=(s*1,[0]);rw[ah5]
  |some i=>
   obtain⟨G,H,_⟩:=Ex.gR e;have c:k<=i/\W i k≠0:=by simpa using H
   obtain⟨v,I,w,N⟩:=Lg t S y c.1 c.2;have P:p≠0:=Ex.nO.mp S.nz;generalize z:(if i=k then g else swapRows g n k i)=h;have o:∀a b,k<=a->a<n->k<=b->b<n->cell h a b=aE W k i a b:=λa b A d b1 l=>by
    have e1:cell h a b=cell g (aJ k i a) b:=by
     rw[<-z]
     by_cases q:i=k
     rw[afz q];have:aJ k i a=a:=by unfold aJ;(repeat' split)<;>lia
     rw[this];rw[afy q];exact Qp g b d
    rw[e1];exact u _ _ (Ex.lO A c.1) (Ex.nN (by lia) G d) b1 l
   have B:cell h k k=aE W k i k k:=o k k (afI k) (by lia) (afI k) (by lia);have x:∀a b,k+1<=a->a<n->k+1<=b->b<n->cell (stepped h n k p) a b=yK (aE W k i) k p a b:=λa b A d b1 l=>by unfold stepped;rw[Li _ d l,afy (by lia),afy (by lia),B,o a b (by lia) d (by lia) l,o a k (by lia) d (afI k) (by lia),o k b (afI k) (by lia) (by lia) l,N a (by lia) b];exact Int.mul_ediv_cancel_left _ P
   have Q:=Ou (n:=n) f (k+1) (if i=k then s else-s) (stepped h n k p) (yK (aE W k i) k p) v (aE W k i k k) (λa j=>M (aJ k i a) j) (by lia) (λa j=>t _ j) I w x;show((leadFrom n f (k+1) (if i=k then s else-s) (cell (if i=k then g else swapRows g n k i) k k) (stepped (if i=k then g else swapRows g n k i) n k p)).1,cell (if i=k then g else swapRows g n k i) k k::(leadFrom n f (k+1) (if i=k then s else-s) (cell (if i=k then g else swapRows g n k i) k k) (stepped (if i=k then g else swapRows g n k i) n k p)).2)=_;rw[z,B,Q];show _=(s*Jb ((if i=k then 0 else 1)+(mL n f (k+1) (yK (aE W k i) k p) (aE W k i k k)).1),aE W k i k k::(mL n f (k+1) (yK (aE W k i) k p) (aE W k i k k)).2);generalize mL n f (k+1) (yK (aE W k i) k p) (aE W k i k k)=r
   by_cases q:i=k
   rw[afz q,afz q,ahV];rw[afy q,afy q,Lh,ai2,Int.mul_neg]
theorem Lj(W:ZF):Vagram.leading (mk n n λi j=>(W i j:Rat))=(Jb (mL n n 0 W 1).1,(mL n n 0 W 1).2):=by
 have:=Ou (n:=n) n 0 1 ((mk n n λi j=>(W i j:Rat)).data.map λr=>r.map λx=>x.num) W W 1 (aT W) (by lia) (λi j=>bQ.int _) (eo.start _ _) (λa _ j=>rfl) λa b _ c _ d=>by
  show cell (((List.range n).map λi=>(List.range n).map λj=>fr (W i j:Rat)).map λr=>r.map λx=>x.num) a b=W a b;rw[afS];have:((λr:List Vagraa.Frac=>r.map λx=>x.num)∘λi=>(List.range n).map λj=>fr (W i j:Rat))=λi=>(List.range n).map λj=>W i j:=by funext i;show((List.range n).map λj=>fr (W i j:Rat)).map (λx=>x.num)=_;rw[afS];rfl
  rw[this];exact Li W c d
 rw[ahP]at this;exact this
theorem Qq(W):det n (aT W)=((Jb (mL n n 0 W 1).1*(mL n n 0 W 1).2.getLastD 1:Int):Rat):=Tv (n:=n) n 0 W W 1 (aT W) (by lia) (λi j=>bQ.int _) (eo.start _ _) λa _ j=>rfl
def sj:Nat->(Nat->Rat)->Rat|0,_=>1|n+1,l=>l 0*sj n λi=>l (i+1)
theorem Gg:∀(n:Nat)(l:Nat->Rat)(M:afq),det n (λi j=>l i*M i j)=sj n l*det n M
 |0,l,M=>by unfold det sj;grind
 |n+1,l,M=>by
  unfold det sj;rw[<-Ex.cQ];refine Ex.az λj _=>?_
  have:=Gg n (λi=>l (i+1)) (Ex.b9 M j);have e:Ex.b9 (λi j=>l i*M i j) j=λi b=>l (i+1)*Ex.b9 M j i b:=rfl
  rw[e,this];grind
theorem Lk:∀{n:Nat}{l:Nat->Rat},(∀i,i<n->l i≠0)->sj n l≠0
 |0,l,_=>by unfold sj;decide
 |n+1,l,h=>by unfold sj;intro q;rcases agk.mp q with z|z;exact h 0 (by lia) z;exact Lk (λi a=>h (i+1) (by lia)) z
theorem Ag:∀(l:List Int)(a:Int),l.foldl (·* ·) a=a*l.foldl (·* ·) 1|[],a=>by simp|x::l,a=>by rw[List.foldl_cons,List.foldl_cons,Ag l (a*x),Ag l (1*x),Int.one_mul,Int.mul_assoc]
theorem Gh:∀(n:Nat)(K:Nat->Int),((((List.range n).map K).foldl (·* ·) 1:Int):Rat)=sj n λi=>(K i:Rat)|0,K=>rfl|n+1,K=>by rw[ago,afR,afS,ahL,Ag,ahP,af0];unfold sj;rw[<-Gh n λi=>K (i+1)];rfl
theorem MU{n k:Nat}{W:ZF}{p:Int}{M:afq}(S:eo k M (λs=>s) (aT W) p)(b:k<n)(z:∀a,k<=a->a<n->W a k=0):det n M=0:=by
 have h:=S.nz;have c:det n (aD M k λa=>M a k)=(if k<k then aT W k k/(p:Rat)else 0)*det n M:=Ex.uZ M b (λt=>if t<k then aT W t k/(p:Rat)else 0) λa d=>by
  have e:(aF n λt=>(if t<k then aT W t k/(p:Rat)else 0)*M a t)=aF k λt=>(1/(p:Rat))*(M a t*aT W t k):=by
   rw[show n=k+(n-k)by lia,Ex.nJ];rw[Ex.jK (n:=n-k) λt _=>by rw[afy (by lia)];grind];rw[ahq];refine Ex.az λt f=>?_
   rw[afz f];grind
  rw[e,Ex.cQ]
  by_cases q:a<k
  have:=S.up a q k;grind;have:=S.low a (by lia) k;have g:aT W a k=0:=by show((W a k:Int):Rat)=0;rw[z a (by lia) d];rfl
  rw[g]at this;grind
 rw[Ex.gF]at c;rw[c];simp
theorem Gi{n:Nat}:∀(f c:Nat)(W:ZF)(p:Int)(ps:List Nat),(fV n f n c W p ps).2.2=ps
 |0,c,W,p,ps=>rfl
 |f+1,c,W,p,ps=>by
  have:jD n W n c=none:=by
   unfold jD;refine aha.mpr λi a=>?_
   have:=afG.mp a;simp
   lia
  unfold fV;rw[this];exact Gi f (c+1) W p ps
theorem rO{h k:Nat}:∀(f r c:Nat)(W:ZF)(p:Int)(ps:List Nat),k<c->k∉ps->k∉(fV h f r c W p ps).2.2
 |0,r,c,W,p,ps,_,a=>a
 |f+1,r,c,W,p,ps,b,a=>by
  unfold fV;cases jD h W r c with|none=>exact rO f r (c+1) W p ps (by lia) a|some i=>exact rO f (r+1) (c+1) _ _ (ps++[c]) (by lia) (by intro q;rcases agt.mp q with q|q;exact a q;simp at q;lia)
theorem Iz{n:Nat}(m:Nat):∀(f k:Nat)(W:ZF)(p:Int)(M:afq),k+f=n->(∀i j,bQ (M i j))->eo k M (λs=>s) (aT W) p->((fV n (f+m) k k W p (List.range k)).2.2=List.range n↔det n M≠0)
 |0,k,W,p,M,x,r,S=>by
  have:k=n:=by lia
  subst this;rw[Gi,show det k M=(p:Rat)from S.dt];exact⟨λ_=>S.nz,λ_=>rfl⟩
 |f+1,k,W,p,M,x,r,S=>by
  rw[show f+1+m=(f+m)+1 by lia];unfold fV;cases e:jD n W k k with
  |none=>
   have z:∀a,k<=a->a<n->W a k=0:=λa y A=>by have:=Ex.zZ e A;simpa[y]using this
   have d0:=MU S (show k<n by lia) z;refine⟨λq=>?_,λq=>absurd d0 q⟩;have:=rO (h:=n) (k:=k) (f+m) k (k+1) W p (List.range k) (by lia) (by rw[afG];lia);have q:(fV n (f+m) k (k+1) W p (List.range k)).2.2=List.range n:=q;rw[q,afG]at this
   lia
  |some i=>
   obtain⟨B,C,_⟩:=Ex.gR e;have g:k<=i/\W i k≠0:=by simpa using C
   have E:=S.rows (aJ k i) (λm F=>Ex.qi F g.1) λa G=>Ex.lO G g.1
   have e0:aE W k i k k=W i k:=by unfold aE aJ;rw[afz rfl]
   have H:aT (aE W k i) k k≠0:=by show((aE W k i k k:Int):Rat)≠0;rw[e0];exact Ex.nO.mpr g.2
   have u:=E.next (d:=k) H;have I:p≠0:=Ex.nO.mp S.nz;have N:(λa j=>if a=k then aT (aE W k i) k j else(aT (aE W k i) k k*aT (aE W k i) a j-aT (aE W k i) a k*aT (aE W k i) k j)/(p:Rat))=aT (gy (aE W k i) k k p):=by
    funext a j;obtain⟨z,l⟩:=u.whole (h:=a+k+1) (λb _ c=>r (aJ k i b) c) (by lia) (show a<a+k+1 by lia) j;have l:(if a=k then aT (aE W k i) k j else(aT (aE W k i) k k*aT (aE W k i) a j-aT (aE W k i) a k*aT (aE W k i) k j)/(p:Rat))=(z:Rat):=l;show _=((gy (aE W k i) k k p a j:Int):Rat);unfold gy
    by_cases o:a=k
    rw[afz o,afz o];rw[afy o]at l|-;rw[afy o,l];congr 1;refine(Ex.yq I ?_).symm;rw[<-l,ahd,af0,af0]
   have P:(λs=>if s=k then k else s)=λs:Nat=>s:=by funext s;by_cases h:s=k<;>simp[h]
   have v:eo (k+1) (λa j=>M (aJ k i a) j) (λs=>if s=k then k else s) (aT (gy (aE W k i) k k p)) ((aE W k i k k:Int):Rat):=by rw[<-N];exact u
   rw[P]at v;have w:=Iz (n:=n) m f (k+1) (gy (aE W k i) k k p) (aE W k i k k) (λa j=>M (aJ k i a) j) (by lia) (λa j=>r _ j) v;rw[ahO]at w;refine w.trans ?_
   by_cases h:i=k
   have:(λa j=>M (aJ k i a) j)=M:=by
    funext a j;have:aJ k i a=a:=by unfold aJ;(repeat' split)<;>lia
    rw[this]
   rw[this];have t:k<n:=by lia
   have Q:=Ex.KD (n:=n) M t B (λz=>h z.symm);rw[Q];constructor;intro q z;exact q (by rw[z];grind);intro q z;exact q (by grind)
theorem Tw(n):L2.B6 (n+1) (-1)=some n:=by
 unfold L2.B6;rw[afy (by lia),afz (by lia)];congr 1
 lia
theorem Wl(h:l≠[]):l6 (l.map D.int) (-1)=.ok (.int (l.getLastD d)):=by
 unfold l6 L2.Jt;obtain⟨n,a⟩:∃n,l.length=n+1:=⟨l.length-1,by have:=List.length_pos_iff.mpr h;omega⟩;rw[afB,a,Tw];show(match(l.map D.int)[n]? with|some d=>(.ok d:M D)|none=>ao)=_;rw[afF,afE (show n<l.length by omega)];have e:l.getLastD d=l[n]:=by rw[List.getLastD_eq_getLast?,List.getLast?_eq_getElem?,show l.length-1=n by omega,afE (show n<l.length by omega)];rfl
 rw[e];rfl
theorem Zu(h:0<f):(mL n f k W p).2≠[]:=by
 obtain⟨g,rfl⟩:∃g,f=g+1:=⟨f-1,by lia⟩;unfold mL;cases jD n W k k with|none=>exact ai0 _ _|some i=>exact ai0 _ _
@[simp]theorem aeF (ch) (nums):fX (Y 31) "changes" (Wk Y ch nums)=.ok (.int ch):=bW rfl
@[simp]theorem aeG (ch) (nums):fX (Y 31) "numbers" (Wk Y ch nums)=.ok (.lst (nums.map D.int)):=bW rfl
theorem Ll:∀(l:List Int)x y,(∀k∈l,bz k b)->bz x B->B+l.length*b<=134217728->∃c,eU (aI 5) (aU 4 (aL gX (O 4) (O 5))) (l.map D.int) [a0,a1,a2,a3,~~~.int x,y,a6]=.ok (.nx [a0,a1,a2,a3,~~~.int (l.foldl (·* ·) x),c,a6])/\bz (l.foldl (·* ·) x) (B+l.length*b)
 |[],x,y,_,a,_=>⟨y,rfl,by simpa using a⟩
 |k::l,x,y,d,a,f=>by
  have e:(k::l).length*b=l.length*b+b:=by rw[af5,agY]
  have k1:=d k afH;rw[e]at f|-;obtain⟨c,g,h⟩:=Ll (a0:=a0) (a1:=a1) (a2:=a2) (a3:=a3) (a6:=a6) (b:=b) (B:=B+b) l (x*k) (~~~.int k) (λj i=>d j (afA _ i)) (a.mul k1) (by lia);refine⟨c,?_,h.mono (by lia)⟩;simp[iR _ _ (iy a k1 (by lia))];exact g
def MV(n:Nat)(P:PF):Q2:=(Jb (mL n n 0 (fO n P) 1).1*(mL n n 0 (fO n P) 1).2.getLastD 1,((List.range n).map (jk n P)).foldl (·* ·) 1)
theorem DT(o:∀i,i<r->∀j,j<c->sz (P i j) b)(hs:bX (b+(1+c*b)) (r+1)<=134217728)(u:1+r*(1+c*b)<=134217728)(C:r<=500)(N:c<=500):
  eX Y [eT Y r c P]=if decide (r≠c)then raises (Y 4)else .ok (eQ (MV r P)):=by
 by_cases v:r=c
 subst v;have f:aX Y [eT Y r r P]=.ok .cK:=by rw[cA];simp
 have b1:b+(1+r*b)<=bX (b+(1+r*b)) (r+1):=by unfold bX;have:(b+(1+r*b)+1)*1<=(b+(1+r*b)+1)*2^(r+1):=ag2 _ (agI _);rw[ahT (2^(r+1))];omega
 have e0:∀i,i<r->aQ Y [dm r (P i)]=.ok (.int (jk r P i)):=λi a=>by
  have z:∀p∈(List.range r).map (P i),bz p.2 b/\p.2≠0:=λp w=>by obtain⟨j,q,rfl⟩:=af6.mp w;have:=o i a j (afG.mp q);exact⟨this.d,this.z⟩
  have:=rH (Y:=Y) z (by rw[afB,afN];omega);rw[afS]at this;exact this
 have e1:∀i,i<r->bN Y [dm r (P i),.int (jk r P i)]=.ok (dJ r (fO r P i)):=λi a=>by
  have:=yD (Y:=Y) (l:=(List.range r).map (P i)) (c:=jk r P i) (b:=b) (B:=1+r*b) (λp w=>by obtain⟨j,q,rfl⟩:=af6.mp w;have:=o i a j (afG.mp q);exact⟨this.n,this.z⟩) (lC o a).1 (by omega) (by rw[afB,afN];omega)
  rw[afS,afS]at this;exact this
 have E:∀g:ak,g=[~~~eT Y r r P,none,none,none,none,none,none]->br (aI 6) bM (aa (U (O 6) af) (ah 1 (aQ Y))) g ((List.range r).map λi=>dm r (P i)) []=.ok ((List.range r).map λi=>.int (jk r P i)):=λg h=>by
  subst h;refine bf _ (by omega) λi a=>⟨_,rfl,?_⟩
  simp[e0 i a]
 have F:∀g,g=[~~~eT Y r r P,~~~(.lst ((List.range r).map λi=>.int (jk r P i))),none,none,none,none,none]->br (b4 [6,5]) bM (aa (U (O 6) (U (O 5) af)) (ah 2 (bN Y))) g ((List.range r).map λi=>.tup [dm r (P i),.int (jk r P i)]) []=.ok ((List.range r).map λi=>dJ r (fO r P i)):=λg h=>by
  subst h;refine bf _ (by omega) λi a=>⟨[~~~eT Y r r P,~~~(.lst ((List.range r).map λi=>.int (jk r P i))),none,none,none,~~~.int (jk r P i),~~~dm r (P i)],rfl,?_⟩
  simp[e1 i a]
 have G:∀i,i<r->∀j,j<r->bz (fO r P i j) (b+(1+r*b)):=λi a j q=>oV (o i a j q).n (lC o a).1
 have k3:=vO (Y:=Y) hs C G;have s:i9 Y [.lst ((List.range r).map λi=>dJ r (fO r P i))]=_:=k3;have H:∀x,GW (.int x) (.int 2)=.ok (.int (x.fmod 2)):=λx=>MN _ _ (by decide)
 have y:decide (r≠r)=false:=by simp
 have m:(if 0<r then l6 ((mL r r 0 (fO r P) 1).2.map D.int) (-1)else .ok (.int 1))=(.ok (.int ((mL r r 0 (fO r P) 1).2.getLastD 1)):M D):=by
  by_cases A:0<r
  rw[afz A];exact Wl (Zu A);rw[afy A];have:r=0:=by omega
  subst this;rfl
 obtain⟨Q,e,_⟩:=Ll (a0:= ~~~eT Y r r P) (a1:= ~~~(.lst ((List.range r).map λi=>.int (jk r P i)))) (a2:= ~~~Wk Y (mL r r 0 (fO r P) 1).1 (mL r r 0 (fO r P) 1).2) (a3:= ~~~.int (Jb (mL r r 0 (fO r P) 1).1*(mL r r 0 (fO r P) 1).2.getLastD 1)) (a6:=none) (b:=1+r*b) (B:=1) ((List.range r).map (jk r P)) 1 none (λk I=>by obtain⟨i,a,rfl⟩:=af6.mp I;exact(lC o (afG.mp a)).1) (by show Int.natAbs 1<2^1;decide) (by rw[afB,afN];exact u)
 rw[afS]at e;have e:eU (aI 5) (aU 4 (aL gX (O 4) (O 5))) ((List.range r).map λi=>.int (jk r P i)) _=_:=e;rw[y,afy afJ];unfold MV;generalize mL r r 0 (fO r P) 1=R at s m e|-;generalize R.2.getLastD 1=z at m e|-;simp! only[eX,aA,kg,ai];simp! [f];rw[E _ rfl];simp! [mR];rw[F _ rfl];simp! [s,Bf,m,H];unfold Jb at e|-
 by_cases t:R.1.fmod 2=1
 rw[afz t,ai2,ahP]at e;simp[iW,t,e];rfl;rw[afy t,ahP]at e;simp[iW,t,e];rfl;have f:aX Y [eT Y r c P]=raises (Y 4):=by rw[cA];simp[v]
 simp[eX,aA,kg,ai,f,v]
theorem IA(a:∀i,i<n->∀j,j<w->sz (P i j) b)(e:n<=w):det n (aT (fO w P))=sj n (λi=>(jk w P i:Rat))*det n (vF P):=by
 rw[<-Gg];refine Ex.eg λi c j f=>?_
 obtain⟨_,_,d⟩:=lC a c;exact lQ (d j (by lia)) (a i c j (by lia)).z
def Ah(a:∀i,i<n->∀j,j<w->sz (P i j) b):sj n (λi=>(jk w P i:Rat))≠0:=Lk λi c=>gp (lC a c).2.1
theorem Wm(c:∀i,i<n->∀j,j<n->sz (P i j) b):vl (MV n P)=det n (vF P)/\(MV n P).2≠0:=by
 have d:=IA c (afI n);have e:=Ah c;have f:=Gh n (jk n P);rw[Qq]at d;have a:((MV n P).2:Rat)=sj n λi=>(jk n P i:Rat):=f
 constructor;unfold vl;rw[a];show((Jb (mL n n 0 (fO n P) 1).1*(mL n n 0 (fO n P) 1).2.getLastD 1:Int):Rat)/_=_;rw[d];grind;intro q;rw[q]at a;exact e a.symm
theorem MW(i j):vF nT i j=Ex.cg i j:=by
 unfold vF nT vl zU Ex.cg
 by_cases h:i=j
 rw[afz h,afz h];simp;grind;rw[afy h,afy h];simp;grind
theorem AX(f:1<=b)(g:∀i,i<r->∀j,j<r->sz (P i j) b):Vagram.inverse (mk r r (vF P))=if Ir r P=List.range r then some (mk r r (vF (Ae r P)))else none:=by
 have a:=rN (d:=r) g λi o j e=>(yJ i j).mono f
 have k:=IA a (show r<=r+r by lia);have l:=Ah a;have O:=Iz (n:=r) r r 0 (fO (r+r) (fC r P nT)) 1 (aT (fO (r+r) (fC r P nT))) (by lia) (λi j=>bQ.int _) (eo.start _ _);have e1:det r (vF (fC r P nT))=det r (vF P):=Ex.eg λi _ j e=>by unfold vF fC;rw[afz e]
 have O:Ir r P=List.range r↔det r (aT (fO (r+r) (fC r P nT)))≠0:=O;rw[k,e1]at O;have m:Vagram.unitMat r=mk r r (vF nT):=by rw[Ex.yp];exact Ex.d7 λi _ j _=>(MW i j).symm
 unfold Vagram.inverse;rw[Ex.SM,Ex.qh];show(if decide (det r (vF P)=0)=true then none else some (Vagram.part (Vagram.reduce (Vagram.beside (mk r r (vF P)) (Vagram.unitMat r))).1 0 r r r))=_
 by_cases h:Ir r P=List.range r
 rw[afz h];have c:¬det r (vF P)=0:=λz=>O.mp h (by rw[z];grind)
 rw[aga c,afy afJ,m,Ex.zY,MS,(gT a).1,Ex.N4 _ (by lia) (by lia)];refine agg some (Ex.d7 λi _ j _=>?_);show vF (gS r (r+r) (fC r P nT)) (0+i) (r+j)=_;rw[agG];rfl;rw[afy h];have c:det r (vF P)=0:=by
  by_cases z:det r (vF P)=0
  exact z;exact absurd (O.mpr λq=>by rcases agk.mp q with q|q;exact l q;exact z q) h
 rw[af7 c,afz rfl]
def mO(r c:Nat)(P:PF):Bool:=(dz r c P).any λp=>decide (p.2≠1)
def Lm(h:mO r c P=false)(a:i<r)(b:j<c):(P i j).2=1:=by have:=agb.mp h _ (K5 a b);simpa using this
theorem DU(u:1<=b)(k:∀i,i<r->∀j,j<c->sz (P i j) b)(hs:bX (b+1) (r+1)<=134217728)(e:r<=500)(v:c<=500):
  dQ Y [eT Y r c P]=if decide (r≠c)then raises (Y 4)else if mO r c P then raises (Y 7)else .ok (Wk Y (mL r r 0 (λi j=>fY 1 (P i j)) 1).1 (mL r r 0 (λi j=>fY 1 (P i j)) 1).2):=by
 by_cases f:r=c
 subst f;have a:aX Y [eT Y r r P]=.ok .cK:=by rw[cA];simp
 have b1:b+1<=bX (b+1) (r+1):=by unfold bX;have:(b+1+1)*1<=(b+1+1)*2^(r+1):=ag2 _ (agI _);rw[ahT (2^(r+1))];omega
 have m:=jE (Y:=Y) (P:=P) (show r<=1000 by omega) (show r<=1000 by omega);have w:(dz r r P).length<=250000:=by rw[jj];exact af9 (agR e e) (by decide)
 have g:∀d,d=[~~~eT Y r r P,none]->br (aI 1) bM (kD (eL wR (aL ay (O 1) (aG (.int 1))) (aG (.int 1)))) d ((dz r r P).map eQ) []=.ok ((dz r r P).map λp=>.bl (decide (p.2≠1))):=λd h=>by
  have:=lP (aI 1) (kD (eL wR (aL ay (O 1) (aG (.int 1))) (aG (.int 1)))) d eQ (λp=>.bl (decide (p.2≠1))) (dz r r P) [] (by rw[aiu];omega) λp _=>by subst h;refine⟨_,rfl,?_⟩;simp[eQ,wR]
  rw[agH]at this;exact this
 have a1:=uE (λp:Q2=>decide (p.2≠1)) (dz r r P);have l:bz (1:Int) 1:=by show Int.natAbs 1<2^1;decide
 have o:=uC (Y:=Y) k l (by omega) (show r<=1000 by omega) (show r<=1000 by omega);have q:=vO (Y:=Y) (W:=λi j=>fY 1 (P i j)) hs e λi s j t=>oV (k i s j t).n l
 have e0:decide (r≠r)=false:=by simp
 rw[e0,afy afJ];have a1:Cj [.lst ((dz r r P).map λp=>.bl (decide (p.2≠1)))]=.ok (.bl (mO r r P)):=a1;simp! only[dQ,aA,j0,ai];generalize mO r r P=B at a1|-;simp[a,m];rw[g _ rfl,bq,a1];cases B with
 |true=>simp
 |false=>simp! [o,q]
 have a:aX Y [eT Y r c P]=raises (Y 4):=by rw[cA];simp[f]
 simp[dQ,aA,j0,ai,a,f]
theorem Tz(h:p.2=1):fY 1 p=p.1/\vl p=(p.1:Rat):=by unfold fY vl;rw[h];constructor;show p.1*Int.fdiv 1 1=p.1;rw[show Int.fdiv 1 1=1 from rfl,ah5];show(p.1:Rat)/((1:Int):Rat)=_;simp;grind
theorem TF(h:mO r r P=false):Vagram.leading (mk r r (vF P))=(Jb (mL r r 0 (λi j=>fY 1 (P i j)) 1).1,(mL r r 0 (λi j=>fY 1 (P i j)) 1).2):=by rw[<-Lj];refine agg Vagram.leading (Ex.d7 λi a j b=>?_);obtain⟨c,d⟩:=Tz (Lm h a b);rw[c];exact d
def iT(n:Nat)(P:PF):List Q2:=(List.range n).map λi=>P i i
def Z4(n:Nat)(P:PF):Q2:=(((iT n P).map (fY (eG (iT n P)))).sum,eG (iT n P))
theorem TH(u:∀i,i<r->∀j,j<c->sz (P i j) b)(hs:b+(1+r*b)<=134217728)(B:r<=500)(C:c<=500):kW Y [eT Y r c P]=if decide (r≠c)then raises (Y 4)else .ok (eQ (Z4 r P)):=by
 by_cases k:r=c
 subst k;have f:aX Y [eT Y r r P]=.ok .cK:=by rw[cA];simp
 have g:∀p∈iT r P,sz p b:=λp a=>by obtain⟨i,h,rfl⟩:=af6.mp a;exact u i (afG.mp h) i (afG.mp h)
 have s:(iT r P).length=r:=by unfold iT;rw[afB,afN]
 have v:=rH (Y:=Y) (l:=iT r P) (b:=b) (λp a=>⟨(g p a).d,(g p a).z⟩) (by rw[s];lia);have t:=u7 (l:=iT r P) (b:=b) λp a=>(g p a).d
 rw[s]at t;have w:=yD (Y:=Y) (l:=iT r P) (c:=eG (iT r P)) (b:=b) (λp a=>⟨(g p a).n,(g p a).z⟩) t hs (by lia);have m:∀o,o=[~~~eT Y r r P,none,none,none,none]->br (b4 [3,4]) bM (aL ay (O 4) (O 3)) o ((List.range r).map λi=>.tup [.int ((0+i:Nat):Int),dm r (P i)]) []=.ok ((iT r P).map eQ):=λo q=>by
  subst q;rw[show(iT r P).map eQ=(List.range r).map λi=>eQ (P i i)from afS ..];refine bf _ (by lia) λi h=>⟨[~~~eT Y r r P,none,none,~~~(.int ((0+i:Nat):Int)),~~~dm r (P i)],rfl,?_⟩
  have x:ay (dm r (P i)) (.int (i:Int))=.ok (eQ (P i i)):=rJ (λj=>eQ (P i j)) h;rw[agG];simp[x]
 have y:Em [.lst ((iT r P).map λp=>.int (fY (eG (iT r P)) p))]=.ok (.int ((iT r P).map (fY (eG (iT r P)))).sum):=by
  have e:((iT r P).map λp=>D.int (fY (eG (iT r P)) p))=((iT r P).map (fY (eG (iT r P)))).map D.int:=by rw[afS];rfl
  rw[e];show(match iJ (((iT r P).map (fY (eG (iT r P)))).map D.int)with|some A=>(.ok (.int A.sum):M D)|none=>ao)=_;rw[uF]
 have e0:decide (r≠r)=false:=by simp
 rw[e0,afy afJ];simp only[kW,aA,tU,ai];simp[f];rw[kj,m _ rfl];simp[v,w,y];rfl;have f:aX Y [eT Y r c P]=raises (Y 4):=by rw[cA];simp[k]
 simp[kW,aA,tU,ai,f,k]
theorem Qs(d:∀i,i<n->∀j,j<n->sz (P i j) b):vl (Z4 n P)=aF n (λi=>vF P i i)/\(Z4 n P).2≠0:=by
 have f:∀p∈iT n P,sz p b:=λp c=>by obtain⟨i,a,rfl⟩:=af6.mp c;exact d i (afG.mp a) i (afG.mp a)
 have g:=BN (l:=iT n P) λp c=>(f p c).z
 refine⟨?_,g⟩;have e:((iT n P).map (fY (eG (iT n P)))).sum=sumZ n λi=>fY (eG (iT n P)) (P i i):=by unfold sumZ;generalize eG (iT n P)=K;unfold iT;rw[afS];rfl
 unfold vl Z4;show((((iT n P).map (fY (eG (iT n P)))).sum:Int):Rat)/_=_;rw[e,mS];have h:(aF n λi=>((fY (eG (iT n P)) (P i i):Int):Rat))=aF n λi=>(eG (iT n P):Rat)*vF P i i:=Ex.az λi a=>lQ (Dz (λp c=>(f p c).z) _ (af6.mpr ⟨i,afG.mpr a,rfl⟩)) (d i a i a).z
 rw[h,Ex.cQ];have:=gp g;show(eG (iT n P):Rat)*_/(eG (iT n P):Rat)=_;grind
open Ex (mk fr aF)
def uG(N:ZF)(c:Int):ZF:=λi j=>if i=j then N i j+c else N i j
theorem TJ(o:n<=1000):kh Y [eZ n n N,.int c]=.ok (eZ n n (uG N c)):=by
 have k:∀i,i<n->∀a,a=[~~~eZ n n N,~~~.int c,~~~(.int ((0+i:Nat):Int)),~~~dJ n (N i),none,none]->br (b4 [4,5]) bM (GX (eL iW (O 2) (O 4)) (aL kC (O 5) (O 1)) (O 5)) a ((List.range n).map λj=>.tup [.int ((0+j:Nat):Int),.int (N i j)]) []=.ok ((List.range n).map λj=>.int (uG N c i j)):=λi f a b=>by
  subst b;refine bf _ (by lia) λj p=>⟨[~~~eZ n n N,~~~.int c,~~~(.int ((0+i:Nat):Int)),~~~dJ n (N i),~~~(.int ((0+j:Nat):Int)),~~~.int (N i j)],rfl,?_⟩
  rw[agG,agG];unfold uG
  by_cases h:i=j
  subst h;simp[iW];have l:¬(i:Int)=(j:Int):=by lia
  simp[iW,h,l]
 have m:∀i,jQ [dJ n (N i)]=.ok ((List.range n).map λj=>.tup [.int ((0+j:Nat):Int),.int (N i j)]):=λi=>by show Except.ok (DL.numbered 0 _)=_;rw[kj]
 have e:jQ [eZ n n N]=.ok ((List.range n).map λi=>.tup [.int ((0+i:Nat):Int),dJ n (N i)]):=by show Except.ok (DL.numbered 0 _)=_;rw[kj]
 have g:∀a:ak,a=[~~~eZ n n N,~~~.int c,none,none,none,none]->br (b4 [2,3]) bM (jM (fQ (U (O 3) af) jQ) (b4 [4,5]) bM (GX (eL iW (O 2) (O 4)) (aL kC (O 5) (O 1)) (O 5)) [4,5]) a ((List.range n).map λi=>.tup [.int ((0+i:Nat):Int),dJ n (N i)]) []=.ok ((List.range n).map λi=>dJ n (uG N c i)):=λa b=>by
  subst b;refine bf _ (by lia) λi f=>⟨[~~~eZ n n N,~~~.int c,~~~(.int ((0+i:Nat):Int)),~~~dJ n (N i),none,none],rfl,?_⟩
  rw[Zm,Zn,Oa,yu,iE (d:=dJ n (N i)) 3 rfl,bq,Ik,bq,bq,m,bq];rw[show iK [~~~eZ n n N,~~~.int c,~~~(.int ((0+i:Nat):Int)),~~~dJ n (N i),none,none] [4,5]=[~~~eZ n n N,~~~.int c,~~~(.int ((0+i:Nat):Int)),~~~dJ n (N i),none,none]from rfl,k i f _ rfl];rfl
 simp only[kh,aA,vG,ai];simp only[Nat.zero_add]at g e;simp[e];rw[g _ rfl];rfl
def IB(Y:afp):afw:=(aq (aU 3 (aa (U (O 2) (U (O 3) (U (aB (Y 19) "width" (O 0)) af))) (ah 3 (dD Y))))
  (aq (aU 7 (aL oj (Eo (aa (U (jM (fQ (U (O 3) af) jQ) (b4 [8,9]) bM (aL ay (O 9) (O 8)) (List.map (·.2) [(("i":Str),8),("row",9)])) af) Em)) (O 6)))
  (aq (aU 3 (aa (U (O 3) (U (O 7) af)) (ah 2 (kh Y))))
  (aq (aU 5 (aL gX (O 5) (O 1)))
  (sL 4 (aa (U (O 7) (U (O 5) af)) eS))))))
def MX(n:Nat)(A B:ZF)(k:Nat):Int:=(-(sumZ n λi=>iG n A B i i)).fdiv (k:Int)
theorem Wn{n k:Nat}{A B:ZF}{K w}{P:PF}{nums:List D}{l m o p}(E d q r:Option L)(s:∀i,i<n->∀j,j<n->bz (A i j) l)(t:∀i,i<n->∀j,j<n->bz (B i j) m)(u:bz K o)(hw:bz w p)(hs:l+m<=134217728)(e:p+o<=134217728)(F:n<=500)(G:1<=k)(H:nums.length<=1000):
  ∃v,IB Y [~~~eT Y n n P,~~~.int K,~~~eZ n n A,~~~eZ n n B,some (.ow nums),~~~.int w,~~~(.int (k:Int)),d,q,r]=
   .ok (.nx [~~~eT Y n n P,~~~.int K,~~~eZ n n A,~~~eZ n n (uG (iG n A B) (MX n A B k)),some (.ow (nums++[eQ (MX n A B k,w*K)])),~~~.int (w*K),~~~(.int (k:Int)),v,q,r]):=by
 have x:=DF (Y:=Y) s t hs (show n<=1000 by lia) (show n<=1000 by lia) (show n<=1000 by lia);have y:(k:Int)≠0:=by lia
 have z:nums.length<sizeLine:=by rw[show sizeLine=16777216 from rfl];lia
 have a:jQ [eZ n n (iG n A B)]=.ok ((List.range n).map λi=>.tup [.int ((0+i:Nat):Int),dJ n (iG n A B i)]):=by show Except.ok (DL.numbered 0 _)=_;rw[kj]
 have b:∀f:ak,f=[~~~eT Y n n P,~~~.int K,~~~eZ n n A,~~~eZ n n (iG n A B),some (.ow nums),~~~.int w,~~~(.int (k:Int)),d,none,none]->br (b4 [8,9]) bM (aL ay (O 9) (O 8)) f ((List.range n).map λi=>.tup [.int ((0+i:Nat):Int),dJ n (iG n A B i)]) []=.ok ((List.range n).map λi=>.int (iG n A B i i)):=λf g=>by
  subst g;refine bf _ (by lia) λi C=>⟨[~~~eT Y n n P,~~~.int K,~~~eZ n n A,~~~eZ n n (iG n A B),some (.ow nums),~~~.int w,~~~(.int (k:Int)),d,~~~(.int ((0+i:Nat):Int)),~~~dJ n (iG n A B i)],rfl,?_⟩
  rw[agG];simp[ko _ C]
 have h:=TJ (Y:=Y) (n:=n) (N:=iG n A B) (c:=MX n A B k) (by lia);refine⟨~~~.int (MX n A B k),?_⟩;simp only[Nat.zero_add]at b a;unfold IB;simp only[lZ];simp[x,a];rw[b _ rfl];simp[K3,u6 _ _ y];rw[show(-(sumZ n λi=>iG n A B i i)).fdiv (k:Int)=MX n A B k from rfl,h];simp[iR _ _ (iy hw u e),z];rfl
def Uk(n:Nat)(A:ZF)(K:Int):Nat->Nat->ZF->Int->List Q2|0,_,_,_=>[]|f+1,k,B,w=>(MX n A B k,w*K)::Uk n A K f (k+1) (uG (iG n A B) (MX n A B k)) (w*K)
theorem Ln(d:∀i,i<n->∀j,j<n->bz (A i j) a)(e:∀i,i<n->∀j,j<n->bz (B i j) b)(f:i<n)(g:j<n):bz (iG n A B i j) (a+b+n):=BO _ λk c=>(d i f k c).mul (e k c j g)
theorem Zv(d:∀i,i<n->∀j,j<n->bz (A i j) a)(e:∀i,i<n->∀j,j<n->bz (B i j) b)(k):bz (MX n A B k) (a+b+n+n):=(BO _ λi c=>Ln d e c c).neg.fdiv
theorem Ov{n:Nat}{A:ZF}{K:Int}{P:PF}{a c:Nat}(l:∀i,i<n->∀j,j<n->bz (A i j) a)(q:bz K c)(t:n<=500):∀(f k:Nat)(B:ZF)w(nums:List D)b g(m o d e:Option L),(∀i,i<n->∀j,j<n->bz (B i j) b)->bz w g->b+f*(a+n+n+1)<=134217728->g+f*c<=134217728->1<=k->nums.length+f<=1000->
  ∃y z C r,eU (aI 6) (IB Y) ((List.range f).map λj=>.int ((k+j:Nat):Int)) [~~~eT Y n n P,~~~.int K,~~~eZ n n A,~~~eZ n n B,some (.ow nums),~~~.int w,m,o,d,e]=
   .ok (.nx [~~~eT Y n n P,~~~.int K,~~~eZ n n A,y,some (.ow (nums++(Uk n A K f k B w).map eQ)),z,C,r,d,e])
 |0,k,B,w,nums,b,g,m,o,d,e,p,hw,E,F,u,G=>⟨_,_,_,_,by unfold Uk;rw[aiU,agh];rfl⟩
 |f+1,k,B,w,nums,b,g,m,o,d,e,p,hw,E,F,u,G=>by
  have m1:(f+1)*(a+n+n+1)=f*(a+n+n+1)+(a+n+n+1):=agY ..;have W:(f+1)*c=f*c+c:=agY ..;obtain⟨r,st⟩:=Wn (Y:=Y) (k:=k) (P:=P) (nums:=nums) m o d e l p q hw (by lia) (by lia) t u (by lia);have s:∀i,i<n->∀j,j<n->bz (uG (iG n A B) (MX n A B k) i j) (b+(a+n+n+1)):=λi H j I=>by
   have v:=Ln l p H I;have N:=Zv l p k;unfold uG
   by_cases h:i=j
   rw[afz h];exact((v.mono (show a+b+n<=a+b+n+n by lia)).add N).mono (by lia);rw[afy h];exact v.mono (by lia)
  obtain⟨Q,R,S,T,x⟩:=Ov l q t f (k+1) (uG (iG n A B) (MX n A B k)) (w*K) (nums++[eQ (MX n A B k,w*K)]) (b+(a+n+n+1)) (g+c) (~~~(.int (k:Int))) r d e s (hw.mul q) (by lia) (by lia) (by lia) (by rw[afM,agr];lia);refine⟨Q,R,S,T,?_⟩;rw[DK];rw[agX]at x;simp only[oQ,qk,uz,bq,List.set_cons_succ,List.set_cons_zero,st,qj];exact x
def Ul(n:Nat)(P:PF):List Q2:=(1,1)::Uk n (λi j=>fY (eG (dz n n P)) (P i j)) (eG (dz n n P)) n 1 zU 1
theorem IC(h:∀i,i<r->∀j,j<c->sz (P i j) b)(hs:1+r*((b+(1+r*c*b))+r+r+1)<=134217728)(k:1+r*(1+r*c*b)<=134217728)(m:b+(1+r*c*b)<=134217728)(u:r<=500)(C:c<=500):
  bT Y [eT Y r c P]=if decide (r≠c)then raises (Y 4)else .ok (.lst ((Ul r P).map eQ)):=by
 by_cases o:r=c
 subst o;have a:aX Y [eT Y r r P]=.ok .cK:=by rw[cA];simp
 have v:=jE (Y:=Y) (P:=P) (show r<=1000 by lia) (show r<=1000 by lia);have z:∀p∈dz r r P,sz p b:=λp e=>by obtain⟨i,j,q,t,rfl⟩:=qm e;exact h i q j t
 have w:=rH (Y:=Y) (l:=dz r r P) (b:=b) (λp e=>⟨(z p e).d,(z p e).z⟩) (by rw[jj];lia);have f:=u7 (l:=dz r r P) (b:=b) λp e=>(z p e).d
 rw[jj]at f;have x:=uC (Y:=Y) h f m (show r<=1000 by lia) (show r<=1000 by lia);have y:=DC (Y:=Y) (n:=r) (by lia);have A:∀i,i<r->∀j,j<r->bz (fY (eG (dz r r P)) (P i j)) (b+(1+r*r*b)):=λi q j t=>oV (h i q j t).n f
 obtain⟨E,F,G,H,g⟩:=Ov (Y:=Y) (P:=P) A f u r 1 zU 1 [eQ (1,1)] 1 1 none none none none (λi _ j _=>S9 i j) (by show Int.natAbs 1<2^1;decide) hs k (by lia) (by rw[agr];lia);have B:AB [.int 1,.int ((r:Int)+1)]=.ok ((List.range r).map λj=>.int ((1+j:Nat):Int)):=by have:=La (s:=1) (r:=r+1) (by lia) (by lia);rw[Nat.add_sub_cancel,afS]at this;exact this
 have e0:decide (r≠r)=false:=by simp
 rw[e0,afy afJ];simp! only[bT,aA,fB,ai];simp! [a,v,w,x,y,B,show sizeLine=16777216 from rfl];unfold IB at g;simp! only[List.map_cons,List.map_nil]at g;simp only[Int.natCast_add,Int.cast_ofNat_Int]at g;rw[show D.tup [D.int 1,D.int 1]=eQ (1,1)from rfl,g];simp[bE,dF];rfl;have a:aX Y [eT Y r c P]=raises (Y 4):=by rw[cA];simp[o]
 simp[bT,aA,fB,ai,a,o]
open Ex (mk fr aF aT co yW N8 cg mulR bQ)
theorem vf(n)(A B)(i j):((iG n A B i j:Int):Rat)=mulR n (aT A) (aT B) i j:=by unfold iG mulR;rw[mS];congr 1;funext k;simp
theorem Qt(Q M)(k)(a:1<=k)(f):Vagram.charFrom (mk n n Q) (f+1) k (mk n n M)=fr (-(aF n (λi=>mulR n Q M i i)/(k:Rat)))::Vagram.charFrom (mk n n Q) f (k+1) (mk n n λi j=>mulR n Q M i j+-(aF n (λi=>mulR n Q M i i)/(k:Rat))*cg i j):=by
 show Vagraa.neg (Vagraa.div (Vagram.trace (Vagram.mul (mk n n Q) (mk n n M))) (Vagraa.frac k 1))::Vagram.charFrom (mk n n Q) f (k+1) (Vagram.add (Vagram.mul (mk n n Q) (mk n n M)) (Vagram.scale (Vagraa.neg (Vagraa.div (Vagram.trace (Vagram.mul (mk n n Q) (mk n n M))) (Vagraa.frac k 1))) (Vagram.unitMat (mk n n Q).rows)))=_;rw[Ex.Ie,Ex.KI _ _ _ (afI n),Ex.yo,Ex.yp,Ex.BJ _ (by lia),Ex.Ib,Ex.zW,Ex.Dm,Ex.SI];have e:mkRat (k:Int) 1=(k:Rat):=by rw[Rat.mkRat_one];rfl
 rw[e]
theorem Ow{K:Int}(m:K≠0)(E:∀i,i<n->∀j,j<n->(A i j:Rat)=(K:Rat)*Q i j):
  ∀f k B(w:Int)M,f+k=n+1->1<=k->w≠0->
   (∀o,f=o+1->∀i,i<n->∀j,j<n->(B i j:Rat)=co (yW n (aT A) i j) o)->
   (∀i,i<n->∀j,j<n->(B i j:Rat)=(w:Rat)*M i j)->
   (∀i,i<n->∀j,j<n->mulR n (aT A) (aT B) i j=mulR n (aT B) (aT A) i j)->
   Vagram.charFrom (mk n n Q) f k (mk n n M)=(Uk n A K f k B w).map (λp=>fr (vl p))/\∀p∈Uk n A K f k B w,p.2≠0
 |0,k,B,w,M,_,_,_,_,_,_=>⟨rfl,λp c=>absurd c (agN)⟩
 |f+1,k,B,w,M,hf,R,hw,r,S,F=>by
  have r:=r f rfl;have v:k+f=n:=by lia
  obtain⟨z,G⟩:=Ex.Qe (n:=n) (A:=aT A) (λi j=>bQ.int _) f;have H:((k:Int):Rat)≠0:=gp (by lia);have d:(w:Rat)≠0:=gp hw;have g:(K:Rat)≠0:=gp m;have I:((sumZ n λi=>iG n A B i i:Int):Rat)=-((k:Rat)*(z:Rat)):=by
   rw[mS,<-G,<-Ex.EN (aT A) v];refine Ex.az λi a=>?_
   rw[vf];exact Ex.az λl s=>by show(A i l:Rat)*(B l i:Rat)=_;rw[r l s i a]
  have T:MX n A B k=z:=by unfold MX;refine Ex.yq (by lia) ?_;rw[show((-(sumZ n λi=>iG n A B i i):Int):Rat)=-((sumZ n λi=>iG n A B i i:Int):Rat)by simp,I];have:((k:Int):Rat)=(k:Rat):=rfl;rw[this]at H|-;grind
  have N:∀i,i<n->∀j,j<n->mulR n (aT A) (aT B) i j=(w:Rat)*(K:Rat)*mulR n Q M i j:=λi a j b=>by
   unfold mulR;rw[<-Ex.cQ];refine Ex.az λl s=>?_
   rw[show aT A i l=(K:Rat)*Q i l from E i a l s,show aT B l j=(w:Rat)*M l j from S l s j b];grind
  have X:-(aF n (λi=>mulR n Q M i i)/(k:Rat))=(z:Rat)/((w:Rat)*(K:Rat)):=by
   have e1:((sumZ n λi=>iG n A B i i:Int):Rat)=(w:Rat)*(K:Rat)*aF n λi=>mulR n Q M i i:=by rw[mS,<-Ex.cQ];exact Ex.az λi a=>by rw[vf,N i a i a]
   rw[I]at e1;have:((k:Int):Rat)=(k:Rat):=rfl;rw[this]at H;have x:(w:Rat)*(K:Rat)≠0:=λq=>by rcases agk.mp q with q|q;exact d q;exact g q
   generalize (w:Rat)*(K:Rat)=W at*;grind
  have x:((w*K:Int):Rat)=(w:Rat)*(K:Rat):=by simp
  have u:∀i j,((uG (iG n A B) z i j:Int):Rat)=mulR n (aT A) (aT B) i j+(z:Rat)*cg i j:=λi j=>by
   unfold uG cg
   by_cases h:i=j
   rw[afz h,afz h,Rat.mul_one,<-vf];simp;rw[afy h,afy h,vf,aio,ahq]
  have P:=Ow (n:=n) (A:=A) m E f (k+1) (uG (iG n A B) z) (w*K) (λi j=>mulR n Q M i j+(z:Rat)/((w:Rat)*(K:Rat))*cg i j) (by lia) (by lia) (afW hw m) (λo y i a j b=>by
    subst y;rw[u,Ex.Ij _ a b,F i a j b,<-G];have e:mulR n (aT B) (aT A) i j=aF n λt=>co (yW n (aT A) i t) (o+1)*aT A t j:=Ex.az λt C=>by rw[show aT B i t=_ from r i a t C]
    rw[e];grind) (λi a j b=>by
    rw[u,N i a j b,x];have Z:(w:Rat)*(K:Rat)≠0:=λq=>by rcases agk.mp q with q|q;exact d q;exact g q
    generalize (w:Rat)*(K:Rat)=W at*;grind) (λi a j b=>by
    have l1:mulR n (aT A) (aT (uG (iG n A B) z)) i j=mulR n (aT A) (mulR n (aT A) (aT B)) i j+(z:Rat)*aT A i j:=by
     rw[<-Ex.FQ n (λt=>(z:Rat)*aT A i t) j b];unfold mulR;rw[<-Ex.lN];refine Ex.az λt _=>?_
     rw[show aT (uG (iG n A B) z) t j=_ from u t j];unfold mulR;grind
    have l2:mulR n (aT (uG (iG n A B) z)) (aT A) i j=mulR n (mulR n (aT A) (aT B)) (aT A) i j+(z:Rat)*aT A i j:=by
     rw[<-Ex.wM n (λt=>(z:Rat)*aT A t j) i a];unfold mulR;rw[<-Ex.lN];refine Ex.az λt _=>?_
     rw[show aT (uG (iG n A B) z) i t=_ from u i t];unfold mulR;grind
    rw[l1,l2,Ex.Ds];congr 1;exact Ex.az λt C=>by rw[F t C j b])
  have un:Uk n A K (f+1) k B w=(MX n A B k,w*K)::Uk n A K f (k+1) (uG (iG n A B) (MX n A B k)) (w*K):=rfl;rw[un,T,Qt Q M k R f,X,P.1];refine⟨?_,λp c=>?_⟩;rw[afR,show vl (z,w*K)=(z:Rat)/((w:Rat)*(K:Rat))by show(z:Rat)/((w*K:Int):Rat)=_;rw[x]];rcases afU.mp c with rfl|c;exact afW hw m;exact P.2 p c
theorem TM(e:∀i,i<n->∀j,j<n->sz (P i j) b):Vagram.charNumbers (mk n n (vF P))=(Ul n P).map (λp=>fr (vl p))/\∀p∈Ul n P,p.2≠0:=by
 have k:=mK λi a j d=>(e i a j d).z
 have l:∀i,i<n->∀j,j<n->((fY (eG (dz n n P)) (P i j):Int):Rat)=(eG (dz n n P):Rat)*vF P i j:=λi a j d=>lQ (BU (λi a j d=>(e i a j d).z) a d).1 (e i a j d).z
 have u:∀i j,((zU i j:Int):Rat)=cg i j:=λi j=>by
  unfold zU cg
  by_cases h:i=j
  rw[afz h,afz h];rfl;rw[afy h,afy h];rfl
 have c:=Ow (n:=n) (A:=λi j=>fY (eG (dz n n P)) (P i j)) k l n 1 zU 1 cg rfl (afI 1) (by decide) (λm f i a j d=>by
   subst f;rw[u,Ex.Qg _ a d]) (λi _ j _=>by rw[u];simp) (λi a j d=>by
   have e1:aT zU=cg:=by funext i j;exact u i j
   rw[e1];unfold mulR;rw[Ex.FQ n _ j d,Ex.wM n (λt=>aT (λi j=>fY (eG (dz n n P)) (P i j)) t j) i a])
 unfold Vagram.charNumbers Ul;rw[Ex.yo,Ex.yp,c.1,afR,Tr,Ex.SG];refine⟨rfl,λp g=>?_⟩;rcases afU.mp g with rfl|g;exact(by decide:(1:Int)≠0);exact c.2 p g
variable{Y:afp}{ρ:ak}
@[simp]theorem Ox (i) (h:ρ[i]?=some (some x)) (a:x.own=true):cV i ρ=.ok x:=by unfold cV;rw[h];exact afz a
@[simp]theorem Wo (i) (fr):JQ i fr ρ=(fr ρ>>=λp=>.ok (.nx (p.2.set i (~~~p.1)))):=rfl
@[simp]theorem acz (i) (fr):L7 i fr ρ=(ownOf i ρ>>=λ_=>fr ρ>>=λp=>ownOf i p.2>>=λds=>if ds.length<sizeLine then .ok (.nx (p.2.set i (some (.ow (ds++[p.1])))))else ao):=rfl
@[simp]theorem abF (i n) (h) (fs):sM i n h fs ρ=(cV i ρ>>=λx=>fs ρ>>=λds=>if ds.length=n then h x ds>>=λr=>.ok (r.1,ρ.set i (some r.2))else ao):=rfl
@[simp]theorem TN (i n) (C) (m) (h) (fs):sN i n C m h fs ρ=(cV i ρ>>=λx=>cellOf C m x>>=λ_=>fs ρ>>=λds=>if ds.length=n then h x ds>>=λr=>.ok (r.1,ρ.set i (some r.2))else ao):=rfl
@[simp]theorem Qu (i) (C) (m) (h):qF i C m h ρ=(cV i ρ>>=λx=>cellOf C m x>>=λ_=>h x []>>=λr=>.ok (r.1,ρ.set i (some r.2))):=rfl
def ie(C)(m)(xs)(ds)(h:xs.contains m=false):cellOf C m (.ce C xs ds)=.ok (.ce C xs ds):=afz ⟨rfl,h⟩
@[simp]theorem Z5 (C) (m) (h) (a):zk C m h a ρ=(a ρ>>=λo=>Pg m C o>>=λ_=>h [o]):=rfl
@[simp]theorem acA (i) (C) (x):we i C x ρ=(cV i ρ>>=RW C x):=rfl
@[simp]theorem acB (C) (x) (xs) (ds):RW C x (.ce C xs ds)=fX C x (.obj C xs ds):=rfl
@[simp]theorem acC (i) (C) (x) (a):JU i C x a ρ=(cV i ρ>>=λb=>RW C x b>>=λd0=>a ρ>>=λc=>eO d0>>=λd=>eO c>>=λe=>cV i ρ>>=λl=>Cu C x (.int (d+e)) l>>=λf=>.ok (.nx (ρ.set i (some f)))):=rfl
@[simp]theorem abG (f):iB f ρ=(f ρ>>=λd=>eO d>>=λi=>.ok (some i)):=rfl
@[simp]theorem acD (ds) (a):R7 ds a ρ=(a ρ>>=λy=>eO y>>=λk=>l6 ds k):=rfl
abbrev rdX:List Str:=["numbers","place"]
abbrev sA(Y:afp)(c:D)(k:Int):L:=.ce (Y 9) rdX [c,.int k]
abbrev rdO(Y:afp)(c:D)(k:Int):D:=.obj (Y 9) rdX [c,.int k]
@[simp]theorem Zw (c) (k:Int):fX (Y 9) "numbers" (rdO Y c k)=.ok c:=bW rfl
@[simp]theorem abI (c) (k:Int):fX (Y 9) "place" (rdO Y c k)=.ok (.int k):=bW rfl
theorem MY(c)(k i:Int):Cu (Y 9) "place" (.int i) (sA Y c k)=.ok (sA Y c i):=by
 have q:(Str.ofString "numbers"=Str.ofString "place")=False:=by decide
 simp[Cu,fy,q]
@[simp]theorem Wq (c) (k:Int):cellOf (Y 9) "take" (sA Y c k)=.ok (sA Y c k):=ie _ _ _ _ (by decide)
@[simp]theorem W6 (c) (k:Int):cellOf (Y 9) "take_row" (sA Y c k)=.ok (sA Y c k):=ie _ _ _ _ (by decide)
@[simp]theorem ER (c) (k:Int):cellOf (Y 9) "take_given" (sA Y c k)=.ok (sA Y c k):=ie _ _ _ _ (by decide)
@[simp]theorem abJ (c) (k:Int):Pg "ended" (Y 9) (rdO Y c k)=.ok (rdO Y c k):=afz ⟨rfl,by decide⟩
def MZ(c:D)(l:List D):Prop:=c=.lst l\/c=.arr l
theorem MZ.sub(h:MZ c l)(i):ay c (.int i)=l6 l i:=by rcases h with rfl|rfl<;>rfl
theorem MZ.O(h:MZ c l):El c=.ok l:=by rcases h with rfl|rfl<;>rfl
theorem MZ.len(h:MZ c l):iw [c]=.ok (.int l.length):=by rcases h with rfl|rfl<;>rfl
def Lo(h:MZ c l)(k:Nat):f7 Y [rdO Y c (k:Int)]=.ok (.bl (decide (l.length<=k))):=by simp[f7,aA,rV,ai,h.len,LK]
theorem ID{c}{l:List D}(h:MZ c l){k:Nat}{d}(a:l[k]?=some d):dS Y (sA Y c (k:Int)) []=.ok (d,sA Y c ((k+1:Nat):Int)):=by have e:=sf l k a;simp[dS,runC,sZ,dY,sy,pW,h.sub,e,MY,L.own]
theorem IE(l)(k n:Nat)(h:k<=l.length):cutD l (some (k:Int)) (some ((k:Int)+(n:Int)))=(l.drop k).take n:=by
 unfold cutD;rw[show((k:Int)+(n:Int))=((k+n:Nat):Int)by lia,HT.n8,HT.n8,ahe h]
 by_cases q:k+n<=l.length
 rw[ahe q,ah9];rw[Nat.min_eq_right (by lia),ahv (by rw[ag4];lia),ahv (by rw[ag4];lia)]
theorem AY{c}{l:List D}(h:MZ c l){k n:Nat}(a:k<=l.length):ef Y (sA Y c (k:Int)) [.int (n:Int)]=.ok (.lst ((l.drop k).take n),sA Y c ((k+n:Nat):Int)):=by simp[ef,runC,ng,dY,sy,pW,h.O,IE l k n a,MY,L.own]
theorem Oz(c):xF 1 (Y 9) (c8 Y) [c]=.ok (rdX,[c,.int 0],Y 9):=by
 have q:(Str.ofString "numbers"=Str.ofString "place")=False:=by decide
 simp[xF,Cv,c8,runC,m9,dY,sy,pW,Cu,fy,L.own,q]
abbrev RL:=Int×List Int
def cj(Y:afp)(r:RL):D:=.obj (Y 15) ["kind","numbers"] [.int r.1,.lst (r.2.map D.int)]
@[simp]theorem acF (r:RL):fX (Y 15) "kind" (cj Y r)=.ok (.int r.1):=bW rfl
@[simp]theorem Zx (r:RL):fX (Y 15) "numbers" (cj Y r)=.ok (.lst (r.2.map D.int)):=bW rfl
def Wr(op:Int)(ns:List Int):cH 2 (Y 15) (jo Y) [.int op,.lst (ns.map D.int)]=.ok (cj Y (op,ns)):=We _ _
def ff(op:Int):Nat:=if op=0\/op=6 then 1 else 2
theorem Zy(a:0<=op)(b:op<=6):l6 (Hh.map D.int) op=.ok (.int (ff op:Nat)):=by rcases(by lia:op=0\/op=1\/op=2\/op=3\/op=4\/op=5\/op=6)with rfl|rfl|rfl|rfl|rfl|rfl|rfl<;>rfl
def vg(op:Int)(ns:List Int):Bool:=if op=1 then decide (ns.getD 1 0<1)else decide (Mb ns<0)
def Ai:List Int->Option (RL×List Int)
 |[]=>none
 |a::r=>if a<0\/6<a then none else if r.length<ff a then none else if vg a (r.take (ff a))then none else some ((a,r.take (ff a)),r.drop (ff a))
theorem iU(op:Int)(r:List Int):Ai (op::r)=if op<0\/6<op then none else if r.length<ff op then none else if vg op (r.take (ff op))then none else some ((op,r.take (ff op)),r.drop (ff op)):=rfl
theorem ints_map(ns):iJ (ns.map D.int)=some ns:=by
 induction ns with|nil=>rfl|cons n ns a=>simp[iJ,a]
def Ws(ns)(h:0<ns.length):Pj [.lst (ns.map D.int)]=.ok (.int (Mb ns)):=by simp[Pj,DL.one,xG,ints_map,h]
def Wt(ns)(h:0<ns.length):Ph [.lst (ns.map D.int)]=.ok (.int (Ma ns)):=by simp[Ph,DL.one,xG,ints_map,h]
theorem IF{c}{ns:List Int}(h:MZ c (ns.map D.int)){k}{op}{r:List Int}(e:ns.drop k=op::r):
  cX Y (sA Y c (k:Int)) []=match Ai (op::r)with
   |none=>raises (Y 1)
   |some p=>.ok (cj Y p.1,sA Y c ((k+1+ff op:Nat):Int)):=by
 have E:k<ns.length:=by rcases Nat.lt_or_ge k ns.length with q|q;exact q;rw[ahx q]at e;cases e
 have g:(ns.map D.int)[k]?=some (.int op):=by
  rw[afF];have:ns[k]?=some op:=by have:=agg (λl=>l[0]?) e;simpa using this
  rw[this];rfl
 have d:=ID (Y:=Y) h g;have A:(ns.map D.int).drop (k+1)=r.map D.int:=by rw[<-aiL];congr 1;have:=agg (List.drop 1) e;rw[ag8]at this;simpa using this
 have f:=AY (Y:=Y) h (k:=k+1) (n:=ff op) (by rw[afB];lia);rw[A,<-aiM]at f;rw[iU]
 by_cases i:op<0\/6<op
 rw[afz i];rcases i with i|i;simp[-Int.natCast_add,cX,runC,fJ,dY,sy,pW,ie,L.own,d,Fz,i];have m:¬op<0:=by lia
 simp[-Int.natCast_add,cX,runC,fJ,dY,sy,pW,ie,L.own,d,Fz,Bf,m,i];have m:¬op<0:=by lia
 have x:¬6<op:=by lia
 have j:=Zy (op:=op) (by lia) (by lia);rw[afy i];have F:1<=ff op:=by unfold ff;split<;>lia
 by_cases y:r.length<ff op
 rw[afz y];have B:¬(min (ff op) r.length=ff op):=by lia
 have o:((min (ff op) r.length:Nat):Int)≠((ff op:Nat):Int):=by lia
 simp[-Int.natCast_add,cX,runC,fJ,dY,sy,pW,ie,L.own,d,Fz,Bf,wR,m,x,j,f,o];rw[afy y];have t:(r.take (ff op)).length=ff op:=by rw[ag3];lia
 have C:min (ff op) r.length=ff op:=by lia
 generalize G:r.take (ff op)=u at*;have mk:=Wr (Y:=Y) op u
 by_cases v:op=1
 subst v;have w:ff 1=2:=rfl;rw[w]at t;rw[w,show((2:Nat):Int)=2 from rfl]at j f
 match u,t with
 |[a,b],_=>
  unfold vg;rw[afz rfl]
  by_cases s:b<1
  simp[-Int.natCast_add,cX,runC,fJ,dY,sy,pW,ie,L.own,d,Fz,Bf,wR,iW,j,f,w,s];simp[-Int.natCast_add,cX,runC,fJ,dY,sy,pW,ie,L.own,d,Fz,Bf,wR,iW,j,f,w,s];rfl
 have z:=Ws u (by lia);unfold vg;rw[afy v]
 by_cases s:Mb u<0
 simp[-Int.natCast_add,cX,runC,fJ,dY,sy,pW,ie,L.own,d,Fz,Bf,wR,iW,m,x,j,f,t,v,z,s];simp[-Int.natCast_add,cX,runC,fJ,dY,sy,pW,ie,L.own,d,Fz,Bf,wR,iW,m,x,j,f,t,v,z,s,mk]
open VagraLine (Line codeOf wellFrom well)
def dw:Nat->List Int->Option (List RL)
 |_,[]=>some []
 |0,_::_=>none
 |f+1,a::r=>match Ai (a::r)with
  |none=>none
  |some p=>(dw f p.2).map (p.1:: ·)
abbrev nU:=VagraLine.Code
inductive WF:RL->Line->Prop
 |AZ (a:Nat):WF (0,[(a:Int)]) (.input a)
 |num (n d:Int) (h:1<=d):WF (1,[n,d]) (.num (Vagraa.frac n d.toNat))
 |add (a b:Nat):WF (2,[(a:Int),(b:Int)]) (.add a b)
 |sub (a b:Nat):WF (3,[(a:Int),(b:Int)]) (.sub a b)
 |mul (a b:Nat):WF (4,[(a:Int),(b:Int)]) (.mul a b)
 |div (a b:Nat):WF (5,[(a:Int),(b:Int)]) (.div a b)
 |neg (a:Nat):WF (6,[(a:Int)]) (.neg a)
inductive Lp:List RL->nU->Prop
 |nil:Lp [] []
 |cons {r:RL} {l:Line} {rs:List RL} {c:nU} (h:WF r l) (t:Lp rs c):Lp (r::rs) (l::c)
theorem Lp.len(h:Lp rs c):rs.length=c.length:=by
 induction h with|nil=>rfl|cons _ _ a=>simp[a]
def DV(h:¬a<0):((a.toNat:Nat):Int)=a:=aho (by lia)
def ES:Option (List RL)->Option nU->Prop|none,none=>True|some a,some c=>Lp a c|_,_=>False
theorem Aj(h:WF r l)(t:ES x y):ES (x.map (r:: ·)) (y.map (l:: ·)):=by cases x<;>cases y;trivial;exact t.elim;exact t.elim;exact .cons h t
def abK(a b):Mb [a,b]<0↔a<0\/b<0:=by show(if b<a then b else a)<0↔_;split<;>lia
def aee(a b s):Ma [a,b]<s↔a<s/\b<s:=by show(if a<b then b else a)<s↔_;split<;>omega
theorem yL(op)(d:Nat->Nat->Line)(k:ff op=2)(m:op≠1)(n:¬(op<0\/6<op))(hw:∀a b:Nat,WF (op,[(a:Int),(b:Int)]) (d a b))(f)(r)(x)(e0:r.length<2->x=none) (g:∀i j s,r=i::j::s->x=if i<0\/j<0 then none else(codeOf f s).map λc=>d i.toNat j.toNat::c)(o:∀l:List Int,l.length<=f->ES (dw f l) (codeOf f l)) (h:r.length<=f):ES (dw (f+1) (op::r)) x:=by
 unfold dw;rw[iU,afy n,k]
 match r,e0,g,h with
 |[],e0,_,_=>rw[e0 (by simp)];trivial
 |[a],e0,_,_=>rw[e0 (by simp)];trivial
 |i::j::s,_,g,h=>
  rw[g i j s rfl,afy (by simp)];unfold vg;rw[afy m];show ES (match(if(decide (Mb [i,j]<0))=true then none else some ((op,[i,j]),s):Option (RL×List Int))with|none=>none|some p=>(dw f p.2).map (p.1:: ·)) _
  by_cases e:i<0\/j<0
  rw[afz e,afz (af7 ((abK i j).mpr e))];trivial;rw[afy e,afy (by rw[agf,abK];exact e)];have w:=hw i.toNat j.toNat;rw[DV (by lia),DV (by lia)]at w;exact Aj w (o s (by simp at h;lia))
theorem Lq(op)(b:Nat->Line)(h:ff op=1)(j:op≠1)(k:¬(op<0\/6<op))(hw:∀a:Nat,WF (op,[(a:Int)]) (b a))(f)(r)(x:Option nU)(e0:r.length<1->x=none) (e:∀i s,r=i::s->x=if i<0 then none else(codeOf f s).map λc=>b i.toNat::c)(m:∀l:List Int,l.length<=f->ES (dw f l) (codeOf f l)) (g:r.length<=f):ES (dw (f+1) (op::r)) x:=by
 unfold dw;rw[iU,afy k,h]
 match r,e0,e,g with
 |[],e0,_,_=>rw[e0 (by simp)];trivial
 |i::s,_,e,g=>
  rw[e i s rfl,afy (by simp)];unfold vg;rw[afy j];show ES (match(if(decide (i<0))=true then none else some ((op,[i]),s):Option (RL×List Int))with|none=>none|some p=>(dw f p.2).map (p.1:: ·)) _
  by_cases d:i<0
  rw[afz d,afz (af7 d)];trivial;rw[afy d,afy (by rw[agf];exact d)];have w:=hw i.toNat;rw[DV (by lia)]at w;exact Aj w (m s (by simp at g;lia))
def TQ(h:r.length<1):r=[]:=by cases r with|nil=>rfl|cons a r=>simp at h
theorem IG(h:r.length<2):r=[]\/∃a,r=[a]:=by
 match r,h with|[],_=>exact .inl rfl|[a],_=>exact .inr ⟨a,rfl⟩|_::_::_,h=>simp at h;lia
theorem DW:∀(f:Nat)(l:List Int),l.length<=f->ES (dw f l) (codeOf f l)
 |0,[],_=>Lp.nil
 |_+1,[],_=>Lp.nil
 |0,_::_,h=>by simp at h
 |f+1,b::r,h=>by
  have k:=DW f;have e:r.length<=f:=by simpa using h
  by_cases g:b<0\/6<b
  have e1:dw (f+1) (b::r)=none:=by unfold dw;rw[iU,afz g]
  have o:codeOf (f+1) (b::r)=none:=by unfold codeOf;split<;>first|rfl|lia
  rw[e1,o];trivial;rcases(by lia:b=0\/b=1\/b=2\/b=3\/b=4\/b=5\/b=6)with rfl|rfl|rfl|rfl|rfl|rfl|rfl;exact Lq 0 .input rfl (by decide) g WF.AZ f r _ (λq=>by rw[TQ q];rfl) (λi s q=>by rw[q];rfl) k e;unfold dw;rw[iU,afy g]
  match r,e with
  |[],_=>trivial
  |[a],_=>trivial
  |n::d::s,e=>
   show ES (match(if(decide (d<1))=true then none else some ((1,[n,d]),s):Option (RL×List Int))with|none=>none|some p=>(dw f p.2).map (p.1:: ·)) (if d<1 then none else(codeOf f s).map λc=>.num (Vagraa.frac n d.toNat)::c)
   by_cases m:d<1
   rw[afz m,afz (af7 m)];trivial;rw[afy m,afy (by rw[agf];exact m)];exact Aj (.num n d (by lia)) (k s (by simp at e;lia))
  exact yL 2 .add rfl (by decide) g WF.add f r _ (λq=>by rcases IG q with q|⟨a,q⟩<;>(rw[q];rfl)) (λi j s q=>by rw[q];rfl) k e;exact yL 3 .sub rfl (by decide) g WF.sub f r _ (λq=>by rcases IG q with q|⟨a,q⟩<;>(rw[q];rfl)) (λi j s q=>by rw[q];rfl) k e;exact yL 4 .mul rfl (by decide) g WF.mul f r _ (λq=>by rcases IG q with q|⟨a,q⟩<;>(rw[q];rfl)) (λi j s q=>by rw[q];rfl) k e;exact yL 5 .div rfl (by decide) g WF.div f r _ (λq=>by rcases IG q with q|⟨a,q⟩<;>(rw[q];rfl)) (λi j s q=>by rw[q];rfl) k e;exact Lq 6 .neg rfl (by decide) g WF.neg f r _ (λq=>by rw[TQ q];rfl) (λi s q=>by rw[q];rfl) k e
def Ak(Y:afp):ak->M Bool:=R8 2 (R9 (zm (zk (Y 9) "ended" (f7 Y) (O 2))))
def Al(Y:afp):afw:=L7 3 (sM 2 0 (cX Y) af)
theorem DX{c:D}{ns:List Int}(i:MZ c (ns.map D.int))(a b x y):∀f k bY,k<=ns.length->ns.length-k<f->bY.length+(ns.length-k)<=16777215->
  c6 (Ak Y) (Al Y) f [a,b,some (sA Y c (k:Int)),some (.ow (bY.map (cj Y))),x,y]=match dw f (ns.drop k)with|none=>raises (Y 1)|some l=>.ok (.nx [a,b,some (sA Y c (ns.length:Int)),some (.ow ((bY++l).map (cj Y))),x,y])
 |0,k,bY,_,h,_=>by omega
 |f+1,k,bY,B,C,E=>by
  have m:=Lo (Y:=Y) i k;rw[afB]at m;have s:Ak Y [a,b,some (sA Y c (k:Int)),some (.ow (bY.map (cj Y))),x,y]=.ok (!decide (ns.length<=k)):=by unfold Ak;simp[bE,dF,m]
  show(Ak Y _>>=λb=>if b then Al Y _>>=wc (c6 (Ak Y) (Al Y) f)else .ok (.nx _))=_;rw[s,bq]
  by_cases q:ns.length<=k
  have:k=ns.length:=by omega
  subst this;rw[aic];simp[dw];have e:∃d r,ns.drop k=d::r:=by
   cases e:ns.drop k with|nil=>have:=agg List.length e;simp at this;omega|cons d r=>exact⟨d,r,rfl⟩
  obtain⟨d,r,e⟩:=e;rw[show(!decide (ns.length<=k))=true by simp;omega,afz rfl];have t:=IF (Y:=Y) i e;have u:dw (f+1) (ns.drop k)=match Ai (d::r)with|none=>none|some p=>(dw f p.2).map (p.1:: ·):=by rw[e];rfl
  rw[u];have v:∀ρ,ρ=[a,b,some (sA Y c (k:Int)),some (.ow (bY.map (cj Y))),x,y]->Al Y ρ=(cX Y (sA Y c (k:Int)) []>>=λr=>.ok (.nx [a,b,some r.2,some (.ow (bY.map (cj Y)++[r.1])),x,y])):=λρ j=>by
   subst j;have w:bY.length<sizeLine:=by rw[show sizeLine=16777216 from rfl];omega
   unfold Al;simp;cases cX Y (L.ce (Y 9) rdX [c,D.int (k:Int)]) []with|error e=>rfl|ok p=>simp[w]
  rw[v _ rfl,t];cases g:Ai (d::r)with
  |none=>rfl
  |some p=>
   have z:r.length>=ff d/\p.2=r.drop (ff d):=by rw[iU]at g;split at g;cases g;split at g;cases g;split at g;cases g;cases g;exact⟨by omega,rfl⟩
   have A:ns.drop (k+1+ff d)=p.2:=by rw[z.2,<-ag8,<-ag8,e];rfl
   have n:ns.length=k+1+r.length:=by have:=agg List.length e;simp at this;omega
   have o:=DX i a b x y f (k+1+ff d) (bY++[p.1]) (by omega) (by omega) (by simp;omega);rw[A]at o;simp only[bq,qj];rw[show bY.map (cj Y)++[cj Y p.1]=(bY++[p.1]).map (cj Y)by simp,o];cases dw f p.2 with|none=>rfl|some l=>simp
theorem A4:∀f l g,l.length<=f->l.length<=g->dw f l=dw g l
 |0,[],0,_,_=>rfl
 |0,[],_+1,_,_=>rfl
 |_+1,[],0,_,_=>rfl
 |_+1,[],_+1,_,_=>rfl
 |0,_::_,_,h,_=>by simp at h
 |_+1,_::_,0,_,h=>by simp at h
 |f+1,b::r,g+1,d,e=>by
  unfold dw;cases a:Ai (b::r)with
  |none=>rfl
  |some p=>
   have c:p.2=r.drop (ff b):=by rw[iU]at a;split at a;cases a;split at a;cases a;split at a;cases a;cases a;rfl
   show(dw f p.2).map _=(dw g p.2).map _;rw[A4 f p.2 g (by rw[c,ag4];simp at d;omega) (by rw[c,ag4];simp at e;omega)]
def Gj(AZ s:Int)(r:RL):Bool:=decide (r.1≠1)&&decide ((if r.1=0 then AZ else s)<=Ma r.2)
theorem Bt(e:0<r.2.length)(s AZ):c9 Y [cj Y r,.int s,.int AZ]=if Gj AZ s r then raises (Y 3)else .ok .cK:=by
 have b:=Wt r.2 e;unfold Gj
 by_cases d:r.1=1
 simp[c9,aA,fF,ai,iW,d]
 by_cases c:r.1=0
 by_cases a:AZ<=Ma r.2
 simp[c9,aA,fF,ai,iW,LK,c,a,b];simp[c9,aA,fF,ai,iW,LK,c,a,b]
 by_cases a:s<=Ma r.2
 simp[c9,aA,fF,ai,iW,LK,d,c,a,b];simp[c9,aA,fF,ai,iW,LK,d,c,a,b]
theorem WF.pos(h:WF r l):0<r.2.length:=by cases h<;>simp
def gq(AZ:Int):Nat->List RL->Bool|_,[]=>false|s,r::a=>Gj AZ (s:Int) r||gq AZ (s+1) a
theorem Qv(AZ)(a b:Option L)(e)(h:Lp rs g):∀s x y,∃c d,eU (b4 [4,5]) (pY (aa (U (O 5) (U (O 4) (U (O 1) af))) (ah 3 (c9 Y)))) (DL.numbered s (rs.map (cj Y))) [a,~~~.int AZ,b,~~~e,x,y]=
  if gq AZ s rs then raises (Y 3)else .ok (.nx [a,~~~.int AZ,b,~~~e,c,d]):=by
 induction h with
 |nil=>exactλs x y=>⟨x,y,rfl⟩
 |@cons r l rs g h t f=>
  intro s x y;obtain⟨c,d,f⟩:=f (s+1) (~~~(.int (s:Int))) (~~~cj Y r);refine⟨c,d,?_⟩;have ne:=Bt (Y:=Y) h.pos (s:Int) AZ;show eU _ _ (.tup [.int (s:Int),cj Y r]::DL.numbered (s+1) (rs.map (cj Y))) _=_;unfold gq
  by_cases q:Gj AZ (s:Int) r=true
  simp[jS,ne,q];rw[ahn]at q;simp[jS,ne,q];exact f
theorem TR(l:ns.length<=1000):qM Y [.lst (ns.map D.int),.int AZ]=match dw (ns.length+1) ns with
  |none=>raises (Y 1)
  |some b=>if 40<b.length then raises (Y 2)else if gq AZ 0 b then raises (Y 3)else .ok (.lst (b.map (cj Y))):=by
 have d:=DX (Y:=Y) (c:=.lst (ns.map D.int)) (ns:=ns) (.inl rfl) (~~~.lst (ns.map D.int)) (~~~.int AZ) none none (ns.length+1) 0 [] (by lia) (by lia) (by simp;lia);rw[List.drop_zero]at d;have a:=DW (ns.length+1) ns (by lia);simp only[qM,aA,AH,ai];simp[JV,Oz,FA];unfold Ak Al at d;simp only[List.map_nil,Int.natCast_zero,Int.cast_ofNat_Int]at d;rw[d];cases h:dw (ns.length+1) ns with
 |none=>rfl
 |some b=>
  rw[h]at a;cases g:codeOf (ns.length+1) ns with
  |none=>rw[g]at a;exact a.elim
  |some i=>
   rw[g]at a;have a:Lp b i:=a;obtain⟨m,n,j⟩:=Qv (Y:=Y) AZ (~~~.lst (ns.map D.int)) (some (sA Y (.lst (ns.map D.int)) (ns.length:Int))) (.lst (b.map (cj Y))) a 0 none none;have k:jQ [D.lst (b.map (cj Y))]=.ok (DL.numbered 0 (b.map (cj Y))):=rfl
   by_cases q:40<b.length
   have e:(40:Int)<(b.length:Int):=by lia
   simp[bE,dF,Bf,q,e];have e:¬(40:Int)<(b.length:Int):=by lia
   simp[bE,dF,Bf,q,e,k];rw[j]
   by_cases f:gq AZ 0 b=true
   simp[f];rw[ahn]at f;simp[f]
theorem Gk{n:Nat}{rs}{c:nU}(h:Lp rs c):∀s,gq (n:Int) s rs=!wellFrom n s c:=by
 induction h with
 |nil=>intro s;rfl
 |@cons r l rs c h t e=>
  intro s;unfold gq wellFrom;rw[e (s+1),aiX];congr 1;cases h with|AZ a=>show(decide (¬((0:Int)=1))&&decide ((n:Int)<=(a:Int)))=_;simp[Line.uses];rw[agJ];simp|num m d h=>simp[Gj,Line.uses]|neg a=>show(decide (¬((6:Int)=1))&&decide ((s:Int)<=(a:Int)))=_;simp[Line.uses];rw[agJ];simp|_ a b=>have m:=aee (a:Int) (b:Int) (s:Int);simp[Gj,Line.uses];rw[agJ];simp;omega
def mP(n:Int)(k:Nat)(os:List Int):Bool:=decide ((os.length:Int)≠n)||os.any λo=>decide (o<0)||decide ((k:Int)<=o)
theorem II{os:List Int}{n}{ls}(d:os.length<=1000):lI Y [.lst (os.map D.int),.int n,.lst ls]=if mP n ls.length os then raises (Y 1)else .ok .cK:=by
 have b:∀ρ,ρ=[~~~.lst (os.map D.int),~~~.int n,~~~.lst ls,none]->br (aI 3) bM (YI (kD (eL Fz (O 3) (aG (.int 0)))) (kD (eL LK (O 3) (aa (U (O 2) af) iw)))) ρ (os.map D.int) []=.ok (os.map λo=>.bl (decide (o<0)||decide ((ls.length:Int)<=o))):=λρ a=>by
  subst a;have:=lP (aI 3) (YI (kD (eL Fz (O 3) (aG (.int 0)))) (kD (eL LK (O 3) (aa (U (O 2) af) iw)))) [~~~.lst (os.map D.int),~~~.int n,~~~.lst ls,none] D.int (λo=>D.bl (decide (o<0)||decide ((ls.length:Int)<=o))) os [] (by simp;lia) λo _=>⟨_,rfl,by
   by_cases h:o<0
   simp[YI,Fz,LK,h];simp[YI,Fz,LK,h]⟩
  simpa using this
 have an:=uE (λo=>decide (o<0)||decide ((ls.length:Int)<=o)) os;unfold mP
 by_cases h:(os.length:Int)=n
 have c:decide ((os.length:Int)≠n)=false:=by simp[h]
 rw[c,ahF];generalize (os.any λo=>decide (o<0)||decide ((ls.length:Int)<=o))=B at an|-;simp only[lI,aA,qN,ai];simp[wR,h];rw[b _ rfl,bq,an];cases B<;>simp;simp[lI,aA,qN,ai,wR,h]
def cU(Y:afp)(n m:Nat)(rs:List RL)(os:List Int):D:=.obj (Y 17) ["unknowns","parameters","lines","outs"] [.int (n:Int),.int (m:Int),.lst (rs.map (cj Y)),.lst (os.map D.int)]
theorem Wu{ns os:List Int}{n m:Nat}(g:ns.length<=1000)(h:os.length<=1000):g9 Y [.int (n:Int),.int (m:Int),.lst (ns.map D.int),.lst (os.map D.int)]=match dw (ns.length+1) ns with
  |none=>raises (Y 1)
  |some a=>if 40<a.length then raises (Y 2)else if gq ((n+m:Nat):Int) 0 a then raises (Y 3)else if mP (n:Int) a.length os then raises (Y 1)else .ok (cU Y n m a os):=by
 have f:=TR (Y:=Y) (AZ:=((n+m:Nat):Int)) g;rw[ais]at f;simp only[g9,aA,CV,ai];simp[f];cases i:dw (ns.length+1) ns with
 |none=>rfl
 |some a=>
  have d:=II (Y:=Y) (n:=(n:Int)) (ls:=a.map (cj Y)) h;rw[afB]at d
  by_cases b:40<a.length
  simp[b]
  by_cases c:gq ((n:Int)+(m:Int)) 0 a=true
  simp[b,c];rw[ahn]at c
  by_cases e:mP (n:Int) a.length os=true
  simp[b,c,e,d];rw[ahn]at e;simp[b,c,e,d,cU]
@[simp]theorem Lr (n m:Nat) (rs:List RL) (os):fX (Y 17) "unknowns" (cU Y n m rs os)=.ok (.int (n:Int)):=bW rfl
@[simp]theorem Um (n m:Nat) (rs:List RL) (os):fX (Y 17) "parameters" (cU Y n m rs os)=.ok (.int (m:Int)):=bW rfl
@[simp]theorem TU (n m:Nat) (rs:List RL) (os):fX (Y 17) "lines" (cU Y n m rs os)=.ok (.lst (rs.map (cj Y))):=bW rfl
@[simp]theorem acG (n m:Nat) (rs:List RL) (os):fX (Y 17) "outs" (cU Y n m rs os)=.ok (.lst (os.map D.int)):=bW rfl
theorem Qw{n}{a}{os:List Int}:Vagram.outsOf a n os=if mP (n:Int) a.length os then .error (-2)else .ok (os.map Int.toNat):=by
 unfold Vagram.outsOf mP
 by_cases h:os.length=n
 have b:decide ((os.length:Int)≠(n:Int))=false:=by simp;lia
 rw[b,ahF];have e:(os.all λi=>decide (0<=i)&&decide (i<(a.length:Int)))=!(os.any λo=>decide (o<0)||decide ((a.length:Int)<=o)):=by rw[List.not_any_eq_all_not];congr 1;funext o;rw[agJ];simp
 rw[e];cases (os.any λo=>decide (o<0)||decide ((a.length:Int)<=o))<;>simp[h];have b:decide ((os.length:Int)≠(n:Int))=true:=by simp;lia
 rw[b,Bool.true_or,afz rfl,afy (λq=>h q.2)]
open VagraLine (Line codeOf wellFrom well runFrom at_)
open Ex (fr)
noncomputable def cz(vs:List Rat)(i:Nat):Rat:=vs.getD i 0
theorem d8{vs:List Rat}{i}(h:i<vs.length):l6 (vs.map eF) (i:Int)=.ok (eF (cz vs i)):=sf _ i (by unfold cz;rw[afF,afE h,afC,afE h];rfl)
def mh(vs:List Rat)(i):at_ (vs.map fr) i=fr (cz vs i):=by unfold at_ cz;rw[afC,afC,afF];cases vs[i]?<;>rfl
theorem OA(h:Vagraa.bits n<=b):n<2^b:=by
 unfold Vagraa.bits at h
 by_cases q:n=0
 subst q;exact agI b;rw[afy q]at h;exact afQ Nat.lt_log2_self (agS (by decide) h)
theorem Gm(h:Vagraa.weight (fr q)<=b):sz (lw q) b:=by have h:Vagraa.bits q.num.natAbs+Vagraa.bits q.den<=b:=h;exact⟨OA (by show Vagraa.bits q.num.natAbs<=b;lia),by show Int.natAbs (q.den:Int)<_;exact OA (by rw[aiN];lia),bR q⟩
theorem IJ(h:1<=d):Vagraa.frac n d.toNat=fr (vl (n,d)):=by
 rw[Ex.BJ _ (by lia)];congr 1;rw[ahm];show(n:Rat)/((d.toNat:Nat):Rat)=(n:Rat)/(d:Rat);have:(((d.toNat:Nat):Int):Rat)=(d:Rat):=by rw[aho (by lia)]
 rw[<-this];rfl
def IK:(lw q).1=0↔q=0:=by show q.num=0↔q=0;exact aiq
def vQ(a vs:Nat)(l:Line):Prop:=(l.uses.all (λi=>decide (i<vs))&&(match l with
  | .input k=>decide (k<a)
  |_=>true))=true
def Am(a:l.uses=[i,j])(h:vQ n k l):i<k/\j<k:=by unfold vQ at h;rw[a]at h;simp at h;exact h.1
def Zz(a:l.uses=[i])(h:vQ n k l):i<k:=by unfold vQ at h;rw[a]at h;simp at h;exact h.1
def bH(h:∀q∈vs,sz (lw q) b)(a:i<vs.length):sz (lw (cz vs i)) b:=h _ (by unfold cz;rw[afC,afE a];exact agF a)
theorem TV{r}{l}(h:WF r l){e vs:List Rat}{b}(x:∀q∈e,sz (lw q) b)(m:∀q∈vs,sz (lw q) b)(t:b+b<=134217728)(o:vQ e.length vs.length l): (l.value (e.map fr) (vs.map fr)=none/\dO Y [cj Y r,.lst (e.map eF),.lst (vs.map eF)]=raises (Y 5))\/
  ∃p,l.value (e.map fr) (vs.map fr)=some (fr (vl p))/\p.2≠0/\dO Y [cj Y r,.lst (e.map eF),.lst (vs.map eF)]=.ok (eQ p):=by
 cases h with
 |AZ a=>
  have f:a<e.length:=by unfold vQ at o;simpa[Line.uses]using o
  refine .inr ⟨lw (cz e a),?_,bR _,?_⟩;rw[cR,<-mh];rfl;simp[dO,aA,fK,ai,iW,d8 f];rfl
 |num n d w=>refine .inr ⟨(n,d),?_,by show d≠0;lia,?_⟩;rw[<-IJ w];rfl;simp! [dO,aA,fK,ai,iW];rfl
 |neg a=>have f:=Zz (i:=a) rfl o;have k:fS Y [eF (cz vs a)]=_:=oR (Y:=Y) (lw (cz vs a));refine .inr ⟨je (lw (cz vs a)),?_,bR _,?_⟩;rw[oU,cR,<-Ex.zW,<-mh];rfl;simp! [dO,aA,fK,ai,iW,d8 f,k]
 |add a c=>obtain⟨f,g⟩:=Am (i:=a) (j:=c) rfl o;have k:pC Y [eF (cz vs a),eF (cz vs c)]=_:=yC (Y:=Y) (bH m f) (bH m g) t;refine .inr ⟨fW (lw (cz vs a)) (lw (cz vs c)),?_,afW (bR _) (bR _),?_⟩;rw[lB (bR _) (bR _),cR,cR,<-Ex.Dk,<-mh,<-mh];rfl;simp! [dO,aA,fK,ai,iW,d8 f,d8 g,k]
 |sub a c=>obtain⟨f,g⟩:=Am (i:=a) (j:=c) rfl o;have k:gI Y [eF (cz vs a),eF (cz vs c)]=_:=uA (Y:=Y) (bH m f) (bH m g) t;refine .inr ⟨fW (lw (cz vs a)) (je (lw (cz vs c))),?_,afW (bR _) (bR _),?_⟩;rw[lB (p:=lw (cz vs a)) (q:=je (lw (cz vs c))) (bR _) (bR _),oU,cR,cR,<-ahb,<-Ex.zX,<-mh,<-mh];rfl;simp! [dO,aA,fK,ai,iW,d8 f,d8 g,k]
 |mul a c=>obtain⟨f,g⟩:=Am (i:=a) (j:=c) rfl o;have k:jn Y [eF (cz vs a),eF (cz vs c)]=_:=uB (Y:=Y) (bH m f) (bH m g) t;refine .inr ⟨dj (lw (cz vs a)) (lw (cz vs c)),?_,afW (bR _) (bR _),?_⟩;rw[nR,cR,cR,<-Ex.uv,<-mh,<-mh];rfl;simp! [dO,aA,fK,ai,iW,d8 f,d8 g,k]
 |div a c=>
  obtain⟨f,g⟩:=Am (i:=a) (j:=c) rfl o;have k:wB Y [eF (cz vs a),eF (cz vs c)]=_:=Ob (Y:=Y) (bH m f) (bH m g) t;have e0:VagraLine.Line.value (e.map fr) (vs.map fr) (.div a c)=if Vagraa.isZero (at_ (vs.map fr) c)=true then none else some (Vagraa.div (at_ (vs.map fr) a) (at_ (vs.map fr) c)):=rfl
  rw[mh,mh,Ex.qh,Ex.Ib]at e0
  by_cases u:(cz vs c)=0
  refine .inl ⟨by rw[e0,u];rfl,?_⟩;have v:ay (eF (cz vs c)) (.int 0)=.ok (.int 0):=by rw[u];rfl
  simp! [dO,aA,fK,ai,iW,d8 f,d8 g,v];have s:(lw (cz vs c)).1≠0:=λq=>u (IK.mp q)
  refine .inr ⟨Dv (lw (cz vs a)) (lw (cz vs c)),?_,afW (bR _) s,?_⟩;rw[e0,afy (by simpa using u),Oc,cR,cR];have v:ay (eF (cz vs c)) (.int 0)=.ok (.int (lw (cz vs c)).1):=rfl;simp! [dO,aA,fK,ai,iW,d8 f,d8 g,v,s,k]
def yM(Y:afp):afw:=(aq (aU 4 (Bg 2 (aa (U (aa (U (O 3) (U (O 1) (U (O 2) af))) (ah 3 (dO Y))) af) (ah 1 (gY Y)))))
  (aq (dH (eL Bf (aa (U (O 4) af) (ah 1 (p8 Y))) (aG (.int 200))) (dI (Y 5)) bV)
  (sL 2 (O 4))))
def IL(q):AD (eF q)=.ok (eF q):=rfl
theorem Ls{b:List Rat}(w:∀q∈b,sz (lw q) 200)(a:Option L){rs:List RL}{c:nU}(h:Lp rs c):∀(vs:List Rat)x y,wellFrom b.length vs.length c=true->(∀q∈vs,sz (lw q) 200)->vs.length+rs.length<=1000->(∃e,runFrom (some 200) (b.map fr) (vs.map fr) c=.error e/\eU (aI 3) (yM Y) (rs.map (cj Y)) [a,~~~.lst (b.map eF),some (.ow (vs.map eF)),x,y]=raises (Y 5))\/
  ∃(f:List Rat)(j k:Option L),runFrom (some 200) (b.map fr) (vs.map fr) c=.ok (f.map fr)/\(∀q∈f,sz (lw q) 200)/\f.length=vs.length+rs.length/\
   eU (aI 3) (yM Y) (rs.map (cj Y)) [a,~~~.lst (b.map eF),some (.ow (vs.map eF)),x,y]=.ok (.nx [a,~~~.lst (b.map eF),some (.ow (f.map eF)),j,k]):=by
 induction h with
 |nil=>exactλvs x y _ g _=>.inr ⟨vs,x,y,rfl,g,by simp,rfl⟩
 |@cons r l rs c h t A=>
  intro vs x y hw g B;have C:vs.length+(rs.length+1)<=1000:=B;have d:vs.length<sizeLine:=by rw[show sizeLine=16777216 from rfl];omega
  unfold wellFrom at hw;rw[afL]at hw;have E:runFrom (some 200) (b.map fr) (vs.map fr) (l::c)=match l.value (b.map fr) (vs.map fr)with
   |none=>.error ⟨(vs.map fr).length,1⟩
   |some a=>if decide (200<Vagraa.weight a)=true then .error ⟨(vs.map fr).length,2⟩else runFrom (some 200) (b.map fr) (vs.map fr++[a]) c:=rfl
  rw[E];rcases TV (Y:=Y) h w g (by decide) hw.1 with⟨e1,i⟩|⟨p,e1,F,i⟩;refine .inl ⟨⟨(vs.map fr).length,1⟩,by rw[e1],?_⟩;rw[afR];simp[yM,bE,dF,i];rw[e1];have lo:=ql (Y:=Y) p F;have v:=Ac (Y:=Y) (vl p)
  by_cases q:200<Vagraa.weight (fr (vl p))
  refine .inl ⟨⟨(vs.map fr).length,2⟩,by show(if _ then _ else _)=_;rw[afz (af7 q)],?_⟩;have m:(200:Int)<((Vagraa.weight (fr (vl p)):Nat):Int):=by omega
  rw[afR];simp[yM,bE,dF,i,lo,IL,v,Bf,q,m];have m:¬(200:Int)<((Vagraa.weight (fr (vl p)):Nat):Int):=by omega
  have G:¬decide (200<Vagraa.weight (fr (vl p)))=true:=by simpa using q
  have n:∀q∈vs++[vl p],sz (lw q) 200:=λz d=>by rcases agt.mp d with d|d;exact g z d;rw[agy.mp d];exact Gm (by omega)
  have st:eU (aI 3) (yM Y) ((r::rs).map (cj Y)) [a,~~~.lst (b.map eF),some (.ow (vs.map eF)),x,y]=eU (aI 3) (yM Y) (rs.map (cj Y)) [a,~~~.lst (b.map eF),some (.ow ((vs++[vl p]).map eF)),~~~cj Y r,~~~eF (vl p)]:=by
   rw[afR,agz,List.map_singleton];simp only[oQ,qk,uz,bq,List.set_cons_succ,List.set_cons_zero];rw[show yM Y [a,~~~.lst (b.map eF),some (.ow (vs.map eF)),~~~cj Y r,y]=.ok (.nx [a,~~~.lst (b.map eF),some (.ow (vs.map eF++[eF (vl p)])),~~~cj Y r,~~~eF (vl p)])by unfold yM;simp[bE,dF,i,lo,IL,v,Bf,q,m,d]]
   rfl
  rw[st];have o:=A (vs++[vl p]) (~~~cj Y r) (~~~eF (vl p)) (by rw[afM];exact hw.2) n (by rw[afM,agr];omega);rw[show(match some (fr (vl p))with|none=>(.error ⟨(vs.map fr).length,1⟩:Except VagraLine.Fault (List Vagraa.Frac))|some a=>if decide (200<Vagraa.weight a)=true then .error ⟨(vs.map fr).length,2⟩else runFrom (some 200) (b.map fr) (vs.map fr++[a]) c)=runFrom (some 200) (b.map fr) ((vs++[vl p]).map fr) c by show(if _ then _ else _)=_;rw[afy G,agz];rfl]
  rcases o with⟨e,s,u⟩|⟨f,j,k,s,u,H,I⟩;exact .inl ⟨e,s,u⟩;exact .inr ⟨f,j,k,s,u,by rw[H,afM,agr,af5];omega,I⟩
theorem Qx{a:List Rat}(i:∀q∈a,sz (lw q) 200){rs:List RL}{c}(h:Lp rs c)(hw:well a.length c=true)(m:rs.length<=1000): (∃e,VagraLine.run (some 200) (a.map fr) c=.error e/\gz Y [.lst (rs.map (cj Y)),.lst (a.map eF)]=raises (Y 5))\/
  ∃b:List Rat,VagraLine.run (some 200) (a.map fr) c=.ok (b.map fr)/\(∀q∈b,sz (lw q) 200)/\b.length=rs.length/\gz Y [.lst (rs.map (cj Y)),.lst (a.map eF)]=.ok (.lst (b.map eF)):=by
 have g:=Ls (Y:=Y) i (~~~.lst (rs.map (cj Y))) h [] none none hw (λq j=>absurd j agN) (by simp;omega);unfold yM at g;rcases g with⟨e,d,f⟩|⟨b,n,o,d,f,k,l⟩;refine .inl ⟨e,d,?_⟩;simp only[gz,aA,qO,ai];simp[show sizeLine=16777216 from rfl];rw[show([]:List D)=List.map eF []from rfl,f];rfl;refine .inr ⟨b,d,f,by simpa using k,?_⟩;simp only[gz,aA,qO,ai];simp[show sizeLine=16777216 from rfl];rw[show([]:List D)=List.map eF []from rfl,l];simp[bE,dF]
def ZA(dir vs ds:List Rat)(v:Rat):Line->Rat| .input k=>cz dir k| .num _=>0| .add i j=>cz ds i+cz ds j| .sub i j=>cz ds i-cz ds j| .mul i j=>cz ds i*cz vs j+cz vs i*cz ds j| .div i j=>(cz ds i-v*cz ds j)/cz vs j| .neg i=>-cz ds i
theorem Lu(dir vs ds)(v)(l):Vagrae.Line.change (dir.map fr) (vs.map fr) (ds.map fr) (fr v) l=fr (ZA dir vs ds v l):=by cases l<;>simp only[Vagrae.Line.change,ZA,mh,Ex.Dk,Ex.zX,Ex.uv,Ex.Ib,Ex.zW,Ex.N2]
theorem ZC(h:WF r l)(A:b<=100000)(f:∀q∈ds,sz (lw q) b)(s:∀q∈vs,sz (lw q) 200)(u:sz (lw v) 200)(m:vQ dir.length ds.length l)(B:ds.length<=vs.length)(hz:∀i j,l=.div i j->cz vs j≠0):
  ∃p,vl p=ZA dir vs ds v l/\p.2≠0/\dZ Y [cj Y r,eF v,.lst (dir.map eF),.lst (vs.map eF),.lst (ds.map eF)]=.ok (eQ p):=by
 cases h with
 |AZ a=>
  have e:a<dir.length:=by unfold vQ at m;simpa[Line.uses]using m
  refine⟨lw (cz dir a),cR _,bR _,?_⟩;simp[dZ,aA,fL,ai,iW,d8 e];rfl
 |num n d f=>refine⟨(0,1),Iu,by decide,?_⟩;simp[dZ,aA,fL,ai,iW];rfl
 |neg a=>have e:=Zz (i:=a) rfl m;have op:fS Y [eF (cz ds a)]=_:=oR (Y:=Y) (lw (cz ds a));refine⟨je (lw (cz ds a)),by rw[oU,cR];rfl,bR _,?_⟩;simp[dZ,aA,fL,ai,iW,d8 e,op]
 |add a c=>obtain⟨e,g⟩:=Am (i:=a) (j:=c) rfl m;have op:pC Y [eF (cz ds a),eF (cz ds c)]=_:=yC (Y:=Y) (bH f e) (bH f g) (by lia);refine⟨fW (lw (cz ds a)) (lw (cz ds c)),by rw[lB (bR _) (bR _),cR,cR];rfl,afW (bR _) (bR _),?_⟩;simp[dZ,aA,fL,ai,iW,d8 e,d8 g,op]
 |sub a c=>obtain⟨e,g⟩:=Am (i:=a) (j:=c) rfl m;have op:gI Y [eF (cz ds a),eF (cz ds c)]=_:=uA (Y:=Y) (bH f e) (bH f g) (by lia);refine⟨fW (lw (cz ds a)) (je (lw (cz ds c))),by rw[lB (p:=lw (cz ds a)) (q:=je (lw (cz ds c))) (bR _) (bR _),oU,cR,cR,<-ahb];rfl,afW (bR _) (bR _),?_⟩;simp[dZ,aA,fL,ai,iW,d8 e,d8 g,op]
 |mul a c=>
  obtain⟨e,g⟩:=Am (i:=a) (j:=c) rfl m;have o:a<vs.length:=by lia
  have k:c<vs.length:=by lia
  have w:jn Y [eF (cz ds a),eF (cz vs c)]=_:=uB (Y:=Y) (bH f e) (bH s k) (by lia);have x:jn Y [eF (cz vs a),eF (cz ds c)]=_:=uB (Y:=Y) (bH s o) (bH f g) (by lia);have op:=yC (Y:=Y) ((bH f e).dj (bH s k)) ((bH s o).dj (bH f g)) (by lia);have t:(dj (lw (cz ds a)) (lw (cz vs c))).2≠0:=afW (bR _) (bR _);have z:(dj (lw (cz vs a)) (lw (cz ds c))).2≠0:=afW (bR _) (bR _);refine⟨_,?_,?_,by simp[dZ,aA,fL,ai,iW,d8 e,d8 g,d8 o,d8 k,w,x,op];rfl⟩
  rw[lB t z,nR,nR,cR,cR,cR,cR];rfl;exact afW t z
 |div a c=>
  obtain⟨e,g⟩:=Am (i:=a) (j:=c) rfl m;have k:c<vs.length:=by lia
  have nz:=hz a c rfl;have y:(lw (cz vs c)).1≠0:=λq=>nz (IK.mp q)
  have w:jn Y [eF v,eF (cz ds c)]=_:=uB (Y:=Y) u (bH f g) (by lia);have x:gI Y [eF (cz ds a),eQ (dj (lw v) (lw (cz ds c)))]=_:=uA (Y:=Y) (bH f e) (u.dj (bH f g)) (by lia);have op:wB Y [_,eF (cz vs c)]=_:=Ob (Y:=Y) ((bH f e).fW (u.dj (bH f g)).je) (bH s k) (by lia);have t:(je (dj (lw v) (lw (cz ds c)))).2≠0:=afW (bR _) (bR _);refine⟨_,?_,?_,by simp! [dZ,aA,fL,ai,iW,d8 e,d8 g,d8 k,w,x,op];rfl⟩
  rw[Oc,lB (bR _) t,oU,nR,cR,cR,cR,cR,<-ahb];rfl;exact afW (afW (bR _) t) y
theorem DY(q):((lw q).1:Rat)=q*((lw q).2:Rat):=by have h:=cR q;have z:((lw q).2:Rat)≠0:=gp (bR q);unfold vl at h;generalize ((lw q).2:Rat)=d at*;generalize ((lw q).1:Rat)=n at*;grind
theorem Lv{c}{z m:Int}(d:m≠0)(h:(z:Rat)=(m:Rat)*c):∃e,e≠0/\m=e*(lw c).2/\z=e*(lw c).1:=by
 have f:=DY c;have e1:z*(lw c).2=m*(lw c).1:=by
  have:((z*(lw c).2:Int):Rat)=((m*(lw c).1:Int):Rat):=by rw[af0,af0,h,f];grind
  exact_mod_cast this
 have a:Nat.Coprime (lw c).2.natAbs (lw c).1.natAbs:=by show Nat.Coprime (Int.natAbs (c.den:Int)) c.num.natAbs;rw[aiN];exact c.reduced.symm
 have g:(lw c).2∣m:=by have:(lw c).2∣(lw c).1*m:=⟨z,by rw[aiv,<-e1,aiv]⟩;have t:=aiw.mpr this;rw[aiA]at t;exact aiw.mp (a.dvd_of_dvd_mul_left t)
 obtain⟨e,b⟩:=g;refine⟨e,λq=>d (by rw[b,q,Int.mul_zero]),by rw[b,aiv],?_⟩;have:(lw c).2*z=(lw c).2*(e*(lw c).1):=by rw[aiv,e1,b,Int.mul_assoc]
 exact Int.eq_of_mul_eq_mul_left (bR c) this
theorem vh(he:e≠0)(h:bz (e*x) b):bz x b:=by
 unfold bz at*;rw[aiA]at h;have:x.natAbs<=e.natAbs*x.natAbs:=Nat.le_mul_of_pos_left _ (by lia)
 lia
structure CI(m:Int)(k:Nat)(ds:List Rat):Prop where
 z:m≠0
 b:bz m (401*k+1)
 c:∀c∈ds,∃z:Int,(z:Rat)=(m:Rat)*c/\bz z (401*k+1)
theorem CI.sz{m:Int}{k}{ds}(h:CI m k ds):∀q∈ds,sz (lw q) (401*k+1):=λq d=>by obtain⟨z,f,a⟩:=h.c q d;obtain⟨e,e0,e1,g⟩:=Lv h.z f;have b:=h.b;rw[e1]at b;rw[g]at a;exact⟨vh e0 a,vh e0 b,bR q⟩
theorem CI.step{m}{k}{ds}(h:CI m k ds){n}(f:n≠0)(d:bz n 400){c}{z:Int}(hz:(z:Rat)=((m*n:Int):Rat)*c)(hs:bz z (401*k+1+401)):CI (m*n) (k+1) (ds++[c]):=by
 have e:401*(k+1)+1=401*k+1+401:=by lia
 refine⟨afW h.z f,by rw[e];exact(h.b.mul d).mono (by lia),λq a=>?_⟩;rw[e];rcases agt.mp a with a|a;obtain⟨y,g,i⟩:=h.c q a;refine⟨y*n,?_,(i.mul d).mono (by lia)⟩;rw[af0,af0,g];grind;rw[agy.mp a];exact⟨z,hz,hs⟩
def getD_mem(a:i<vs.length):cz vs i∈vs:=by unfold cz;rw[afC,afE a];exact agF a
theorem CI.line{m}{k}{ds}(h:CI m k ds){r:RL}{l}(hw:WF r l){dir vs}{v:Rat}(G:∀q∈dir,q=0\/q=1)(B:∀q∈vs,Fx.sz (lw q) 200)(C:Fx.sz (lw v) 200)(o:vQ dir.length ds.length l)(N:ds.length<=vs.length)(hz:∀i j,l=.div i j->cz vs j≠0):∃H,CI H (k+1) (ds++[ZA dir vs ds v l]):=by
 have u:bz 1 400:=by show Int.natAbs 1<_;exact afQ (by decide:1<2^1) (agS (by decide) (by decide))
 have m1:((m*1:Int):Rat)=(m:Rat):=by rw[ah5]
 cases hw with
 |AZ a=>
  have e:a<dir.length:=by unfold vQ at o;simpa[Line.uses]using o
  rcases G _ (getD_mem e)with q|q;exact⟨_,h.step (by decide) u (z:=0) (by rw[m1];show((0:Int):Rat)=_*cz dir a;rw[q];simp) (by show 0<_;exact agI _)⟩;exact⟨_,h.step (by decide) u (z:=m) (by rw[m1];show _=_*cz dir a;rw[q,Rat.mul_one]) (h.b.mono (by lia))⟩
 |num n d G=>exact⟨_,h.step (by decide) u (z:=0) (by rw[m1];show((0:Int):Rat)=_*0;simp) (by show 0<_;exact agI _)⟩
 |neg a=>have e:=Zz (i:=a) rfl o;obtain⟨z,f,g⟩:=h.c _ (getD_mem e);exact⟨_,h.step (by decide) u (z:=-z) (by rw[m1,ahN,f];show _=_*-cz ds a;grind) (g.neg.mono (by lia))⟩
 |add a c=>obtain⟨e,p⟩:=Am (i:=a) (j:=c) rfl o;obtain⟨z,f,g⟩:=h.c _ (getD_mem e);obtain⟨y,s,t⟩:=h.c _ (getD_mem p);exact⟨_,h.step (by decide) u (z:=z+y) (by rw[m1,aip,f,s];show _=_*(cz ds a+cz ds c);grind) ((g.add t).mono (by lia))⟩
 |sub a c=>obtain⟨e,p⟩:=Am (i:=a) (j:=c) rfl o;obtain⟨z,f,g⟩:=h.c _ (getD_mem e);obtain⟨y,s,t⟩:=h.c _ (getD_mem p);exact⟨_,h.step (by decide) u (z:=z-y) (by rw[m1,ahd,f,s];show _=_*(cz ds a-cz ds c);grind) ((g.sub t).mono (by lia))⟩
 |mul a c=>obtain⟨e,p⟩:=Am (i:=a) (j:=c) rfl o;obtain⟨z,f,g⟩:=h.c _ (getD_mem e);obtain⟨y,s,t⟩:=h.c _ (getD_mem p);have E:=bH B (show a<vs.length by lia);have A:=bH B (show c<vs.length by lia);have I:=DY (cz vs a);have F:=DY (cz vs c);refine⟨_,h.step (n:=(lw (cz vs a)).2*(lw (cz vs c)).2) (afW (bR _) (bR _)) (E.d.mul A.d) (z:=z*((lw (cz vs a)).2*(lw (cz vs c)).1)+y*((lw (cz vs a)).1*(lw (cz vs c)).2)) ?_ (((g.mul (E.d.mul A.n)).add (t.mul (E.n.mul A.d))).mono (by lia))⟩;show _=_*(cz ds a*cz vs c+cz vs a*cz ds c);simp only[Rat.intCast_add,Rat.intCast_mul,f,s,I,F];grind
 |div a c=>obtain⟨e,p⟩:=Am (i:=a) (j:=c) rfl o;have nz:=hz a c rfl;obtain⟨z,f,g⟩:=h.c _ (getD_mem e);obtain⟨y,s,t⟩:=h.c _ (getD_mem p);have A:=bH B (show c<vs.length by lia);have ev:=DY v;have F:=DY (cz vs c);refine⟨_,h.step (n:=(lw v).2*(lw (cz vs c)).1) (afW (bR _) λq=>nz (IK.mp q)) (C.d.mul A.n) (z:=(z*(lw v).2-y*(lw v).1)*(lw (cz vs c)).2) ?_ ((((g.mul C.d).sub (t.mul C.n)).mul A.d).mono (by lia))⟩;show _=_*((cz ds a-v*cz ds c)/cz vs c);simp only[Rat.intCast_sub,Rat.intCast_mul,f,s,ev,F];generalize cz vs c=w at*;generalize ((lw w).2:Rat)=P at*;generalize ((lw v).2:Rat)=Q at*;generalize cz ds a=x at*;generalize cz ds c=R at*;generalize (m:Rat)=M at*;grind
def Lw(Y:afp):afw:=(sL 3 (Bg 3 (aa (U (aa (U (O 4) (U (O 5) (U (O 2) (U (O 1) (U (O 3) af))))) (ah 5 (dZ Y))) af) (ah 1 (gY Y)))))
theorem IM{dir vs:List Rat}(C:∀q∈dir,q=0\/q=1)(g:∀q∈vs,sz (lw q) 200)(z:vs.length<=100)(a:Option L){rs:List RL}{f:nU}(h:Lp rs f):∀ds(m:Int)x y,ds.length+rs.length=vs.length->CI m ds.length ds->wellFrom dir.length ds.length f=true->(∀l∈f,∀i j,l=.div i j->cz vs j≠0)->
  ∃(d:List Rat)(k:Int)(n o:Option L),Vagrae.changesFrom (dir.map fr) (vs.map fr) (ds.map fr) f=d.map fr/\d.length=vs.length/\CI k d.length d/\
   eU (b4 [4,5]) (Lw Y) (ja (rs.map (cj Y)) ((vs.drop ds.length).map eF)) [a,~~~.lst (vs.map eF),~~~.lst (dir.map eF),some (.ow (ds.map eF)),x,y]=.ok (.nx [a,~~~.lst (vs.map eF),~~~.lst (dir.map eF),some (.ow (d.map eF)),n,o]):=by
 induction h with
 |nil=>exactλds m x y e c _ _=>⟨ds,m,x,y,rfl,by simpa using e,c,rfl⟩
 |@cons r l rs f h t E=>
  intro ds m x y e c hw s;have T:ds.length+(rs.length+1)=vs.length:=e;have u:ds.length<vs.length:=by omega
  have w:ds.length<sizeLine:=by rw[show sizeLine=16777216 from rfl];omega
  unfold wellFrom at hw;rw[afL]at hw;have A:sz (lw (cz vs ds.length)) 200:=bH g u;obtain⟨p,F,G,H⟩:=ZC (Y:=Y) h (dir:=dir) (v:=cz vs ds.length) (show 401*ds.length+1<=100000 by omega) c.sz g A hw.1 (by omega) (s l afH);obtain⟨k,I⟩:=c.line h C g A hw.1 (by omega) (s l afH);have lo:=ql (Y:=Y) p G;rw[F]at lo;have N:vs.drop ds.length=cz vs ds.length::vs.drop (ds.length+1):=by rw[ahj u];unfold cz;rw[afC,afE u];rfl
  have b:(ds++[ZA dir vs ds (cz vs ds.length) l]).length=ds.length+1:=by simp
  obtain⟨d,P,n,o,Q,R,S,B⟩:=E (ds++[ZA dir vs ds (cz vs ds.length) l]) k (~~~cj Y r) (~~~eF (cz vs ds.length)) (by rw[b];omega) (by rw[b];exact I) (by rw[b];exact hw.2) (λl z=>s l (afA _ z));refine⟨d,P,n,o,?_,R,S,?_⟩;rw[<-Q];show Vagrae.changesFrom (dir.map fr) (vs.map fr) (ds.map fr++[Vagrae.Line.change (dir.map fr) (vs.map fr) (ds.map fr) (at_ (vs.map fr) (ds.map fr).length) l]) f=_;rw[afB,mh,Lu,agz];rfl;rw[b]at B;rw[<-B,N,afR,afR];show eU (b4 [4,5]) (Lw Y) (.tup [cj Y r,eF (cz vs ds.length)]::ja (rs.map (cj Y)) ((vs.drop (ds.length+1)).map eF)) _=_;rw[oQ];have st:Lw Y [a,~~~.lst (vs.map eF),~~~.lst (dir.map eF),some (.ow (ds.map eF)),~~~cj Y r,~~~eF (cz vs ds.length)]=.ok (.nx [a,~~~.lst (vs.map eF),~~~.lst (dir.map eF),some (.ow ((ds++[ZA dir vs ds (cz vs ds.length) l]).map eF)),~~~cj Y r,~~~eF (cz vs ds.length)]):=by unfold Lw;simp[bE,dF,H,lo,IL,w]
  show(WU (some [a,~~~.lst (vs.map eF),~~~.lst (dir.map eF),some (.ow (ds.map eF)),~~~cj Y r,~~~eF (cz vs ds.length)])>>=_)=_;rw[uz,bq,st];rfl
theorem M0{dir vs:List Rat}(f:∀q∈dir,q=0\/q=1)(g:∀q∈vs,sz (lw q) 200)(t:vs.length<=40){rs:List RL}{b:nU}(h:Lp rs b)(e:rs.length=vs.length)(hw:well dir.length b=true)(hz:∀l∈b,∀i j,l=.div i j->cz vs j≠0):
  ∃a:List Rat,Vagrae.changes (dir.map fr) (vs.map fr) b=a.map fr/\a.length=vs.length/\(∀q∈a,sz (lw q) 16041)/\jX Y [.lst (rs.map (cj Y)),.lst (vs.map eF),.lst (dir.map eF)]=.ok (.lst (a.map eF)):=by
 have k:CI 1 0 []:=⟨by decide,by show Int.natAbs 1<_;decide,λc m=>absurd m agN⟩;obtain⟨a,u,v,w,n,o,p,d⟩:=IM (Y:=Y) f g (by lia) (~~~.lst (rs.map (cj Y))) h [] 1 none none (by simpa using e) k hw hz;refine⟨a,n,o,λq r=>(p.sz q r).mono (by lia),?_⟩;unfold Lw at d;have s:v5 [.lst (rs.map (cj Y)),.lst (vs.map eF)]=.ok (ja (rs.map (cj Y)) (vs.map eF)):=rfl;simp only[List.length_nil,List.drop_zero]at d;simp only[jX,aA,vz,ai];simp[show sizeLine=16777216 from rfl,s];rw[show([]:List D)=List.map eF []from rfl,d];simp[bE,dF]
theorem OB(g)(c)(n):∀e vs d,wellFrom n vs.length e=true->runFrom (some g) c vs e=.ok d->(∃t,d=vs++t)/\∀l∈e,∀i j,l=.div i j->Vagraa.isZero (at_ d j)=false
 |[],vs,d,_,h=>by cases h;exact⟨⟨[],by simp⟩,λl m=>absurd m agN⟩
 |l::e,vs,d,hw,h=>by
  unfold wellFrom at hw;rw[afL]at hw;unfold runFrom at h;cases f:l.value c vs with
  |none=>rw[f]at h;cases h
  |some a=>
   rw[f]at h;dsimp only at h;split at h;cases h;obtain⟨⟨t,k⟩,o⟩:=OB g c n e (vs++[a]) d (by rw[afM];exact hw.2) h;refine⟨⟨a::t,by rw[k];simp⟩,λp b i j q=>?_⟩;rcases afU.mp b with b|b;subst b;subst q;have r:=Am (n:=n) (i:=i) (j:=j) rfl hw.1;have e0:at_ d j=at_ vs j:=by rw[k];unfold at_;rw[afC,afC,agX,agj r.2]
   rw[e0];have e1:VagraLine.Line.value c vs (.div i j)=if Vagraa.isZero (at_ vs j)=true then none else some (Vagraa.div (at_ vs i) (at_ vs j)):=rfl
   rw[e1]at f;split at f;cases f;rename_i q;simpa using q;exact o p b i j q
open Ex (mk fr aF aT cg mulR bQ eo fV jD aE gy aJ det aD)
theorem DZ:∀f c W p ps,fV n f n c W p ps=(W,p,ps)
 |0,c,W,p,ps=>rfl
 |f+1,c,W,p,ps=>by
  have:jD n W n c=none:=by
   unfold jD;refine aha.mpr λi a=>?_
   have:=afG.mp a;simp
   lia
  unfold fV;rw[this];exact DZ f (c+1) W p ps
theorem OC(m):∀f k W(p:Int)M,k+f=n->(∀i j,bQ (M i j))->eo k M (λs=>s) (aT W) p->(fV n (f+m) k k W p (List.range k)).2.2=List.range n->
  ∀i,i<n->∀j,((fV n (f+m) k k W p (List.range k)).2.1:Rat)*M i j=aF n λs=>M i s*((fV n (f+m) k k W p (List.range k)).1 s j:Rat)
 |0,k,W,p,M,A,u,S,_=>by
  have:k=n:=by lia
  subst this;intro i B j;rw[DZ];exact S.up i B j
 |f+1,k,W,p,M,A,u,S,l=>by
  rw[show f+1+m=(f+m)+1 by lia]at l|-;unfold fV at l|-;cases e:jD n W k k with
  |none=>
   rw[e]at l;have:=rO (h:=n) (k:=k) (f+m) k (k+1) W p (List.range k) (by lia) (by rw[afG];lia);have q:(fV n (f+m) k (k+1) W p (List.range k)).2.2=List.range n:=l;rw[q,afG]at this
   lia
  |some i=>
   rw[e]at l;obtain⟨C,E,_⟩:=Ex.gR e;have g:k<=i/\W i k≠0:=by simpa using E
   have F:=S.rows (aJ k i) (λm G=>Ex.qi G g.1) λa v=>Ex.lO v g.1
   have e0:aE W k i k k=W i k:=by unfold aE aJ;rw[afz rfl]
   have w:aT (aE W k i) k k≠0:=by show((aE W k i k k:Int):Rat)≠0;rw[e0];exact Ex.nO.mpr g.2
   have x:=F.next (d:=k) w;have H:p≠0:=Ex.nO.mp S.nz;have I:(λa j=>if a=k then aT (aE W k i) k j else(aT (aE W k i) k k*aT (aE W k i) a j-aT (aE W k i) a k*aT (aE W k i) k j)/(p:Rat))=aT (gy (aE W k i) k k p):=by
    funext a j;obtain⟨z,o⟩:=x.whole (h:=a+k+1) (λb _ c=>u (aJ k i b) c) (by lia) (show a<a+k+1 by lia) j;have o:(if a=k then aT (aE W k i) k j else(aT (aE W k i) k k*aT (aE W k i) a j-aT (aE W k i) a k*aT (aE W k i) k j)/(p:Rat))=(z:Rat):=o;show _=((gy (aE W k i) k k p a j:Int):Rat);unfold gy
    by_cases r:a=k
    rw[afz r,afz r];rw[afy r]at o|-;rw[afy r,o];congr 1;refine(Ex.yq H ?_).symm;rw[<-o,ahd,af0,af0]
   have N:(λs=>if s=k then k else s)=λs:Nat=>s:=by funext s;by_cases h:s=k<;>simp[h]
   have y:eo (k+1) (λa j=>M (aJ k i a) j) (λs=>if s=k then k else s) (aT (gy (aE W k i) k k p)) ((aE W k i k k:Int):Rat):=by rw[<-I];exact x
   rw[N]at y;have t:=OC (n:=n) m f (k+1) (gy (aE W k i) k k p) (aE W k i k k) (λa j=>M (aJ k i a) j) (by lia) (λa j=>u _ j) y;rw[ahO]at t;have t:=t l;intro a v j;have P:aJ k i (aJ k i a)=a:=by unfold aJ;(repeat' split)<;>lia
   have Q:=Ex.nN (h:=n) (show k<n by lia) C v;have:=t (aJ k i a) Q j;rw[P]at this;exact this
theorem OD(a:∀i,i<n->∀j,j<w->sz (P i j) b)(u:n<=w)(k:(cD n w P).2.2=List.range n)(c:i<n)(l:j<w):aF n (λs=>vF P i s*vF (gS n w P) s j)=vF P i j:=by
 obtain⟨m,rfl⟩:∃m,w=n+m:=⟨w-n,by lia⟩;have hs:=OC (n:=n) m n 0 (fO (n+m) P) 1 (aT (fO (n+m) P)) (by lia) (λi j=>bQ.int _) (eo.start _ _) k i c j;have f:=(gT a).2;have hs:((cD n (n+m) P).2.1:Rat)*(fO (n+m) P i j:Rat)=aF n λs=>(fO (n+m) P i s:Rat)*((cD n (n+m) P).1 s j:Rat):=hs
 obtain⟨_,o,q⟩:=lC a c;have g:∀t,t<n+m->((fO (n+m) P i t:Int):Rat)=(jk (n+m) P i:Rat)*vF P i t:=λt h=>by unfold fO;rw[lQ (q t h) (a i c t h).z];rfl
 rw[g j l]at hs;have e1:aF n (λs=>(fO (n+m) P i s:Rat)*((cD n (n+m) P).1 s j:Rat))=(jk (n+m) P i:Rat)*((cD n (n+m) P).2.1:Rat)*aF n λs=>vF P i s*vF (gS n (n+m) P) s j:=by
  rw[<-Ex.cQ];refine Ex.az λs hs=>?_
  rw[g s (by lia)];show _=_*(vF P i s*(((cD n (n+m) P).1 s j:Rat)/((cD n (n+m) P).2.1:Rat)));have:=gp f;generalize ((cD n (n+m) P).2.1:Rat)=p at*;grind
 rw[e1]at hs;have d:=gp o;have e:=gp f;generalize ((cD n (n+m) P).2.1:Rat)=p at*;generalize (jk (n+m) P i:Rat)=K at*;have r:K*p*((aF n λs=>vF P i s*vF (gS n (n+m) P) s j)-vF P i j)=0:=by grind
 rcases agk.mp r with z|z;rcases agk.mp z with z|z;exact absurd z d;exact absurd z e;grind
theorem TX{n}{A}(c:det n A≠0){x y:Nat->Rat}(h:∀i,i<n->aF n (λs=>A i s*x s)=aF n (λs=>A i s*y s)){l}(a:l<n):x l=y l:=by
 have b:∀z:Nat->Rat,∀i,aF n (λs=>A i s*z s)=aF n λt=>z t*A i t:=λz i=>Ex.az λt _=>air _ _
 have e1:=Ex.uZ A a x (u:=λi=>aF n λs=>A i s*x s) λi _=>b x i
 have d:=Ex.uZ A a y (u:=λi=>aF n λs=>A i s*x s) λi e=>by rw[h i e];exact b y i
 rw[e1]at d;have f:(x l-y l)*det n A=0:=by grind
 rcases agk.mp f with z|z;grind;exact absurd z c
theorem Lx(a:∀i,i<n->∀j,j<w->sz (P i j) b)(c:n<=w):(cD n w P).2.2=List.range n↔det n (vF P)≠0:=by obtain⟨m,rfl⟩:∃m,w=n+m:=⟨w-n,by lia⟩;have d:=IA a c;have e:=Ah a;have O:=Iz (n:=n) m n 0 (fO (n+m) P) 1 (aT (fO (n+m) P)) (by lia) (λi j=>bQ.int _) (eo.start _ _);have O:(cD n (n+m) P).2.2=List.range n↔det n (aT (fO (n+m) P))≠0:=O;rw[d]at O;refine O.trans ⟨λq z=>q (by rw[z];grind),λq z=>?_⟩;rcases agk.mp z with z|z;exact e z;exact q z
theorem Ly{n m b}{P}(p:1<=b)(f:∀i,i<n->∀j,j<n+m->sz (P i j) b): (Vagram.inverse (mk n n (vF P))).map (λa=>Vagram.scale (Vagraa.frac (-1) 1) (Vagram.mul a (mk n m λi j=>vF P i (n+j))))=
   if(cD n (n+m) P).2.2=List.range n then some (mk n m λi j=>vl (dj (Ld n (gS n (n+m) P) i j) (-1,1)))else none:=by
 have r:∀i,i<n->∀j,j<n->sz (P i j) b:=λi c j e=>f i c j (by lia)
 have u:=rN (d:=n) r λi c j e=>(yJ i j).mono p
 have v:=Lx f (show n<=n+m by lia);have g:Ir n P=List.range n↔det n (vF (fC n P nT))≠0:=Lx u (show n<=n+n by lia);have e1:det n (vF (fC n P nT))=det n (vF P):=Ex.eg λi _ j e=>by unfold vF fC;rw[afz e]
 rw[e1]at g;rw[AX p r]
 by_cases h:det n (vF P)=0
 rw[afy (λq=>g.mp q h),afy (λq=>v.mp q h)];rfl;have w:=v.mpr h;have z:=g.mpr h;rw[afz w,afz z];have B:Vagraa.frac (-1) 1=fr (-1):=rfl;show some (Vagram.scale (Vagraa.frac (-1) 1) (Vagram.mul (mk n n (vF (Ae n P))) (mk n m λi j=>vF P i (n+j))))=_;rw[Ex.Ie,B,Ex.Dm];refine agg some (Ex.d7 λi c j e=>?_);rw[nR];have C:vl (-1,1)=-1:=by unfold vl;simp;grind
 rw[C];have k:mulR n (vF (Ae n P)) (λi j=>vF P i (n+j)) i j=vl (Ld n (gS n (n+m) P) i j):=by
  refine TX h (x:=λs=>mulR n (vF (Ae n P)) (λi j=>vF P i (n+j)) s j) (y:=λs=>vl (Ld n (gS n (n+m) P) s j)) (λa l=>?_) c;have E:=OD f (show n<=n+m by lia) w l (show n+j<n+m by lia);have F:∀t,t<n->aF n (λs=>vF P a s*vF (Ae n P) s t)=cg a t:=λt A=>by
   have:=OD u (show n<=n+n by lia) z l (show n+t<n+n by lia);have G:vF (fC n P nT) a (n+t)=cg a t:=by rw[<-MW];unfold vF fC;rw[afy (by lia),show n+t-n=t by lia]
   rw[G]at this;rw[<-this];refine Ex.az λs H=>?_
   have I:vF (fC n P nT) a s=vF P a s:=by unfold vF fC;rw[afz H]
   rw[I];rfl
  show aF n (λs=>vF P a s*mulR n (vF (Ae n P)) (λi j=>vF P i (n+j)) s j)=aF n (λs=>vF P a s*vF (gS n (n+m) P) s (n+j));rw[E];have o:=Ex.Ds n (vF P) (vF (Ae n P)) (λi j=>vF P i (n+j)) a j;have o:aF n (λs=>vF P a s*mulR n (vF (Ae n P)) (λi j=>vF P i (n+j)) s j)=mulR n (mulR n (vF P) (vF (Ae n P))) (λi j=>vF P i (n+j)) a j:=o.symm;rw[o];show aF n (λt=>mulR n (vF P) (vF (Ae n P)) a t*vF P t (n+j))=_;rw[<-Ex.wM n (λt=>vF P t (n+j)) a l];exact Ex.az λt A=>by rw[show mulR n (vF P) (vF (Ae n P)) a t=cg a t from F t A]
 rw[k];grind
open VagraLine (Line codeOf wellFrom well runFrom at_ fracsOf)
theorem sz.low(h:sz p b):sz (lw (vl p)) b:=by
 have e:(p.1:Rat)=(p.2:Rat)*vl p:=by unfold vl;have:=gp h.z;generalize (p.2:Rat)=d at*;grind
 obtain⟨e,e0,e1,c⟩:=Lv h.z e;have b1:=h.n;have a:=h.d;rw[c]at b1;rw[e1]at a;exact⟨vh e0 b1,vh e0 a,bR _⟩
def vq(n:Nat)(l:List Int):Bool:=decide (l.length≠2*n)||(List.range n).any (λk=>decide ((fq l k).2<1))
def fm(n:Nat)(l:List Int):List Q2:=(List.range n).map (fq l)
theorem D0:∀n l,l.length=2*n->fracsOf l=if(List.range n).any (λk=>decide ((fq l k).2<1))then none else some ((fm n l).map λp=>fr (vl p))
 |0,[],_=>rfl
 |0,_::_,h=>by simp at h
 |n+1,[],h=>by simp at h
 |n+1,[a],h=>by simp at h;lia
 |n+1,a::d::l,h=>by
  have c:=D0 n l (by simp at h;lia);have e1:∀k,fq (a::d::l) (k+1)=fq l k:=λk=>by unfold fq;rw[show 2*(k+1)=(2*k)+1+1 by lia,show 2*k+1+1+1=(2*k+1)+1+1 by lia];rfl
  have e0:fq (a::d::l) 0=(a,d):=rfl;unfold fracsOf fm;rw[ago,agZ,agP,afR,afS,e0];rw[show((λk=>decide ((fq (a::d::l) k).2<1))∘Nat.succ)=λk=>decide ((fq l k).2<1)by funext k;show decide ((fq (a::d::l) (k+1)).2<1)=_;rw[e1]];rw[show(fq (a::d::l)∘Nat.succ)=fq l by funext k;exact e1 k]
  by_cases b:d<1
  rw[afz b];simp[b];rw[afy b,c,aga b,ahF];cases (List.range n).any λk=>decide ((fq l k).2<1)with|true=>rfl|false=>show some (Vagraa.frac a d.toNat::_)=some _;rw[IJ (by lia)];rfl
theorem A5:∀l fs,fracsOf l=some fs->l.length=2*fs.length
 |[],fs,h=>by cases h;rfl
 |[a],fs,h=>by cases h
 |a::d::l,fs,h=>by
  unfold fracsOf at h;split at h;cases h;cases e:fracsOf l with
  |none=>rw[e]at h;cases h
  |some b=>rw[e]at h;cases h;have:=A5 l b e;simp;lia
theorem rP(n)(l):Vagram.fracs n l=if vq n l then .error (-2)else .ok ((fm n l).map λp=>fr (vl p)):=by
 unfold Vagram.fracs vq
 by_cases h:l.length=2*n
 rw[D0 n l h,show decide (l.length≠2*n)=false by simp[h],ahF];cases (List.range n).any λk=>decide ((fq l k).2<1)with|true=>rfl|false=>show(if((fm n l).map λp=>fr (vl p)).length=n then _ else _)=_;rw[afz (by simp[fm])];rfl
 rw[show decide (l.length≠2*n)=true by simp[h],Bool.true_or,afz rfl];cases e:fracsOf l with|none=>rfl|some a=>show(if a.length=n then _ else _)=_;rw[afy λq=>h (by rw[A5 l a e,q])]
theorem IP(e:∀z∈l,bz z b)(h:vq n l=false):∀p∈fm n l,sz p b:=λp f=>by
 unfold vq at h;rw[agB]at h;have a:l.length=2*n:=by simpa using h.1
 obtain⟨k,c,rfl⟩:=af6.mp f;have j:=afG.mp c;have:=agb.mp h.2 k c;have g:∀i,i<l.length->bz (l.getD i 0) b:=λi d=>e _ (by rw[afC,afE d];exact agF d)
 exact⟨g _ (by omega),g _ (by omega),by simp at this;omega⟩
def gu(Y:afp)(b:D)(kind:Int)(a c:List Rat):D:=.obj (Y 25) ["code","kind","inputs","worked"] [b,.int kind,.lst (a.map eF),.lst (c.map eF)]
@[simp]theorem acH (b) (kind:Int) (a c:List Rat):fX (Y 25) "code" (gu Y b kind a c)=.ok b:=bW rfl
@[simp]theorem acI (b) (kind:Int) (a c:List Rat):fX (Y 25) "kind" (gu Y b kind a c)=.ok (.int kind):=bW rfl
@[simp]theorem Z6 (b) (kind:Int) (a c:List Rat):fX (Y 25) "inputs" (gu Y b kind a c)=.ok (.lst (a.map eF)):=bW rfl
@[simp]theorem Z7 (c) (kind:Int) (a b:List Rat):fX (Y 25) "worked" (gu Y c kind a b)=.ok (.lst (b.map eF)):=bW rfl
theorem M1{a}{kind}{ps:List Q2}{lines}(h:fX (Y 17) "lines" a=.ok lines)(hz:∀p∈ps,p.2≠0)(o:ps.length<=1000):cH 3 (Y 25) (dP Y) [a,.int kind,.lst (ps.map eQ)]=(gz Y [lines,.lst ((ps.map vl).map eF)]>>=λd=>.ok (.obj (Y 25) ["code","kind","inputs","worked"] [a,.int kind,.lst ((ps.map vl).map eF),d])):=by
 have b:(Str.ofString "code"=Str.ofString "kind")=False:=by decide
 have f:(Str.ofString "code"=Str.ofString "inputs")=False:=by decide
 have g:(Str.ofString "kind"=Str.ofString "inputs")=False:=by decide
 have i:(Str.ofString "code"=Str.ofString "worked")=False:=by decide
 have j:(Str.ofString "kind"=Str.ofString "worked")=False:=by decide
 have k:(Str.ofString "inputs"=Str.ofString "worked")=False:=by decide
 have l:∀ρ,ρ=[some (.ce (Y 25) ["code","kind"] [a,.int kind]),~~~a,~~~.int kind,~~~.lst (ps.map eQ),none]->br (aI 4) bM (aa (U (O 4) af) (ah 1 (gY Y))) ρ (ps.map eQ) []=.ok ((ps.map vl).map eF):=λρ c=>by
  subst c;have:=lP (aI 4) (aa (U (O 4) af) (ah 1 (gY Y))) [some (.ce (Y 25) ["code","kind"] [a,.int kind]),~~~a,~~~.int kind,~~~.lst (ps.map eQ),none] eQ (λp=>eF (vl p)) ps [] (by simp;lia) λp m=>⟨_,rfl,by simp[ql p (hz p m)]⟩
  rw[this,afS,agH];rfl
 have n:fX (Y 25) "inputs" (.obj (Y 25) ["code","kind","inputs"] [a,.int kind,.lst ((ps.map vl).map eF)])=.ok (.lst ((ps.map vl).map eF)):=bW rfl;simp only[cH,xF,dP,runC,ou,dY];simp[rK,fy,b,-List.map_map];rw[l _ rfl];simp[rK,fy,b,f,g,-List.map_map,n,h];cases gz Y [lines,.lst ((ps.map vl).map eF)]with|error e=>rfl|ok d=>simp[rK,fy,b,f,g,i,j,k,sy,pW,Cv,-List.map_map]
structure gw(n m:Nat)(rs:List RL)(cd:nU)(os:List Int):Prop where
 wf:Lp rs cd
 well:well (n+m) cd=true
 few:rs.length<=40
 len:os.length=n
 outs:∀o∈os,0<=o/\o<(rs.length:Int)
 n4:n<=4
 m4:m<=4
structure yN(n m:Nat)(cd:nU)(k:Nat)(ins ws:List Rat):Prop where
 il:ins.length=n+m
 isz:∀q∈ins,sz (lw q) 200
 wsz:∀q∈ws,sz (lw q) 200
 wl:ws.length=k
 dv:∀l∈cd,∀i j,l=.div i j->cz ws j≠0
abbrev OE(n m:Nat)(a:nU)(os:List Int):Vagram.Prog:=⟨n,m,a,os.map Int.toNat⟩
theorem IQ{n m}{rs}{os xs pp}{kind}(h:n<=4)(i:m<=4):e9 Y [cU Y n m rs os,.int kind,.lst (xs.map D.int),.lst (pp.map D.int)]=
  if vq n xs||vq m pp then raises (Y 1)else cH 3 (Y 25) (dP Y) [cU Y n m rs os,.int kind,.lst ((fm n xs++fm m pp).map eQ)]:=by
 have a:=mJ (Y:=Y) (ns:=xs) (n:=n) (by lia);have b:=mJ (Y:=Y) (ns:=pp) (n:=m) (by lia);rw[show(decide (xs.length≠2*n)||(List.range n).any (λk=>decide ((fq xs k).2<1)))=vq n xs from rfl]at a;rw[show(decide (pp.length≠2*m)||(List.range m).any (λk=>decide ((fq pp k).2<1)))=vq m pp from rfl]at b;have e1:((List.range n).map λk=>eQ (fq xs k))=(fm n xs).map eQ:=by unfold fm;rw[afS];rfl
 have d:((List.range m).map λk=>eQ (fq pp k))=(fm m pp).map eQ:=by unfold fm;rw[afS];rfl
 rw[e1]at a;rw[d]at b;have e:(fm n xs).length=n:=by simp[fm]
 have f:(fm m pp).length=m:=by simp[fm]
 have g:DL.iV (.lst ((fm n xs).map eQ)) (.lst ((fm m pp).map eQ))=.ok (.lst ((fm n xs++fm m pp).map eQ)):=by rw[rG _ _ (by rw[afB,afB,e,f];lia),agz]
 cases b1:vq n xs with
 |true=>rw[b1]at a;simp[e9,aA,oG,ai,a]
 |false=>
  rw[b1,afy afJ]at a;cases c:vq m pp with
  |true=>rw[c]at b;simp[e9,aA,oG,ai,a,b]
  |false=>rw[c,afy afJ]at b;simp only[e9,aA,oG,ai];simp[a,b,-List.map_append,g];cases cH 3 (Y 25) (dP Y) [cU Y n m rs os,D.int kind,D.lst ((fm n xs++fm m pp).map eQ)]<;>rfl
theorem An{n m}{rs}{b}{os xs pp}(C:gw n m rs b os)(kind:Int)(st:Vagram.State)(hs:st.prog=OE n m b os)(F:∀z∈xs,bz z 60)(d:∀z∈pp,bz z 60): (st.place xs pp=.error (-2)/\e9 Y [cU Y n m rs os,.int kind,.lst (xs.map D.int),.lst (pp.map D.int)]=raises (Y 1))\/ (st.place xs pp=.error (-5)/\e9 Y [cU Y n m rs os,.int kind,.lst (xs.map D.int),.lst (pp.map D.int)]=raises (Y 5))\/
  ∃f g,st.place xs pp=.ok ((f.take n).map fr,g.map fr)/\e9 Y [cU Y n m rs os,.int kind,.lst (xs.map D.int),.lst (pp.map D.int)]=.ok (gu Y (cU Y n m rs os) kind f g)/\yN n m b rs.length f g:=by
 have a:=IQ (Y:=Y) (n:=n) (m:=m) (rs:=rs) (os:=os) (xs:=xs) (pp:=pp) (kind:=kind) C.n4 C.m4;have r:=rP n xs;have w:=rP m pp;have c:st.place xs pp=(Vagram.fracs n xs>>=λx=>Vagram.fracs m pp>>=λp=>match(OE n m b os).values x p with
  | .ok s=>.ok (x,s)
  | .error _=>.error (-5)):=by unfold Vagram.State.place;rw[hs];rfl
 cases b1:vq n xs with
 |true=>refine .inl ⟨?_,?_⟩;rw[c,r,b1];rfl;rw[a,b1];rfl
 |false=>
  cases k:vq m pp with
  |true=>refine .inl ⟨?_,?_⟩;rw[c,r,b1,w,k];rfl;rw[a,b1,k];rfl
  |false=>
   have G:=IP F b1;have H:=IP d k;have y:∀p∈fm n xs++fm m pp,sz p 60:=λp d=>by rcases agt.mp d with h|h;exact G p h;exact H p h
   have t:(fm n xs).length=n:=by simp[fm]
   have A:(fm m pp).length=m:=by simp[fm]
   have B:∀q∈(fm n xs++fm m pp).map vl,sz (lw q) 200:=λq I=>by obtain⟨p,d,rfl⟩:=af6.mp I;exact(y p d).low.mono (by lia)
   have E:((fm n xs++fm m pp).map vl).length=n+m:=by rw[afB,afM,t,A]
   have mk:=M1 (Y:=Y) (kind:=kind) (TU n m rs os) (λp d=>(y p d).z) (show(fm n xs++fm m pp).length<=1000 by rw[afM,t,A];have:=C.n4;have:=C.m4;lia);rw[b1,k]at a;rw[show(if(false||false)=true then raises (Y 1)else cH 3 (Y 25) (dP Y) [cU Y n m rs os,.int kind,.lst ((fm n xs++fm m pp).map eQ)]:M D)=_ from afy afJ,mk]at a;have vals:=Qx (Y:=Y) B C.wf (by rw[E];exact C.well) (by have:=C.few;lia);have N:((fm n xs).map λp=>fr (vl p))++((fm m pp).map λp=>fr (vl p))=((fm n xs++fm m pp).map vl).map fr:=by rw[afS,agz];rfl
   have u:(OE n m b os).values ((fm n xs).map λp=>fr (vl p)) ((fm m pp).map λp=>fr (vl p))=VagraLine.run (some 200) (((fm n xs++fm m pp).map vl).map fr) b:=by unfold Vagram.Prog.values;rw[N];rfl
   rw[r,b1,w,k]at c;have c:st.place xs pp=match(OE n m b os).values ((fm n xs).map λp=>fr (vl p)) ((fm m pp).map λp=>fr (vl p))with| .ok s=>.ok ((fm n xs).map λp=>fr (vl p),s)| .error _=>.error (-5):=c
   rw[u]at c;rcases vals with⟨e,o,v⟩|⟨g,o,v,P,Q⟩;refine .inr (.inl ⟨?_,?_⟩);rw[c,o];rw[a,v];rfl;refine .inr (.inr ⟨(fm n xs++fm m pp).map vl,g,?_,?_,E,B,v,P,λl R i j q z=>?_⟩);rw[c,o];have S:(((fm n xs++fm m pp).map vl).take n).map fr=(fm n xs).map λp=>fr (vl p):=by rw[agz,List.take_left' (by rw[afB,t]),afS];rfl
   rw[S];rw[a,Q];rfl;have:=(OB 200 _ (n+m) b [] (g.map fr) C.well o).2 l R i j q;rw[mh,Ex.qh]at this;simp[z]at this
open Ex (fr mk)
def oN(os:List Int)(i:Nat):Nat:=(os.getD i 0).toNat
def OF(os:List Int)(i):(os.map Int.toNat).getD i 0=oN os i:=by unfold oN;rw[afC,afC,afF];cases os[i]?<;>rfl
theorem gw.out{n m}{rs}{b}{os:List Int}(C:gw n m rs b os){i}(c:i<n):os.getD i 0=((oN os i:Nat):Int)/\oN os i<rs.length:=by
 have a:i<os.length:=by rw[C.len];exact c
 have:=C.outs (os.getD i 0) (by rw[afC,afE a];exact agF a);unfold oN
 lia
theorem gw.W7{n m}{rs}{a}{os:List Int}(C:gw n m rs a os):os.map D.int=(List.range n).map λi=>.int ((oN os i:Nat):Int):=by rw[map_getD os 0 D.int,C.len];exact afY λi b=>by rw[(C.out (afG.mp b)).1]
theorem A6:∀{n N:Nat},n<=N->ja ((List.range n).map F) ((List.range N).map G)=(List.range n).map λi=>.tup [F i,G i]:=by
 intro n
 induction n generalizing F G with|zero=>intro N _;rfl|succ n a=>intro N h;obtain⟨N,rfl⟩:∃k,N=k+1:=⟨N-1,by lia⟩;rw[ago,ago,afR,afR,afS,afS,afR,afS];show D.tup [F 0,G 0]::ja _ _=_;rw[a (F:=F∘Nat.succ) (G:=G∘Nat.succ) (by lia)];rfl
def TY(l):l.map eF=(List.range l.length).map λi=>eF (cz l i):=map_getD l 0 eF
def nZ(kind:Nat)(os:List Int)(a b:List Rat)(i:Nat):Q2:=if kind=1 then fW (lw (cz b (oN os i))) (je (lw (cz a i)))else lw (cz b (oN os i))
theorem OG{n m}{rs}{c}{os:List Int}{a b}(C:gw n m rs c os)(T:yN n m c rs.length a b)(kind:Nat){i:Nat}(e:i<n):sz (nZ kind os a b i) 401:=by have d:=bH T.wsz (show oN os i<b.length by rw[T.wl];exact(C.out e).2);have f:=bH T.isz (show i<a.length by rw[T.il];lia);unfold nZ;split;exact d.fW f.je;exact d.mono (by lia)
theorem Gn{n}{os}{fZ}{ls}{f:ak->M D}{ρ:ak}(b:fZ<ρ.length)(c:∀i,i<n->f (ρ.set fZ (~~~(.int ((oN os i:Nat):Int))))=.ok (.lst (ls.map eF)))(d:∀i,i<n->oN os i<ls.length)(g:n<=1000):br (aI fZ) bM (aL ay f (O fZ)) ρ ((List.range n).map λi=>.int ((oN os i:Nat):Int)) []=.ok ((List.range n).map λi=>eF (cz ls (oN os i))):=by
 refine bf _ (by lia) λi a=>⟨_,rfl,?_⟩
 have e:O fZ (ρ.set fZ (~~~(.int ((oN os i:Nat):Int))))=.ok (.int ((oN os i:Nat):Int)):=iE fZ (by rw[afK b]);rw[SS,c i a,bq,e,bq,Wb,d8 (d i a)]
theorem A7{n m}{rs}{e}{os:List Int}{a b}(C:gw n m rs e os)(T:yN n m e rs.length a b){kind:Nat}(p:kind<=1):jh Y [gu Y (cU Y n m rs os) (kind:Int) a b]=.ok (.lst ((List.range n).map λi=>eQ (nZ kind os a b i))):=by
 have r:=C.n4;have g:∀i,i<n->oN os i<b.length:=λi c=>by rw[T.wl];exact(C.out c).2
 have h:=Gn (n:=n) (os:=os) (fZ:=2) (ls:=b) (f:=aB (Y 25) "worked" (O 0)) (ρ:=[~~~(gu Y (cU Y n m rs os) (kind:Int) a b),none,none,none,none]) (by simp) (λi c=>by simp) g (by lia);have j:ja ((List.range n).map λi=>eF (cz b (oN os i))) (a.map eF)=((List.range n).map λi=>.tup [eF (cz b (oN os i)),eF (cz a i)]):=by rw[TY a,A6 (by rw[T.il];lia)]
 have k:∀ρ:ak,ρ=[~~~(gu Y (cU Y n m rs os) (kind:Int) a b),~~~(.lst ((List.range n).map λi=>eF (cz b (oN os i)))),none,none,none]->br (b4 [3,4]) bM (aa (U (O 3) (U (O 4) af)) (ah 2 (gI Y))) ρ ((List.range n).map λi=>.tup [eF (cz b (oN os i)),eF (cz a i)]) []=.ok ((List.range n).map λi=>eQ (fW (lw (cz b (oN os i))) (je (lw (cz a i))))):=λρ d=>by
  subst d;refine bf _ (by lia) λi c=>⟨_,rfl,?_⟩
  have l:gI Y [eF (cz b (oN os i)),eF (cz a i)]=_:=uA (Y:=Y) (bH T.wsz (g i c)) (bH T.isz (show i<a.length by rw[T.il];lia)) (by decide);simp[l]
 simp only[jh,aA,tR,ai];simp[C.W7];rw[h]
 by_cases q:kind=1
 have o:iW (kind:Int) 1=true:=by simp[iW];lia
 rw[show(λi=>eQ (nZ kind os a b i))=λi=>eQ (fW (lw (cz b (oN os i))) (je (lw (cz a i))))by funext i;unfold nZ;rw[afz q]];simp[j];rw[k _ rfl,afz (by lia)];rfl;have o:iW (kind:Int) 1=false:=by simp[iW];lia
 rw[show(λi=>eQ (nZ kind os a b i))=λi=>eF (cz b (oN os i))by funext i;unfold nZ;rw[afy q];rfl];simp;rw[afy (by lia)];rfl
theorem OH{n m}{rs}{c}{os:List Int}{a b}(C:gw n m rs c os)(T:yN n m c rs.length a b){kind:Nat}(f:kind<=1):(OE n m c os).residual kind ((a.take n).map fr) (b.map fr)=(List.range n).map λi=>fr (vl (nZ kind os a b i)):=by
 unfold Vagram.Prog.residual;refine afY λi d=>?_
 have d:=afG.mp d;show(if kind=0 then at_ (b.map fr) ((os.map Int.toNat).getD i 0)else Vagraa.sub (at_ (b.map fr) ((os.map Int.toNat).getD i 0)) (at_ ((a.take n).map fr) i))=_;rw[OF,mh,mh];have e:cz (a.take n) i=cz a i:=by unfold cz;rw[afC,afC,ahX,afz d]
 rw[e];unfold nZ
 by_cases q:kind=1
 subst q;rw[afy (by decide),afz rfl,lB (p:=lw (cz b (oN os i))) (q:=je (lw (cz a i))) (bR _) (bR _),oU,cR,cR,Ex.zX,ahb];rw[afz (by lia),afy q,cR]
def pO(n kind:Nat)(os:List Int)(a b:List Rat):Bool:=(List.range n).any λi=>decide ((nZ kind os a b i).1≠0)
theorem Wv{n m}{rs}{d}{os:List Int}{a b}(C:gw n m rs d os)(T:yN n m d rs.length a b){kind:Nat}(e:kind<=1):oA Y [gu Y (cU Y n m rs os) (kind:Int) a b]=if pO n kind os a b then raises (Y 6)else .ok .cK:=by
 have h:=C.n4;have f:=A7 (Y:=Y) C T e;have g:∀ρ:ak,ρ=[~~~(gu Y (cU Y n m rs os) (kind:Int) a b),none]->br (aI 1) bM (kD (eL wR (aL ay (O 1) (aG (.int 0))) (aG (.int 0)))) ρ ((List.range n).map λi=>eQ (nZ kind os a b i)) []=.ok ((List.range n).map λi=>.bl (decide ((nZ kind os a b i).1≠0))):=λρ c=>by
  subst c;refine bf _ (by lia) λi j=>⟨_,rfl,?_⟩
  simp[eQ,wR]
 have an:=uE (λi=>decide ((nZ kind os a b i).1≠0)) (List.range n);unfold pO;generalize ((List.range n).any λi=>decide ((nZ kind os a b i).1≠0))=B at an|-;simp only[oA,aA,xT,ai];simp[f];rw[g _ rfl,bq,an];cases B<;>simp
theorem abL(h:p.2≠0):vl p=0↔p.1=0:=by
 unfold vl;have:=gp h;constructor;intro q;have:(p.1:Rat)=0:=by generalize (p.2:Rat)=d at*;grind
 exact_mod_cast this
 intro q;rw[q];simp;grind
theorem M3{n m}{rs}{d}{os:List Int}{b c}(C:gw n m rs d os)(T:yN n m d rs.length b c){kind:Nat}(e:kind<=1):(((OE n m d os).residual kind ((b.take n).map fr) (c.map fr)).any λa=>!Vagraa.isZero a)=pO n kind os b c:=by
 rw[OH C T e,agP];unfold pO;rw[agJ,ai1,ai1];refine exists_congr λi=>and_congr_right λf=>?_
 have z:=abL (OG C T kind (afG.mp f)).z;show(!Vagraa.isZero (fr (vl (nZ kind os b c i))))=true↔_;rw[Ex.qh];simp[z]
def uH(N k:Nat):List Rat:=(List.range N).map λi=>if i=k then 1 else 0
theorem Qy(N k):Vagrae.unit N k=(uH N k).map fr:=by
 unfold Vagrae.unit uH;rw[afS];refine afY λi _=>?_
 show _=fr (if i=k then 1 else 0)
 by_cases h:i=k
 rw[afz h,afz h];rfl;rw[afy h,afy h];rfl
theorem Ww:∀q∈uH N k,q=0\/q=1:=λq a=>by
 obtain⟨i,_,rfl⟩:=af6.mp a
 by_cases h:i=k
 rw[afz h];exact .inr rfl;rw[afy h];exact .inl rfl
def ZD(f:Vagraa.Frac):Rat:=mkRat f.num f.den
def Wx(q:Rat):ZD (fr q)=q:=by show mkRat q.num q.den=q;exact ag7 q
def TZ(N:Nat)(a:nU)(b:List Rat)(k:Nat):List Rat:=(Vagrae.changes ((uH N k).map fr) (b.map fr) a).map ZD
theorem T3{n m}{rs}{a}{os:List Int}{c b}(C:gw n m rs a os)(T:yN n m a rs.length c b)(k:Nat):
  Vagrae.changes ((uH (n+m) k).map fr) (b.map fr) a=(TZ (n+m) a b k).map fr/\(TZ (n+m) a b k).length=rs.length/\(∀q∈TZ (n+m) a b k,sz (lw q) 16041)/\jX Y [.lst (rs.map (cj Y)),.lst (b.map eF),.lst ((uH (n+m) k).map eF)]=.ok (.lst ((TZ (n+m) a b k).map eF)):=by
 obtain⟨f,d,g,h,i⟩:=M0 (Y:=Y) (dir:=uH (n+m) k) Ww T.wsz (by rw[T.wl];exact C.few) C.wf (by rw[T.wl]) (by rw[show(uH (n+m) k).length=n+m by simp[uH]];exact C.well) T.dv;have e:TZ (n+m) a b k=f:=by
  unfold TZ;rw[d,afS];have:(ZD∘fr)=id:=by funext q;exact Wx q
  rw[this,List.map_id]
 rw[e];exact⟨d,by rw[g,T.wl],h,i⟩
def ku(N kind:Nat)(os:List Int)(a:nU)(b:List Rat):PF:=λi k=>if kind=1 then fW (lw (cz (TZ N a b k) (oN os i))) (je (lw (if i=k then 1 else 0)))else lw (cz (TZ N a b k) (oN os i))
theorem abM{i k:Nat}:sz (lw (if i=k then 1 else 0)) 1:=by
 by_cases h:i=k
 rw[afz h];exact⟨by show Int.natAbs 1<2^1;decide,by show Int.natAbs 1<2^1;decide,bR _⟩;rw[afy h];exact⟨by show Int.natAbs 0<2^1;decide,by show Int.natAbs 1<2^1;decide,bR _⟩
theorem IS{n m}{rs}{a}{os:List Int}{b c}(C:gw n m rs a os)(T:yN n m a rs.length b c)(kind:Nat){i:Nat}(e:i<n)(k:Nat):sz (ku (n+m) kind os a c i k) 16043:=by obtain⟨_,f,g,_⟩:=T3 (Y:=λ_=>0) C T k;have d:=bH g (show oN os i<_ by rw[f];exact(C.out e).2);unfold ku;split;exact d.fW abM.je;exact d.mono (by lia)
theorem T4{n m}{rs}{f}{os:List Int}{a d}(C:gw n m rs f os)(T:yN n m f rs.length a d){kind:Nat}(A:kind<=1)(k:Nat):gc Y [gu Y (cU Y n m rs os) (kind:Int) a d,.int (k:Int)]=.ok (dm n λi=>ku (n+m) kind os f d i k):=by
 have B:=C.n4;have E:=C.m4;obtain⟨F,o,p,r⟩:=T3 (Y:=Y) C T k;have s:∀ρ:ak,ρ=[~~~(gu Y (cU Y n m rs os) (kind:Int) a d),~~~(.int (k:Int)),none,none,none,none,none,none,none]->br (aI 5) bM (GX (eL iW (O 5) (O 1)) (aa (U (aG (.int 1)) (U (aG (.int 1)) af)) eS) (aa (U (aG (.int 0)) (U (aG (.int 1)) af)) eS)) ρ ((List.range (n+m)).map λi=>.int ((i:Nat):Int)) []=.ok ((uH (n+m) k).map eF):=λρ b=>by
  subst b;have e:(uH (n+m) k).map eF=(List.range (n+m)).map λi=>eF (if i=k then 1 else 0):=by unfold uH;rw[afS];rfl
  rw[e];refine bf _ (by lia) λi g=>⟨_,rfl,?_⟩
  by_cases h:i=k
  subst h;simp;rfl;have t:¬(i:Int)=(k:Int):=by lia
  simp[h,t];rfl
 have l:∀i,i<n->oN os i<(TZ (n+m) f d k).length:=λi g=>by rw[o];exact(C.out g).2
 have v:=fk (show n+m<=1000000 by lia);have G:(a.map eF).length=n+m:=by rw[afB,T.il]
 generalize j:TZ (n+m) f d k=c at*;have w:∀ρ:ak,ρ=[~~~(gu Y (cU Y n m rs os) (kind:Int) a d),~~~(.int (k:Int)),~~~.lst ((uH (n+m) k).map eF),~~~.lst (c.map eF),none,none,none,none,none]->br (aI 6) bM (aL ay (O 3) (O 6)) ρ ((List.range n).map λi=>.int ((oN os i:Nat):Int)) []=.ok ((List.range n).map λi=>eF (cz c (oN os i))):=λρ b=>Gn (by subst b;simp) (λi g=>by subst b;exact iE 3 rfl) l (by lia)
 have x:ja ((List.range n).map λi=>eF (cz c (oN os i))) ((uH (n+m) k).map eF)=((List.range n).map λi=>.tup [eF (cz c (oN os i)),eF (if i=k then 1 else 0)]):=by
  have e:(uH (n+m) k).map eF=(List.range (n+m)).map λi=>eF (if i=k then 1 else 0):=by unfold uH;rw[afS];rfl
  rw[e,A6 (by lia)]
 have y:∀ρ:ak,ρ=[~~~(gu Y (cU Y n m rs os) (kind:Int) a d),~~~(.int (k:Int)),~~~.lst ((uH (n+m) k).map eF),~~~.lst (c.map eF),~~~(.lst ((List.range n).map λi=>eF (cz c (oN os i)))),none,none,none,none]->br (b4 [7,8]) bM (aa (U (O 7) (U (O 8) af)) (ah 2 (gI Y))) ρ ((List.range n).map λi=>.tup [eF (cz c (oN os i)),eF (if i=k then 1 else 0)]) []=.ok ((List.range n).map λi=>eQ (fW (lw (cz c (oN os i))) (je (lw (if i=k then 1 else 0))))):=λρ b=>by
  subst b;refine bf _ (by lia) λi g=>⟨_,rfl,?_⟩
  have z:gI Y [eF (cz c (oN os i)),eF (if i=k then 1 else 0)]=_:=uA (Y:=Y) (bH p (l i g)) abM (by decide);generalize (if i=k then(1:Rat)else 0)=u at*;simp[z]
 simp! only[gc,aA,oB,ai];simp! [C.W7,T.il];rw[show((n:Int)+(m:Int))=((n+m:Nat):Int)by lia,v,bq,s _ rfl];simp[r,-Int.natCast_add];rw[w _ rfl]
 by_cases q:kind=1
 rw[show(λi=>ku (n+m) kind os f d i k)=λi=>fW (lw (cz c (oN os i))) (je (lw (if i=k then 1 else 0)))by funext i;unfold ku;rw[afz q,j]];simp! [x];rw[y _ rfl,afz (by lia)];rfl;rw[show(λi=>ku (n+m) kind os f d i k)=λi=>lw (cz c (oN os i))by funext i;unfold ku;rw[afy q,j]];simp;rw[afy (by lia)];rfl
def uI(n m kind:Nat)(os:List Int)(a:nU)(b:List Rat):PF:=λi j=>dj (Ld n (gS n (n+m) (ku (n+m) kind os a b)) i j) (-1,1)
def Lz(n m kind:Nat)(os:List Int)(a:nU)(b:List Rat):Bool:=decide ((cD n (n+m) (ku (n+m) kind os a b)).2.2≠List.range n)
def yO(h:k<=n):bX B k<=bX B n:=by unfold bX;have:=agn (B+1) (agS (show 0<2 by decide) h);omega
def D3(h:B<=C):bX B k<=bX C k:=by unfold bX;have:=ag2 (2^k) (show B+1<=C+1 by omega);omega
theorem yP(a:n<=4)(b:m<=4):bX (16043+(1+(n+m)*16043)) (n+1)<=134217728:=by
 refine af9 (yO (show n+1<=5 by lia)) (af9 (D3 (C:=16043+(1+8*16043)) ?_) (by decide));have:=agn 16043 (show n+m<=8 by lia)
 lia
theorem LA{n m}{rs}{b}{os}{d a}(C:gw n m rs b os)(T:yN n m b rs.length d a){kind:Nat}(s:kind<=1):jB Y [gu Y (cU Y n m rs os) (kind:Int) d a]=
  if pO n kind os d a then raises (Y 6)else if Lz n m kind os b a then raises (Y 7)else .ok (eT Y n m (uI n m kind os b a)):=by
 have h:=C.n4;have l:=C.m4;have f:=Wv (Y:=Y) C T s;have t:∀i,i<n->∀j,j<n+m->sz (ku (n+m) kind os b a i j) 16043:=λi o j _=>IS C T kind o j
 have v:=fk (show n+m<=1000000 by lia);have w:∀ρ:ak,ρ=[~~~(gu Y (cU Y n m rs os) (kind:Int) d a),none,none,none]->br (aI 3) bM (aa (U (O 0) (U (O 3) af)) (ah 2 (gc Y))) ρ ((List.range (n+m)).map λi=>.int ((i:Nat):Int)) []=.ok ((List.range (n+m)).map λk=>dm n λi=>ku (n+m) kind os b a i k):=λρ p=>by
  subst p;refine bf _ (by lia) λk x=>⟨_,rfl,?_⟩
  have:=T4 (Y:=Y) C T s k;simp[this]
 have g:=F6 (Y:=Y) (r:=n+m) (c:=n) (P:=λk i=>ku (n+m) kind os b a i k) (by lia) (by lia);have e:=DN (Y:=Y) t (yP h l) (by lia) (by lia);rw[show n+m-n=m by lia]at e;have sd:=rM t (yP h l) (by lia) (by lia);have y:bX (16043+(1+(n+m)*16043)) n+1<=134217728:=by
  have z:=yP h l;have A:=yH (16043+(1+(n+m)*16043)) n
  lia
 have q:=Ad (Y:=Y) (P:=Ld n (gS n (n+m) (ku (n+m) kind os b a))) (r:=n) (c:=m) (λi o j B=>sd.1 i o (n+j) (by lia)) Im y (by lia) (by lia);have e0:eT Y (n+m) n (λk i=>ku (n+m) kind os b a i k)=.obj (Y 19) ["height","width","rows"] [.int ((n+m:Nat):Int),.int (n:Int),.lst ((List.range (n+m)).map λk=>dm n λi=>ku (n+m) kind os b a i k)]:=rfl;rw[e0]at g;have g:nj Y [.obj (Y 19) ["height","width","rows"] [.int ((n+m:Nat):Int),.int (n:Int),.lst ((List.range (n+m)).map λk=>dm n λi=>ku (n+m) kind os b a i k)]]=.ok (eT Y n (n+m) (ku (n+m) kind os b a)):=g;have q:jg Y [eT Y n m (Ld n (gS n (n+m) (ku (n+m) kind os b a))),.tup [.int (-1),.int 1]]=.ok (eT Y n m (uI n m kind os b a)):=q;cases b1:pO n kind os d a with
 |true=>rw[b1]at f;simp! [jB,aA,tT,ai,f]
 |false=>
  rw[b1,afy afJ]at f;simp! only[jB,aA,tT,ai];simp! [f,T.il];rw[show((n:Int)+(m:Int))=((n+m:Nat):Int)by lia,v,bq,w _ rfl];simp! [g,-Int.natCast_add];unfold Lz;cases u:decide ((cD n (n+m) (ku (n+m) kind os b a)).2.2≠List.range n)with|true=>rw[u]at e;simp! [e]|false=>rw[u,afy afJ]at e;simp[e,q]
theorem OI{n m}{rs}{a}{os}{b c}(C:gw n m rs a os)(T:yN n m a rs.length b c)(kind:Nat):∀i,i<n->∀j,j<m->sz (uI n m kind os a c i j) 2400000:=λi d j k=>by
 have e:=C.n4;have f:=C.m4;have g:∀i,i<n->∀j,j<n+m->sz (ku (n+m) kind os a c i j) 16043:=λi d j _=>IS C T kind d j
 have sd:=rM g (yP e f) (by lia) (by lia);have h:=(sd.1 i d (n+j) (by lia)).dj Im;refine h.mono ?_;have l:bX (16043+(1+(n+m)*16043)) n<=bX (16043+(1+8*16043)) 4:=by
  refine af9 (yO (show n<=4 by lia)) (D3 ?_);have:=agn 16043 (show n+m<=8 by lia)
  lia
 have o:bX (16043+(1+8*16043)) 4=2310223:=by decide
 lia
theorem OJ{n m}{rs}{a}{os:List Int}{d b}(C:gw n m rs a os)(T:yN n m a rs.length d b){kind:Nat}(e:kind<=1)(s c:Nat):(OE n m a os).table kind (b.map fr) s c=mk n c λi j=>vF (ku (n+m) kind os a b) i (s+j):=by
 unfold Vagram.Prog.table;refine Ex.cF λi f j g=>?_
 show(if kind=1/\s+j=i then Vagraa.sub (at_ (Vagrae.changes (Vagrae.unit (n+m) (s+j)) (b.map fr) a) ((os.map Int.toNat).getD i 0)) Vagraa.one else at_ (Vagrae.changes (Vagrae.unit (n+m) (s+j)) (b.map fr) a) ((os.map Int.toNat).getD i 0))=fr (vl (ku (n+m) kind os a b i (s+j)));rw[Qy,(T3 (Y:=λ_=>0) C T (s+j)).1,OF,mh];unfold ku
 by_cases q:kind=1
 rw[afz q,lB (p:=lw (cz (TZ (n+m) a b (s+j)) (oN os i))) (q:=je (lw (if i=s+j then 1 else 0))) (bR _) (bR _),oU,cR,cR]
 by_cases h:s+j=i
 rw[afz ⟨q,h⟩,afz h.symm,Ex.SG,Ex.zX,ahb];rw[afy (λz=>h z.2),afy (λz=>h z.symm)];congr 1;grind;rw[afy (λz=>q z.1),afy q,cR]
theorem Wy{n m}{rs}{b}{os}{d c}(C:gw n m rs b os)(T:yN n m b rs.length d c){kind:Nat}(e:kind<=1):(OE n m b os).implicit kind (c.map fr)=if Lz n m kind os b c then none else some (mk n m (vF (uI n m kind os b c))):=by
 have f:∀i,i<n->∀j,j<n+m->sz (ku (n+m) kind os b c i j) 16043:=λi g j _=>IS C T kind g j
 have k:=Ly (n:=n) (m:=m) (show 1<=16043 by decide) f;have l:=OJ C T e 0 n;have o:=OJ C T e n m;have e1:(mk n n λi j=>vF (ku (n+m) kind os b c) i (0+j))=mk n n (vF (ku (n+m) kind os b c)):=Ex.d7 λi _ j _=>by rw[agG]
 unfold Vagram.Prog.implicit;show(Vagram.inverse ((OE n m b os).table kind (c.map fr) 0 n)).map (λa=>Vagram.scale (Vagraa.frac (-1) 1) (Vagram.mul a ((OE n m b os).table kind (c.map fr) n m)))=_;rw[l,o,e1,k];unfold Lz
 by_cases h:(cD n (n+m) (ku (n+m) kind os b c)).2.2=List.range n
 rw[afz h,show decide ((cD n (n+m) (ku (n+m) kind os b c)).2.2≠List.range n)=false by simp[h],afy afJ];rfl;rw[afy h,show decide ((cD n (n+m) (ku (n+m) kind os b c)).2.2≠List.range n)=true by simp[h],afz rfl]
structure Tb where
 r:Nat
 c:Nat
 v:afq
def Tb.p(t:Tb):PF:=λi j=>lw (t.v i j)
def Tb.e(Y:afp)(t:Tb):D:=eT Y t.r t.c t.p
def Tb.m(t:Tb):Vagram.Mat:=Ex.mk t.r t.c t.v
structure Tb.Ok(t:Tb):Prop where
 r:t.r<=6
 c:t.c<=6
 w:∀i,i<t.r->∀j,j<t.c->Vagraa.weight (fr (t.v i j))<=2000
def QL:Tb:=⟨0,0,λ_ _=>0⟩
def ZE:QL.Ok:=⟨by decide,by decide,λi a=>absurd a (agu i)⟩
theorem Tb.vP(t:Tb):vF t.p=t.v:=by funext i j;exact cR _
theorem Tb.Ok.sz{t:Tb}(h:t.Ok):∀i,i<t.r->∀j,j<t.c->Fx.sz (t.p i j) 2000:=λi a j b=>Gm (h.w i a j b)
structure rQ(Y:afp):Prop where
 ts:Y 19≠Y 27
 ls:Y 15≠Y 27
 lt:Y 15≠Y 19
 cs:Y 17≠Y 27
 rs:Y 21≠Y 27
 ss:Y 23≠Y 27
 j1:Y 59≠Y 58
 j2:Y 70≠Y 58
 j3:Y 70≠Y 59
 j4:Y 62≠Y 58
 j5:Y 62≠Y 59
 j6:Y 62≠Y 70
 j7:Y 63≠Y 58
 j8:Y 63≠Y 59
 j9:Y 63≠Y 70
 j10:Y 63≠Y 62
structure Good(Y:afp)(s:Vagram.State)(aj:List D)(code:D):Prop where
 ex:∃T:List Tb,T.length=6/\(∀t∈T,t.Ok)/\aj=T.map (Tb.e Y)/\s.regs=T.map Tb.m
 cd:∃n m rs cd os,code=cU Y n m rs os/\s.prog=OE n m cd os/\gw n m rs cd os
theorem gU:∀{l:List d},(∀a∈l,cy CS CT (f a)=true)->cP CS CT (l.map f)=true|[],_=>rfl|a::l,h=>by show(cy CS CT (f a)&&cP CS CT (l.map f))=true;rw[h a afH,gU λb c=>h b (afA _ c)];rfl
def qu(a:cP CS CT ds=true)(b:ds.any (Hg CT)=false):cy CS CT (.lst ds)=true:=by unfold cy;rw[a,b];rfl
theorem gW(ns:List Int):cy CS CT (.lst (ns.map D.int))=true:=qu (gU λa _=>rfl) (by rw[agP];exact agb.mpr λa _=>by simp[Hg])
def M4(c)(f):cy CS CT (dm c f)=true:=qu (gU λa _=>rfl) (by rw[agP];exact agb.mpr λa _=>by simp[Hg,eQ])
theorem uJ(d:rQ Y)(r c)(P):cy (Y 27) (Y 19) (eT Y r c P)=true:=by unfold eT;show(decide (Y 19≠Y 27)&&(true&&(true&&(cy (Y 27) (Y 19) (.lst _)&&true))))=true;rw[qu (gU λa _=>M4 c _) (by rw[agP];exact agb.mpr λa _=>by simp[Hg,dm])];simp[d.ts]
theorem M5(d:rQ Y)(r c)(P)(ps:List Nat):cy (Y 27) (Y 19) (qo Y (eT Y r c P) ps)=true:=by unfold qo;show(decide (Y 21≠Y 27)&&(cy (Y 27) (Y 19) (eT Y r c P)&&(cy (Y 27) (Y 19) (.lst (sC ps))&&true)))=true;rw[uJ d,qp,gW];simp[d.rs]
theorem M6(d:rQ Y)(r c)(P)(b):cy (Y 27) (Y 19) (Bs Y (eT Y r c P) b)=true:=by unfold Bs;show(decide (Y 23≠Y 27)&&(cy (Y 27) (Y 19) (eT Y r c P)&&(true&&true)))=true;rw[uJ d];simp[d.ss]
theorem A8(d:rQ Y)(n m)(rs)(os:List Int):cy (Y 27) (Y 19) (cU Y n m rs os)=true:=by unfold cU;show(decide (Y 17≠Y 27)&&(true&&(true&&(cy (Y 27) (Y 19) (.lst (rs.map (cj Y)))&&(cy (Y 27) (Y 19) (.lst (os.map D.int))&&true)))))=true;rw[gW,qu (gU λr _=>?_) (by rw[agP];exact agb.mpr λa _=>by simp[Hg,cj,d.lt])];simp[d.cs];unfold cj;show(decide (Y 15≠Y 27)&&(true&&(cy (Y 27) (Y 19) (.lst (r.2.map D.int))&&true)))=true;rw[gW];simp[d.ls]
theorem Good.len{s}{a}{code}(G:Good Y s a code):a.length=6:=by obtain⟨T,b,_,c,_⟩:=G.ex;rw[c,afB,b]
theorem Good.head{s}{a}{code}(G:Good Y s a code):kF (Y 19) a=true:=by
 obtain⟨T,b,_,c,_⟩:=G.ex;rw[c];cases T with|nil=>simp at b|cons t T=>show decide (Y 19=Y 19)=true;simp
theorem Good.cP{s}{a}{code}(d:rQ Y)(G:Good Y s a code):cP (Y 27) (Y 19) a=true:=by obtain⟨T,_,_,b,_⟩:=G.ex;rw[b];exact gU λt _=>uJ d _ _ _
theorem Good.cy{s}{a}{code}(d:rQ Y)(G:Good Y s a code):cy (Y 27) (Y 19) code=true:=by obtain⟨n,m,b,cd,os,h,_⟩:=G.cd;rw[h];exact A8 d _ _ _ _
theorem Good.reg{s:Vagram.State}{a:List D}{code}(G:Good Y s a code){i}(g:i<6):∃t:Tb,t.Ok/\a.getD i .cK=t.e Y/\s.get i=t.m:=by
 obtain⟨T,h,c,d,f⟩:=G.ex;have b:i<T.length:=by lia
 refine⟨T[i],c _ (agF b),?_,?_⟩;rw[d,afC,afF,afE b];rfl;unfold Vagram.State.get;rw[f,afC,afF,afE b];rfl
theorem Good.set{s:Vagram.State}{a:List D}{code:D}(G:Good Y s a code)(i){t:Tb}(b:t.Ok):Good Y {s with regs:=s.regs.set i t.m} (a.set i (t.e Y)) code:=by obtain⟨T,c,d,f,g⟩:=G.ex;refine⟨⟨T.set i t,by rw[afZ,c],λu j=>?_,?_,?_⟩,G.cd⟩;rcases List.mem_or_eq_of_mem_set j with h|h;exact d u h;rw[h];exact b;rw[f,List.map_set];show s.regs.set i t.m=_;rw[g,List.map_set]
def LB:List (Nat×Int):=[(0,-1),(1,-2),(2,-7),(3,-3),(4,-8),(5,-5),(6,-10),(7,-9),(8,-4)]
inductive dN(Y:afp):M b6->Except Int (Vagram.State×List Int)->Prop
 |ok {s:Vagram.State} {l:List Int} {aj:List D} {code:D} (G:Good Y s aj code) (hl:l.length<=1000):dN Y (.ok (.lst (l.map D.int),aj,code)) (.ok (s,l))
 |no {C:Nat} {e:Int} (h:(C,e)∈LB):dN Y (raises (Y C)) (.error e)
section
variable{s:Vagram.State}{aj:List D}{code:D}{f:afw}{g:ak->M b6}{fs:ak->M (List D)}{fe:ak->M D}{CS CT:Addr}
def iz(h:f ρ=.ok (.nx ρ')):cN CS CT aj code f g ρ=g ρ':=by unfold cN;rw[h];rfl
def dM(h:f ρ=.error e):cN CS CT aj code f g ρ=.error e:=by unfold cN;rw[h];rfl
theorem bS(ρ')(b:f ρ=if a<lo\/c<a then raises (Y 0)else .ok (.nx ρ'))(h:lo<=a->a<=c->dN Y (g ρ') (y a.toNat)):dN Y (cN CS CT aj code f g ρ) (Vagram.ranged a lo c>>=y):=by
 unfold Vagram.ranged
 by_cases q:a<lo\/c<a
 rw[afz q]at b;rw[dM b,afy (by omega)];exact .no (C:=0) (by decide);rw[afy q]at b;rw[iz b,afz (by omega)];exact h (by omega) (by omega)
theorem g8(b:ρ[1]?=some (~~~.lst ns))(c:l6 ns j=.ok (.int a)):pY (aa (U (aL ay (O 1) (aG (.int j))) af) (ah 1 (bD Y))) ρ=if a<0\/5<a then raises (Y 0)else .ok (.nx ρ):=by
 by_cases q:a<0\/5<a
 simp[iE 1 b,c,yF,q];simp[iE 1 b,c,yF,q]
theorem IT(b:ρ[1]?=some (~~~.lst ns))(c:l6 ns j=.ok (.int a)):pY (aa (U (aL ay (O 1) (aG (.int j))) af) (ah 1 (gE Y))) ρ=if a<0\/1<a then raises (Y 0)else .ok (.nx ρ):=by
 by_cases q:a<0\/1<a
 simp[iE 1 b,c,Of,q];simp[iE 1 b,c,Of,q]
theorem yQ(b:ρ[1]?=some (~~~.lst ns))(c:l6 ns j=.ok (.int a)):pY (aa (U (aL ay (O 1) (aG (.int j))) (U (aG (.int lo)) (U (aG (.int d)) af))) (ah 3 (bO Y))) ρ=if a<lo\/d<a then raises (Y 0)else .ok (.nx ρ):=by
 by_cases q:a<lo\/d<a
 simp[iE 1 b,c,kq,q];simp[iE 1 b,c,kq,q]
theorem Gp(b:ρ[i]?=some (~~~.int a)):pY (aa (U (O i) (U (aG (.int lo)) (U (aG (.int c)) af))) (ah 3 (bO Y))) ρ=if a<lo\/c<a then raises (Y 0)else .ok (.nx ρ):=by
 by_cases q:a<lo\/c<a
 simp[iE i b,kq,q];simp[iE i b,kq,q]
theorem oX(G:Good Y s aj code)(b:ρ[0]?=some (~~~au (Y 27) aj code))(c:ρ[1]?=some (~~~.lst ns))(d:l6 ns j=.ok (.int a)):iC 1 (Y 27) "held" (aV Y) (O 0) (U (aL ay (O 1) (aG (.int j))) af) ρ=if a<0\/5<a then raises (Y 0)else .ok (aj.getD a.toNat .cK):=by have e:Pg "held" (Y 27) (au (Y 27) aj code)=.ok (au (Y 27) aj code):=afz ⟨rfl,by decide⟩;have he:=Wf (Y:=Y) (code:=code) (a:=a) G.len;simp[iC,iE 0 b,iE 1 c,d,e,he]
theorem oY(G:Good Y s aj code)(b:ρ[0]?=some (~~~au (Y 27) aj code))(c:ρ[1]?=some (~~~.lst ns))(d:l6 ns j=.ok (.int a)):aU i (iC 1 (Y 27) "held" (aV Y) (O 0) (U (aL ay (O 1) (aG (.int j))) af)) ρ=if a<0\/5<a then raises (Y 0)else .ok (.nx (ρ.set i (~~~aj.getD a.toNat .cK))):=by
 rw[wN,oX G b c d]
 by_cases q:a<0\/5<a
 rw[afz q,afz q];rfl;rw[afy q,afy q];rfl
theorem Qz(a b)(P):Vagram.within (mk a b (vF P))=!(decide (6<a)||decide (6<b)||kr a b P):=by have e:Vagram.within (mk a b (vF P))=(decide (a<=6)&&(decide (b<=6)&&((List.range a).map λi=>(List.range b).map λj=>fr (vl (P i j))).all λr=>r.all λx=>decide (Vagraa.weight x<=2000))):=rfl;rw[e];unfold kr;rw[agJ];simp[oW,and_assoc]
theorem T5:s.put k (mk a b (vF P)) l=if decide (6<a)||decide (6<b)||kr a b P then .error (-4)else .ok ({s with regs:=s.regs.set k (mk a b (vF P))},l):=by unfold Vagram.State.put;rw[Qz];cases (decide (6<a)||decide (6<b)||kr a b P)<;>rfl
theorem jv{a b:Nat}{P}{k:Nat}{l:List Int}(d:rQ Y)(G:Good Y s aj code)(z:k<6)(o:a<=1000)(p:b<=1000)(hz:∀i,i<a->∀j,j<b->(P i j).2≠0)(c:fs ρ=.ok [.int (k:Int),eT Y a b P])(h:∀tabs',fe (om (Y 27) (Y 19) (au (Y 27) tabs' code) ρ)=.ok (.lst (l.map D.int)))(r:l.length<=1000):
  dN Y (cS (Y 27) (Y 19) (b8 Y) aj code fs fe ρ) (s.put k (mk a b (vF P)) l):=by
 have st:=K8 (Y:=Y) hz o p;rw[T5];unfold cS;rw[c,bq];show dN Y (if cy (Y 27) (Y 19) (eT Y a b P)=true then Py (b8 Y) aj (k:Int) (eT Y a b P)>>=_ else ao) _;rw[afz (uJ d a b P)];unfold Py b8;rw[st];cases q:(decide (6<a)||decide (6<b)||kr a b P)with
 |true=>exact .no (C:=8) (by decide)
 |false=>
  have t:L2.B6 aj.length (k:Int)=some k:=by unfold L2.B6;rw[afz (by lia),afz (by rw[G.len];lia)];rfl
  rw[afy afJ,afy afJ,bq,t,bq];have u:(⟨a,b,vF P⟩:Tb).Ok:=by rw[agB,agB]at q;obtain⟨⟨v,w⟩,m⟩:=q;refine⟨by simpa using v,by simpa using w,λi x j y=>?_⟩;unfold kr at m;have:=agb.mp m i (afG.mpr x);rw[ahn]at this;have:=agb.mp this j (afG.mpr y);show Vagraa.weight (fr (vl (P i j)))<=2000;simpa[oW]using this
  have n:=G.set k u;have e:(eT Y a b λi j=>settle (P i j))=(⟨a,b,vF P⟩:Tb).e Y:=rfl;rw[e,afz n.head,h];show dN Y (qG _ _ _ _ _) _;unfold qG;rw[afz (gW l)];exact .ok n r
def jw(h:fs ρ=.error e):cS CS CT a aj code fs fe ρ=.error e:=by unfold cS;rw[h];rfl
theorem yR{d:D}{l:List Int}(G:Good Y s aj code)(h:f ρ=.ok (.rt (.lst (l.map D.int)) ρ))(a:l.length<=1000):dN Y (jG (Y 27) (Y 19) aj code f ρ) (.ok (s,l)):=by unfold jG cN;rw[h];show dN Y (qG _ _ _ _ _) _;unfold qG;rw[afz (gW l)];exact .ok G a
def yS(h:f ρ=.error e):jG CS CT aj code f ρ=.error e:=by unfold jG;exact dM h
end
variable{Y:afp}{ρ:ak}{s:Vagram.State}{aj:List D}{code:D}
def cJ(h:0<=a):((a.toNat:Nat):Int)=a:=aho h
theorem nV(d:rQ Y)(G:Good Y s aj code)(a b c)(n:vH Y g=some h)(o:∀t u:Tb,t.Ok->u.Ok->∃(x y:Nat)(P:PF),h [t.e Y,u.e Y]=(if !fit t.m u.m then raises (Y 4)else .ok (eT Y x y P))/\(fit t.m u.m=true->F t.m u.m=mk x y (vF P)/\x<=1000/\y<=1000/\∀i,i<x->∀j,j<y->(P i j).2≠0)):
  dN Y (cE Y aj code [.lst [.int a,.int b,.int c],.fn g]) (s.two a b c fit F):=by
 show dN Y _ (Vagram.ranged a 0 5>>=λi=>Vagram.ranged b 0 5>>=λj=>Vagram.ranged c 0 5>>=λk=>Vagram.refuseIf (!fit (s.get j) (s.get k)) (-8)>>=λ_=>s.put i (F (s.get j) (s.get k)) [0]);refine bS _ (g8 rfl rfl) λp S=>bS _ (oY G rfl rfl rfl) λW b1=>bS _ (oY G rfl rfl rfl) λX Z=>?_
 obtain⟨t,r,v,w⟩:=G.reg (i:=b.toNat) (by lia);obtain⟨u,A,B,E⟩:=G.reg (i:=c.toNat) (by lia);obtain⟨x,y,P,f,H⟩:=o t u r A;rw[v,B,w,E];have ev:∀z,h [t.e Y,u.e Y]=z->U (aL ay (O 1) (aG (.int 0))) (U (Fv 2 2 (vH Y) (U (O 3) (U (O 4) af))) af) [~~~au (Y 27) aj code,~~~(.lst [.int a,.int b,.int c]),~~~.fn g,~~~t.e Y,~~~u.e Y]=(z>>=λT=>.ok [.int a,T]):=λz I=>by simp[Fv,L8,n,I]
 show dN Y (cS _ _ _ _ _ _ _ [~~~au (Y 27) aj code,~~~(.lst [.int a,.int b,.int c]),~~~.fn g,~~~t.e Y,~~~u.e Y]) _;cases q:fit t.m u.m with|false=>rw[q]at f;rw[jw (ev _ f)];exact .no (C:=4) (by decide)|true=>rw[q]at f;obtain⟨e1,N,Q,R⟩:=H q;rw[e1];refine jv (l:=[0]) d G (k:=a.toNat) (by lia) N Q R ?_ (λ_=>rfl) (by simp);rw[ev _ f,cJ p];rfl
theorem qv(ns:List Int):DL.jT (Y 27) (Y 19) 2 (cE Y) aj code (U (O 1) (U (aG (.fn a)) af)) (λds=>ds.all (fR (Y 27) (Y 19))) [~~~au (Y 27) aj code,~~~.lst (ns.map D.int)]=cE Y aj code [.lst (ns.map D.int),.fn a]:=by
 have b:([.lst (ns.map D.int),.fn a]:List D).all (fR (Y 27) (Y 19))=true:=by show(cy (Y 27) (Y 19) (.lst (ns.map D.int))&&(true&&true))=true;rw[gW];rfl
 unfold DL.jT;rw[show U (O 1) (U (aG (.fn a)) af) [~~~au (Y 27) aj code,~~~.lst (ns.map D.int)]=.ok [.lst (ns.map D.int),.fn a]from rfl,bq];exact afz ⟨rfl,b⟩
def Gq(a:r<=6)(b:c<=6):r*c<=36:=agR a b
theorem QA(d:r<=6)(e:n<=6)(f:n'<=6)(g:c<=6):2000+(1+r*n*2000)+(2000+(1+n'*c*2000))<=134217728:=by
 have a:=Gq d e;have b:=Gq f g
 lia
theorem IU(d:rQ Y)(G:Good Y s aj code)(a b c:Int):dN Y (qX Y aj code [.lst [.int a,.int b,.int c]]) (Vagram.out s (.add a b c)):=by
 rw[show qX Y aj code [.lst [.int a,.int b,.int c]]=cE Y aj code [.lst [.int a,.int b,.int c],.fn (Y 58)]from qv [a,b,c]];refine nV d G a b c (h:=lJ Y) (fit:=Vagram.alike) (F:=Vagram.add) (by unfold vH;rw[afz rfl]) λt u f g=>?_
 have x:=f.r;have y:=f.c;have z:=g.r;have A:=g.c;have e:=FZ (Y:=Y) f.sz g.sz (by decide) (by lia) (by lia);have k:(Vagram.alike) t.m u.m=(decide (t.r=u.r)&&decide (t.c=u.c)):=rfl;refine⟨t.r,t.c,λi j=>fW (t.p i j) (u.p i j),e.trans ?_,λq=>?_⟩;rw[k];rw[aiX];simp;rw[k]at q;rw[afL]at q;have l:t.r=u.r:=by simpa using q.1
 have n:t.c=u.c:=by simpa using q.2
 refine⟨?_,by lia,by lia,λi o j w=>afW (bR _) (bR _)⟩;show Vagram.add (Ex.mk t.r t.c t.v) (Ex.mk u.r u.c u.v)=_;rw[<-l,<-n,Ex.SI];refine Ex.d7 λi o j w=>?_
 show _=vl (fW (lw _) (lw _));rw[lB (bR _) (bR _),cR,cR]
theorem IV(d:rQ Y)(G:Good Y s aj code)(a b c:Int):dN Y (qY Y aj code [.lst [.int a,.int b,.int c]]) (Vagram.out s (.sub a b c)):=by
 rw[show qY Y aj code [.lst [.int a,.int b,.int c]]=cE Y aj code [.lst [.int a,.int b,.int c],.fn (Y 59)]from qv [a,b,c]];refine nV d G a b c (h:=gZ Y) (fit:=Vagram.alike) (F:=Vagram.sub) (by unfold vH;rw[afy d.j1,afz rfl]) λt u f g=>?_
 have y:=f.r;have z:=f.c;have A:=g.r;have B:=g.c;have e:=MQ (Y:=Y) f.sz g.sz (by decide) (by lia) (by lia) (by lia) (by lia);have k:(Vagram.alike) t.m u.m=(decide (t.r=u.r)&&decide (t.c=u.c)):=rfl;refine⟨t.r,t.c,λi j=>fW (t.p i j) (dj (u.p i j) (-1,1)),e.trans ?_,λq=>?_⟩;rw[k];rw[aiX];simp;rw[k]at q;rw[afL]at q;have l:t.r=u.r:=by simpa using q.1
 have n:t.c=u.c:=by simpa using q.2
 refine⟨?_,by lia,by lia,λi o j w=>afW (bR _) (afW (bR _) (by decide))⟩;show Vagram.sub (Ex.mk t.r t.c t.v) (Ex.mk u.r u.c u.v)=_;rw[<-l,<-n,Ex.Zd];refine Ex.d7 λi o j w=>?_
 show _=vl (fW (lw (t.v i j)) (dj (lw (u.v i j)) (-1,1)));have x:vl (-1,1)=-1:=by unfold vl;simp;grind
 rw[lB (p:=lw (t.v i j)) (q:=dj (lw (u.v i j)) (-1,1)) (bR _) (afW (bR _) (by decide)),nR,cR,cR,x];grind
theorem IW(d:rQ Y)(G:Good Y s aj code)(a b c:Int):dN Y (qZ Y aj code [.lst [.int a,.int b,.int c]]) (Vagram.out s (.mul a b c)):=by
 rw[show qZ Y aj code [.lst [.int a,.int b,.int c]]=cE Y aj code [.lst [.int a,.int b,.int c],.fn (Y 70)]from qv [a,b,c]];refine nV d G a b c (h:=gJ Y) (fit:=λa b=>decide (a.cols=b.rows)) (F:=Vagram.mul) (by unfold vH;rw[afy d.j2,afy d.j3,afz rfl]) λt u k l=>?_
 have w:=k.r;have x:=k.c;have y:=l.r;have A:=l.c;have e:=DG (Y:=Y) k.sz l.sz (QA w x y A) (by lia) (by lia) (by lia) (by lia);have o:decide (t.m.cols=u.m.rows)=decide (t.c=u.r):=rfl;refine⟨t.r,u.c,uD t.c t.r u.c t.p u.p,e.trans ?_,λq=>?_⟩;rw[o];simp;rw[o]at q;have B:t.c=u.r:=by simpa using q
 refine⟨?_,by lia,by lia,λi g j f=>(DM (λi g j f=>(k.sz i g j f).z) (λi g j f=>(l.sz i (by lia) j f).z) g f).2⟩;show Vagram.mul (Ex.mk t.r t.c t.v) (Ex.mk u.r u.c u.v)=_;rw[<-B,Ex.Ie];refine Ex.d7 λi g j f=>?_
 have:=(DM (r:=t.r) (n:=t.c) (c:=u.c) (P:=t.p) (Q:=u.p) (λi g j f=>(k.sz i g j f).z) (λi g j f=>(l.sz i (by lia) j f).z) g f).1;rw[Tb.vP,Tb.vP]at this;exact this.symm
theorem Bu(d:rQ Y)(G:Good Y s aj code)(a b c:Int):dN Y (lz Y aj code [.lst [.int a,.int b,.int c]]) (Vagram.out s (.beside a b c)):=by
 rw[show lz Y aj code [.lst [.int a,.int b,.int c]]=cE Y aj code [.lst [.int a,.int b,.int c],.fn (Y 62)]from qv [a,b,c]];refine nV d G a b c (h:=bZ Y) (fit:=λa b=>decide (a.rows=b.rows)) (F:=Vagram.beside) (by unfold vH;rw[afy d.j4,afy d.j5,afy d.j6,afz rfl]) λt u f g=>?_
 have n:=f.r;have o:=f.c;have w:=g.r;have x:=g.c;have e:=vd (Y:=Y) (r:=t.r) (c:=t.c) (r':=u.r) (d:=u.c) (P:=t.p) (Q:=u.p) (by lia) (by lia) (by lia);have k:decide (t.m.rows=u.m.rows)=decide (t.r=u.r):=rfl;refine⟨t.r,t.c+u.c,fC t.c t.p u.p,e.trans ?_,λq=>?_⟩;rw[k];simp;rw[k]at q;have l:t.r=u.r:=by simpa using q
 refine⟨?_,by lia,by lia,λi y j z=>by unfold fC;split<;>exact bR _⟩;show Vagram.beside (Ex.mk t.r t.c t.v) (Ex.mk u.r u.c u.v)=_;rw[<-l,Ex.zY,<-MS,Tb.vP,Tb.vP]
theorem D4(d:rQ Y)(G:Good Y s aj code)(a b c:Int):dN Y (mF Y aj code [.lst [.int a,.int b,.int c]]) (Vagram.out s (.below a b c)):=by
 rw[show mF Y aj code [.lst [.int a,.int b,.int c]]=cE Y aj code [.lst [.int a,.int b,.int c],.fn (Y 63)]from qv [a,b,c]];refine nV d G a b c (h:=f9 Y) (fit:=λa b=>decide (a.cols=b.cols)) (F:=Vagram.below) (by unfold vH;rw[afy d.j7,afy d.j8,afy d.j9,afy d.j10,afz rfl]) λt u f g=>?_
 have w:=f.r;have x:=f.c;have y:=g.r;have z:=g.c;have e:=S8 (Y:=Y) (r:=t.r) (c:=t.c) (s:=u.r) (d:=u.c) (P:=t.p) (Q:=u.p) (by lia) (by lia);have k:decide (t.m.cols=u.m.cols)=decide (t.c=u.c):=rfl;refine⟨t.r+u.r,t.c,S0 t.r t.p u.p,e.trans ?_,λq=>?_⟩;rw[k];simp;rw[k]at q;have l:t.c=u.c:=by simpa using q
 refine⟨?_,by lia,by lia,λi n j o=>by unfold S0;split<;>exact bR _⟩;show Vagram.below (Ex.mk t.r t.c t.v) (Ex.mk u.r u.c u.v)=_;rw[<-l,Ex.SJ];refine Ex.d7 λi n j o=>?_
 unfold Ex.Ze vF S0;split;exact(cR _).symm;exact(cR _).symm
theorem ET(d:rQ Y)(G:Good Y s aj code)(a b):dN Y (tX Y aj code [.lst [.int a,.int b]]) (Vagram.out s (.turn a b)):=by
 show dN Y _ (Vagram.ranged a 0 5>>=λi=>Vagram.ranged b 0 5>>=λj=>s.put i (Vagram.turn (s.get j)) [0]);refine bS _ (g8 rfl rfl) λh w=>?_
 have he:=oX (ρ:=[~~~au (Y 27) aj code,~~~(.lst [.int a,.int b])]) (j:=1) (a:=b) G rfl rfl rfl;unfold Vagram.ranged
 by_cases q:b<0\/5<b
 rw[afz q]at he;rw[afy (by lia)];show dN Y (cS _ _ _ _ _ _ _ [~~~au (Y 27) aj code,~~~(.lst [.int a,.int b])]) _;rw[jw (e:=some (Y 0)) (by simp[he];rfl)];exact .no (C:=0) (by decide);rw[afy q]at he;rw[afz (by lia)];obtain⟨t,g,n,o⟩:=G.reg (i:=b.toNat) (by lia);have x:=g.r;have y:=g.c;rw[n]at he;have u:=F6 (Y:=Y) (r:=t.r) (c:=t.c) (P:=t.p) (by lia) (by lia);show dN Y (cS _ _ _ _ _ _ _ [~~~au (Y 27) aj code,~~~(.lst [.int a,.int b])]) (s.put a.toNat (Vagram.turn (s.get b.toNat)) [0]);rw[o,show Vagram.turn t.m=mk t.c t.r (vF λi j=>t.p j i)by show Vagram.turn (Ex.mk t.r t.c t.v)=_;rw[Ex.V4];exact Ex.d7 λi _ j _=>(cR _).symm]
 refine jv (l:=[0]) d G (k:=a.toNat) (by lia) (by lia) (by lia) (λi _ j _=>bR _) ?_ (λ_=>rfl) (by simp);rw[cJ h];have f:nj Y [t.e Y]=_:=u;simp[he,f]
theorem EU(d:rQ Y)(G:Good Y s aj code)(a b):dN Y (tY Y aj code [.lst [.int a,.int b]]) (Vagram.out s (.unit a b)):=by
 show dN Y _ (Vagram.ranged a 0 5>>=λi=>Vagram.ranged b 0 6>>=λn=>s.put i (Vagram.unitMat n) [0]);refine bS _ (g8 rfl rfl) λc f=>bS _ (yQ rfl rfl) λe b1=>?_
 have u:=K4 (Y:=Y) (n:=b.toNat) (by lia);rw[cJ e]at u;rw[show Vagram.unitMat b.toNat=mk b.toNat b.toNat (vF nT)by rw[Ex.yp];exact Ex.d7 λi _ j _=>(MW i j).symm];refine jv (l:=[0]) d G (k:=a.toNat) (by lia) (by lia) (by lia) (λi _ j _=>(yJ i j).z) ?_ (λ_=>rfl) (by simp);rw[cJ c];show U _ _ [~~~au (Y 27) aj code,~~~(.lst [.int a,.int b])]=_;simp[u];rfl
theorem D5(d:rQ Y)(G:Good Y s aj code)(a b n m)(o:bz n 60)(u:bz m 60):dN Y (rj Y aj code [.lst [.int a,.int b,.int n,.int m]]) (Vagram.out s (.scale a b n m)):=by
 show dN Y _ (Vagram.ranged a 0 5>>=λi=>Vagram.ranged b 0 5>>=λj=>Vagram.refuseIf (decide (m<1)) (-1)>>=λ_=>s.put i (Vagram.scale (Vagraa.frac n m.toNat) (s.get j)) [0]);refine bS _ (g8 rfl rfl) λw B=>bS _ (oY G rfl rfl rfl) λE b1=>?_
 obtain⟨t,f,x,y⟩:=G.reg (i:=b.toNat) (by lia);have F:=f.r;have H:=f.c;rw[x,y];rw[iz (ρ':=[~~~au (Y 27) aj code,~~~(.lst [.int a,.int b,.int n,.int m]),~~~t.e Y,~~~.int m]) (by rfl)]
 by_cases q:m<1
 rw[dM (e:=some (Y 0)) (by simp[q];rfl),show decide (m<1)=true from af7 q];exact .no (C:=0) (by decide);rw[iz (ρ':=[~~~au (Y 27) aj code,~~~(.lst [.int a,.int b,.int n,.int m]),~~~t.e Y,~~~.int m]) (by simp[q]),show decide (m<1)=false from aga q];have h:sz (n,m) 60:=⟨o,u,by show m≠0;lia⟩;have A:jg Y [t.e Y,eQ (n,m)]=_:=Ad (Y:=Y) f.sz h (by decide) (by lia) (by lia);show dN Y _ (s.put a.toNat (Vagram.scale (Vagraa.frac n m.toNat) t.m) [0]);rw[show Vagram.scale (Vagraa.frac n m.toNat) t.m=mk t.r t.c (vF λi j=>dj (t.p i j) (n,m))by
  rw[IJ (by lia)];show Vagram.scale (fr (vl (n,m))) (Ex.mk t.r t.c t.v)=_;rw[Ex.Dm];refine Ex.d7 λi _ j _=>?_
  show _=vl (dj (lw (t.v i j)) (n,m));rw[nR,cR,air]]
 refine jv (l:=[0]) d G (k:=a.toNat) (by lia) (by lia) (by lia) (λi _ j _=>afW (bR _) h.z) ?_ (λ_=>rfl) (by simp);rw[cJ w];have g:jg Y [t.e Y,.tup [.int n,.int m]]=_:=A;simp[g]
theorem D6(d:rQ Y)(G:Good Y s aj code)(a b c):dN Y (rm Y aj code [.lst [.int a,.int b,.int c]]) (Vagram.out s (.power a b c)):=by
 show dN Y _ (Vagram.ranged a 0 5>>=λi=>Vagram.ranged b 0 5>>=λj=>Vagram.ranged c 0 12>>=λk=>Vagram.refuseIf (decide ((s.get j).rows≠(s.get j).cols)) (-8)>>=λ_=>s.put i (Vagram.power (s.get j) k) [0]);refine bS _ (g8 rfl rfl) λw F=>bS _ (oY G rfl rfl rfl) λH b1=>bS _ (yQ rfl rfl) λx y=>?_
 obtain⟨t,g,z,A⟩:=G.reg (i:=b.toNat) (by lia);have n:=g.r;have I:=g.c;rw[z,A];have N:=Gq n n;have B:1+c.toNat*(2000+(1+t.r*t.r*2000)+t.r)+(2000+(1+t.r*t.r*2000))<=134217728:=by
  have:c.toNat*(2000+(1+t.r*t.r*2000)+t.r)<=12*80000:=agR (by lia) (by lia)
  lia
 have f:kP Y [t.e Y,.int ((c.toNat:Nat):Int)]=_:=Te (Y:=Y) c.toNat g.sz B (by lia) (by lia) (by lia);rw[cJ x]at f;rw[show decide (t.m.rows≠t.m.cols)=decide (t.r≠t.c)from rfl];show dN Y (cS _ _ _ _ _ _ _ [~~~au (Y 27) aj code,~~~(.lst [.int a,.int b,.int c]),~~~t.e Y]) _;cases q:decide (t.r≠t.c)with
 |true=>rw[q]at f;rw[jw (e:=some (Y 4)) (by simp[f];rfl)];exact .no (C:=4) (by decide)
 |false=>
  rw[q]at f;have E:t.r=t.c:=by simpa using q
  show dN Y _ (s.put a.toNat (Vagram.power t.m c.toNat) [0]);have o:∀i,i<t.r->∀j,j<t.r->(t.p i j).2≠0:=λi _ j _=>bR _
  rw[show Vagram.power t.m c.toNat=mk t.r t.c (vF (Td t.r c.toNat t.p))by
   show Vagram.power (Ex.mk t.r t.c t.v) c.toNat=_;rw[<-E,Ex.KH];refine Ex.d7 λi h j u=>?_
   have:=(Ol (k:=c.toNat) o h u).1;rw[Tb.vP]at this;exact this.symm]
  refine jv (l:=[0]) d G (k:=a.toNat) (by lia) (by lia) (by lia) (λi h j u=>(Ol (k:=c.toNat) o h (by lia)).2) ?_ (λ_=>rfl) (by simp);rw[cJ w];simp[f]
def LC{n:Nat}(h:n<=1000):bz (n:Int) 10:=Tg (by lia)
def Ao{n m:Nat}(h:n<=1000)(h':m<=1000):xm (n:Int) (m:Int)=true:=iy (LC h) (LC h') (by decide)
theorem A9{h w}{l:List Q2}(k:h<=100)(hw:w<=100)(o:l.length=h*w):kN Y [.int (h:Int),.int (w:Int),.lst (l.map eQ)]=.ok (eT Y h w λi j=>l.getD (i*w+j) (0,1)):=by
 have d:∀ρ,ρ=[~~~(.int (h:Int)),~~~(.int (w:Int)),~~~.lst (l.map eQ),none]->br (aI 3) bM (vY (O 2) (iB (aL gX (O 3) (O 1))) (iB (aL gX (aL kC (O 3) (aG (.int 1))) (O 1)))) ρ ((List.range h).map λi=>.int ((i:Nat):Int)) []=.ok ((List.range h).map λi=>dm w λj=>l.getD (i*w+j) (0,1)):=λρ a=>by
  subst a;refine bf _ (by lia) λi e=>⟨_,rfl,?_⟩
  have m1:=Ao (n:=i) (m:=w) (by lia) (by lia);have c:=Ao (n:=i+1) (m:=w) (by lia) (by lia);have p:(i+1)*w<=h*w:=agn w e;have q:(i+1)*w=i*w+w:=agY i w;have e1:((i:Int)*(w:Int))=((i*w:Nat):Int):=by simp
  have f:((i:Int)+1)*(w:Int)=((i*w:Nat):Int)+(w:Int):=by rw[<-e1,Int.add_mul,ahP]
  have ct:=IE (l.map eQ) (i*w) w (by rw[afB];lia);rw[ais,Int.natCast_one]at c;simp[iR _ _ m1,iR _ _ c];rw[f,e1,ct];have g:((l.map eQ).drop (i*w)).take w=(List.range w).map λj=>eQ (l.getD (i*w+j) (0,1)):=by
   refine agm λj=>?_
   rw[ahX]
   by_cases b:j<w
   rw[afz b,aiK,afF,afF,afV b,afE (show i*w+j<l.length by lia)];show some (eQ l[i*w+j])=some (eQ (l.getD (i*w+j) (0,1)));rw[afC,afE (show i*w+j<l.length by lia)];rfl;rw[afy b,afF,afO (by rw[afN];lia)];rfl
  rw[g];rfl
 simp! only[kN,aA,AI,ai];simp! [fk (show h<=1000000 by lia)];rw[d _ rfl];rfl
theorem IX(d:rQ Y)(G:Good Y s aj code)(a b c)(ns:List Int)(x:∀z∈ns,bz z 60):dN Y (wI Y aj code [.lst [.int a,.int b,.int c,.lst (ns.map D.int)]]) (Vagram.out s (.set a b c ns)):=by
 show dN Y _ (Vagram.ranged a 0 5>>=λi=>Vagram.ranged b 0 6>>=λh=>Vagram.ranged c 0 6>>=λw=>Vagram.fracs (h*w) ns>>=λy=>s.put i (Vagram.make h w λi j=>at_ y (i*w+j)) [0]);refine bS _ (g8 rfl rfl) λA I=>?_
 rw[iz (ρ':=[~~~au (Y 27) aj code,~~~(.lst [.int a,.int b,.int c,.lst (ns.map D.int)]),~~~.int b,none]) (by rfl),iz (ρ':=[~~~au (Y 27) aj code,~~~(.lst [.int a,.int b,.int c,.lst (ns.map D.int)]),~~~.int b,~~~.int c]) (by rfl)];refine bS _ (Gp rfl) λB b1=>bS _ (Gp rfl) λE N=>?_
 obtain⟨h,rfl⟩:∃h:Nat,b=(h:Int):=⟨b.toNat,(cJ B).symm⟩;obtain⟨w,rfl⟩:∃w:Nat,c=(w:Int):=⟨c.toNat,(cJ E).symm⟩;rw[agd,agd];have hw:=Gq (show h<=6 by lia) (show w<=6 by lia);have f:=mJ (Y:=Y) (ns:=ns) (n:=h*w) (by lia);rw[show(decide (ns.length≠2*(h*w))||(List.range (h*w)).any (λk=>decide ((fq ns k).2<1)))=vq (h*w) ns from rfl,show((List.range (h*w)).map λk=>eQ (fq ns k))=(fm (h*w) ns).map eQ by unfold fm;rw[afS];rfl]at f;rw[Int.natCast_mul]at f;rw[rP];have u:=Ao (n:=h) (m:=w) (by lia) (by lia);have P:((h:Int)*(w:Int))=((h*w:Nat):Int):=by simp
 have F:=A9 (Y:=Y) (h:=h) (w:=w) (l:=fm (h*w) ns) (by lia) (by lia) (by simp[fm]);cases q:vq (h*w) ns with
 |true=>
  rw[q]at f;rw[jw (e:=some (Y 1)) (by simp[iR _ _ u,f];rfl)]
  exact .no (C:=1) (by decide)
 |false=>
  rw[q]at f;have sz:=IP x q;have H:∀k,k<h*w->(fm (h*w) ns).getD k (0,1)∈fm (h*w) ns:=λk r=>by
   have g:k<(fm (h*w) ns).length:=by simp[fm];exact r
   rw[afC,afE g];exact agF g
  have v:∀i,i<h->∀j,j<w->i*w+j<h*w:=λi o j t=>by
   have:=agn w o;have:=agY i w
   lia
  show dN Y _ (s.put a.toNat (Vagram.make h w λi j=>at_ ((fm (h*w) ns).map λp=>fr (vl p)) (i*w+j)) [0]);rw[show(Vagram.make h w λi j=>at_ ((fm (h*w) ns).map λp=>fr (vl p)) (i*w+j))=mk h w (vF λi j=>(fm (h*w) ns).getD (i*w+j) (0,1))from Ex.cF λi o j t=>by
   have r:i*w+j<(fm (h*w) ns).length:=by simp[fm];exact v i o j t
   unfold at_ vF;rw[afC,afF,afE r];show _=fr (vl ((fm (h*w) ns).getD (i*w+j) (0,1)));rw[afC,afE r];rfl]
  refine jv (l:=[0]) d G (k:=a.toNat) (by lia) (by lia) (by lia) (λi o j t=>(sz _ (H _ (v i o j t))).z) ?_ (λ_=>rfl) (by simp);rw[cJ A];simp! [iR _ _ u,f,F]
theorem qw(b:r<=6)(a:c<=12):bX (2000+(1+c*2000)) (r+1)<=134217728:=by
 refine af9 (yO (show r+1<=7 by lia)) (af9 (D3 (C:=2000+(1+12*2000)) ?_) (by decide));have:=agn 2000 a
 lia
theorem BV(G:Good Y s aj code)(b:ρ[0]?=some (~~~au (Y 27) aj code))(c:ρ[1]?=some (~~~.lst ns))(e:l6 ns j=.ok (.int a)):aU i (aa (U (iC 1 (Y 27) "held" (aV Y) (O 0) (U (aL ay (O 1) (aG (.int j))) af)) af) (ah 1 h)) ρ=if a<0\/5<a then raises (Y 0)else(h [aj.getD a.toNat .cK]>>=λd=>.ok (.nx (ρ.set i (~~~d)))):=by
 rw[wN,N9,yu,oX G b c e]
 by_cases q:a<0\/5<a
 rw[afz q,afz q];rfl;rw[afy q,afy q];rfl
theorem Bv(d:rQ Y)(G:Good Y s aj code)(a b):dN Y (pJ Y aj code [.lst [.int a,.int b]]) (Vagram.out s (.reduce a b)):=by
 show dN Y _ (Vagram.ranged a 0 5>>=λi=>Vagram.ranged b 0 5>>=λj=>s.put i (Vagram.reduce (s.get j)).1 (((Vagram.reduce (s.get j)).2.length:Int)::(Vagram.reduce (s.get j)).2.map Int.ofNat));refine bS _ (g8 rfl rfl) λo z=>?_
 have w:=BV (i:=2) (h:=i7 Y) (ρ:=[~~~au (Y 27) aj code,~~~(.lst [.int a,.int b]),none]) (j:=1) (a:=b) G rfl rfl rfl;unfold Vagram.ranged
 by_cases q:b<0\/5<b
 rw[afz q]at w;rw[afy (by lia)];show dN Y (cN _ _ _ _ _ _ [~~~au (Y 27) aj code,~~~(.lst [.int a,.int b]),none]) _;rw[dM w];exact .no (C:=0) (by decide);rw[afy q]at w;rw[afz (by lia)];obtain⟨t,f,u,v⟩:=G.reg (i:=b.toNat) (by lia);have l:=f.r;have A:=f.c;have O:i7 Y [t.e Y]=_:=rL (Y:=Y) f.sz (qw l (show t.c<=12 by lia)) (by lia) (by lia);have g:=gT f.sz;have rs:=rM f.sz (qw l (show t.c<=12 by lia)) (by lia) (by lia);rw[Tb.vP]at g;rw[u,O]at w;show dN Y (cN _ _ _ _ _ _ [~~~au (Y 27) aj code,~~~(.lst [.int a,.int b]),none]) (s.put a.toNat (Vagram.reduce (s.get b.toNat)).1 (((Vagram.reduce (s.get b.toNat)).2.length:Int)::(Vagram.reduce (s.get b.toNat)).2.map Int.ofNat));rw[iz (ρ':=[~~~au (Y 27) aj code,~~~(.lst [.int a,.int b]),~~~qo Y (eT Y t.r t.c (gS t.r t.c t.p)) (cD t.r t.c t.p).2.2]) w,v,show Vagram.reduce t.m=_ from g.1];have x:fX (Y 21) "table" (qo Y (eT Y t.r t.c (gS t.r t.c t.p)) (cD t.r t.c t.p).2.2)=.ok (eT Y t.r t.c (gS t.r t.c t.p)):=bW rfl;have y:fX (Y 21) "leading" (qo Y (eT Y t.r t.c (gS t.r t.c t.p)) (cD t.r t.c t.p).2.2)=.ok (.lst (sC (cD t.r t.c t.p).2.2)):=bW rfl;have n:(sC (cD t.r t.c t.p).2.2).length=(cD t.r t.c t.p).2.2.length:=by rw[qp];simp
 refine jv d G (k:=a.toNat) (by lia) (by lia) (by lia) (λi B j E=>g.2) ?_ (λtabs'=>?_) (by simp;lia);rw[cJ o];simp[x];show aL iV _ _ [~~~au (Y 27) tabs' code,pZ _ _ (~~~(.lst [.int a,.int b])),pZ _ _ (~~~qo Y (eT Y t.r t.c (gS t.r t.c t.p)) (cD t.r t.c t.p).2.2)]=_;rw[show pZ (Y 27) (Y 19) (~~~qo Y (eT Y t.r t.c (gS t.r t.c t.p)) (cD t.r t.c t.p).2.2)= ~~~qo Y (eT Y t.r t.c (gS t.r t.c t.p)) (cD t.r t.c t.p).2.2 from afz (M5 d _ _ _ _)];simp[y,n];rw[rG _ _ (by rw[n];simp;lia),qp];simp
theorem Bw(d:rQ Y)(G:Good Y s aj code)(a b):dN Y (pK Y aj code [.lst [.int a,.int b]]) (Vagram.out s (.kernel a b)):=by
 show dN Y _ (Vagram.ranged a 0 5>>=λi=>Vagram.ranged b 0 5>>=λj=>s.put i (Vagram.kernel (s.get j)) [((Vagram.kernel (s.get j)).cols:Int)]);refine bS _ (g8 rfl rfl) λn z=>?_
 have w:=BV (i:=2) (h:=jJ Y) (ρ:=[~~~au (Y 27) aj code,~~~(.lst [.int a,.int b]),none]) (j:=1) (a:=b) G rfl rfl rfl;unfold Vagram.ranged
 by_cases q:b<0\/5<b
 rw[afz q]at w;rw[afy (by lia)];show dN Y (cN _ _ _ _ _ _ [~~~au (Y 27) aj code,~~~(.lst [.int a,.int b]),none]) _;rw[dM w];exact .no (C:=0) (by decide);rw[afy q]at w;rw[afz (by lia)];obtain⟨t,g,o,u⟩:=G.reg (i:=b.toNat) (by lia);have v:=g.r;have A:=g.c;have hs:=qw v (show t.c<=12 by lia);have x:jJ Y [t.e Y]=_:=Qm (Y:=Y) g.sz hs (by lia) (by lia);have l:=MT g.sz hs (by lia) (by lia);rw[Tb.vP]at l;have y:=(gT g.sz).2;rw[o,x]at w;show dN Y (cN _ _ _ _ _ _ [~~~au (Y 27) aj code,~~~(.lst [.int a,.int b]),none]) (s.put a.toNat (Vagram.kernel (s.get b.toNat)) [((Vagram.kernel (s.get b.toNat)).cols:Int)]);have B:(lR t.c (cD t.r t.c t.p).2.2).length<=t.c:=by have:=ait (λc=>!(cD t.r t.c t.p).2.2.contains c) (List.range t.c);rw[afN]at this;exact this
 rw[iz (ρ':=[~~~au (Y 27) aj code,~~~(.lst [.int a,.int b]),~~~eT Y t.c (lR t.c (cD t.r t.c t.p).2.2).length (DR t.c (cD t.r t.c t.p).2.2 (gS t.r t.c t.p))]) w,u,show Vagram.kernel t.m=_ from l];generalize lR t.c (cD t.r t.c t.p).2.2=f at*;refine jv d G (k:=a.toNat) (by lia) (by lia) (by lia) (λi E j F=>?_) ?_ (λtabs'=>?_) (by simp);unfold DR;split;exact y;split<;>decide;rw[cJ n];simp;show aa _ _ [~~~au (Y 27) tabs' code,pZ _ _ (~~~(.lst [.int a,.int b])),pZ _ _ (~~~eT Y t.c f.length (DR t.c (cD t.r t.c t.p).2.2 (gS t.r t.c t.p)))]=_;rw[show pZ (Y 27) (Y 19) (~~~eT Y t.c f.length (DR t.c (cD t.r t.c t.p).2.2 (gS t.r t.c t.p)))= ~~~eT Y t.c f.length (DR t.c (cD t.r t.c t.p).2.2 (gS t.r t.c t.p)) from afz (uJ d _ _ _)];simp;rfl
theorem Aq(d:rQ Y)(G:Good Y s aj code)(a b):dN Y (nt Y aj code [.lst [.int a,.int b]]) (Vagram.out s (.inverse a b)):=by
 show dN Y _ (Vagram.ranged a 0 5>>=λi=>Vagram.ranged b 0 5>>=λj=>Vagram.refuseIf (decide ((s.get j).rows≠(s.get j).cols)) (-8)>>=λ_=>match Vagram.inverse (s.get j)with
  |some x=>s.put i x [0]
  |none=>.error (-9))
 refine bS _ (g8 rfl rfl) λw H=>?_
 have he:=oX (ρ:=[~~~au (Y 27) aj code,~~~(.lst [.int a,.int b])]) (j:=1) (a:=b) G rfl rfl rfl;unfold Vagram.ranged;show dN Y (cS _ _ _ _ _ _ _ [~~~au (Y 27) aj code,~~~(.lst [.int a,.int b])]) _
 by_cases q:b<0\/5<b
 rw[afz q]at he;rw[afy (by lia),jw (e:=some (Y 0)) (by simp[he];rfl)];exact .no (C:=0) (by decide);rw[afy q]at he;rw[afz (by lia)];obtain⟨t,g,y,z⟩:=G.reg (i:=b.toNat) (by lia);have A:=g.r;have I:=g.c;rw[y]at he;have hs:=qw A (show t.r+t.r<=12 by lia);have f:gK Y [t.e Y]=_:=MR (Y:=Y) (by decide) g.sz hs (by lia) (by lia);show dN Y _ (Vagram.refuseIf (decide ((s.get b.toNat).rows≠(s.get b.toNat).cols)) (-8)>>=λ_=>match Vagram.inverse (s.get b.toNat)with
  |some x=>s.put a.toNat x [0]
  |none=>.error (-9))
 rw[z,show decide (t.m.rows≠t.m.cols)=decide (t.r≠t.c)from rfl];cases o:decide (t.r≠t.c)with
 |true=>rw[o]at f;rw[jw (e:=some (Y 4)) (by simp[he,f];rfl)];exact .no (C:=4) (by decide)
 |false=>
  rw[o]at f;have B:t.r=t.c:=by simpa using o
  have v:=AX (r:=t.r) (P:=t.p) (show 1<=2000 by decide) λi h j u=>g.sz i h j (by lia)
  rw[Tb.vP]at v;have E:Vagram.inverse t.m=Vagram.inverse (Ex.mk t.r t.r t.v):=by show Vagram.inverse (Ex.mk t.r t.c t.v)=_;rw[<-B]
  show dN Y _ (match Vagram.inverse t.m with
   |some x=>s.put a.toNat x [0]
   |none=>.error (-9))
  rw[E,v]
  by_cases n:Ir t.r t.p=List.range t.r
  rw[afz n];rw[show decide (Ir t.r t.p≠List.range t.r)=false by simp[n]]at f;show dN Y _ (s.put a.toNat (mk t.r t.r (vF (Ae t.r t.p))) [0]);have F:=(gT (rN (r:=t.r) (c:=t.r) (d:=t.r) (P:=t.p) (Q:=nT) (λi h j u=>g.sz i h j (show j<t.c by lia)) λi h j u=>(yJ i j).mono (show 1<=2000 by decide))).2;refine jv (l:=[0]) d G (k:=a.toNat) (by lia) (by lia) (by lia) (λi h j u=>F) ?_ (λ_=>rfl) (by simp);rw[cJ w];simp[he,f];rw[afy n];rw[show decide (Ir t.r t.p≠List.range t.r)=true by simp[n]]at f;rw[jw (e:=some (Y 7)) (by simp[he,f];rfl)];exact .no (C:=7) (by decide)
theorem D7(d:rQ Y)(G:Good Y s aj code)(a b c):dN Y (rq Y aj code [.lst [.int a,.int b,.int c]]) (Vagram.out s (.solve a b c)):=by
 show dN Y _ (Vagram.ranged a 0 5>>=λi=>Vagram.ranged b 0 5>>=λj=>Vagram.ranged c 0 5>>=λk=>Vagram.refuseIf (decide ((s.get j).rows≠(s.get k).rows)) (-8)>>=λ_=>match Vagram.solve (s.get j) (s.get k)with
  | .one x=>s.put i x [0]
  | .none=>.ok (s,[1])
  | .many x=>s.put i x [2])
 refine bS _ (g8 rfl rfl) λI a1=>bS _ (oY G rfl rfl rfl) λb0 b1=>bS _ (oY G rfl rfl rfl) λc0 c1=>?_
 obtain⟨t,n,N,S⟩:=G.reg (i:=b.toNat) (by lia);obtain⟨u,y,T,W⟩:=G.reg (i:=c.toNat) (by lia);have X:=n.r;have k1:=n.c;have r2:=y.r;have k2:=y.c;rw[N,T,S,W];rw[show decide (t.m.rows≠u.m.rows)=decide (t.r≠u.r)from rfl];show dN Y (cN _ _ _ _ _ _ [~~~au (Y 27) aj code,~~~(.lst [.int a,.int b,.int c]),~~~t.e Y,~~~u.e Y,none]) _
 by_cases q:t.r=u.r
 have z:∀i,i<t.r->∀j,j<u.c->sz (u.p i j) 2000:=λi hi j Z=>y.sz i (by lia) j Z
 have hs:=qw X (show t.c+u.c<=12 by lia);have h:dX Y [t.e Y,u.e Y]=_:=Lf (Y:=Y) (r':=u.r) n.sz z hs (by lia) (by lia) (by lia);have E:=Qn n.sz z hs (by lia) (by lia) (by lia);rw[Tb.vP,Tb.vP]at E;have A:Vagram.solve t.m u.m=Vagram.solve (Ex.mk t.r t.c t.v) (Ex.mk t.r u.c u.v):=by show Vagram.solve (Ex.mk t.r t.c t.v) (Ex.mk u.r u.c u.v)=_;rw[<-q]
 have rz:=(gT (rN n.sz z)).2;rw[show decide (t.r≠u.r)=false by simp[q]]at h|-;show dN Y _ (match Vagram.solve t.m u.m with
  | .one x=>s.put a.toNat x [0]
  | .none=>.ok (s,[1])
  | .many x=>s.put a.toNat x [2])
 rw[A,E];generalize hR:gS t.r (t.c+u.c) (fC t.c t.p u.p)=R at*;have B:∀i j,(R i j).2≠0:=λi j=>by rw[<-hR];exact rz
 generalize (cD t.r (t.c+u.c) (fC t.c t.p u.p)).2.2=f at*;cases F:f.any λx=>decide (t.c<=x)with
 |true=>
  rw[F]at h;rw[iz (ρ':=[~~~au (Y 27) aj code,~~~(.lst [.int a,.int b,.int c]),~~~t.e Y,~~~u.e Y,~~~.cK]) (by simp[h])];have r0:dH (JY (O 4)) (bF (aa (U (aG (.int 1)) af) dB)) bV [~~~au (Y 27) aj code,~~~(.lst [.int a,.int b,.int c]),~~~t.e Y,~~~u.e Y,~~~.cK]=.ok (.rt (.lst ([1].map D.int)) [~~~au (Y 27) aj code,~~~(.lst [.int a,.int b,.int c]),~~~t.e Y,~~~u.e Y,~~~.cK]):=by simp
  unfold cN;rw[r0,afz rfl,bq];show dN Y (qG (Y 27) (Y 19) aj code (.lst ([1].map D.int))) (Except.ok (s,[1]));unfold qG;rw[afz (gW _)];exact .ok G (by simp)
 |false=>
  rw[F]at h;rw[iz (ρ':=[~~~au (Y 27) aj code,~~~(.lst [.int a,.int b,.int c]),~~~t.e Y,~~~u.e Y,~~~Bs Y (eT Y t.c u.c (pN t.c f R)) (decide (f.length=t.c))]) (by simp[h])];rw[iz (ρ':=[~~~au (Y 27) aj code,~~~(.lst [.int a,.int b,.int c]),~~~t.e Y,~~~u.e Y,~~~Bs Y (eT Y t.c u.c (pN t.c f R)) (decide (f.length=t.c))]) (by simp[Bs])];have f1:fX (Y 23) "table" (Bs Y (eT Y t.c u.c (pN t.c f R)) (decide (f.length=t.c)))=.ok (eT Y t.c u.c (pN t.c f R)):=bW rfl;have w:fX (Y 23) "only" (Bs Y (eT Y t.c u.c (pN t.c f R)) (decide (f.length=t.c)))=.ok (.bl (decide (f.length=t.c))):=bW rfl;have kz:∀i,i<t.c->∀j,j<u.c->(pN t.c f R i j).2≠0:=λi _ j _=>by unfold pN;split;exact B _ _;decide
  have o:∀l,l=[if f.length=t.c then 0 else 2]->dN Y (cS (Y 27) (Y 19) (b8 Y) aj code (U (aL ay (O 1) (aG (.int 0))) (U (aB (Y 23) "table" (O 4)) af)) (aa (U (GX (zm (aB (Y 23) "only" (O 4))) (aG (.int 0)) (aG (.int 2))) af) dB) [~~~au (Y 27) aj code,~~~(.lst [.int a,.int b,.int c]),~~~t.e Y,~~~u.e Y,~~~Bs Y (eT Y t.c u.c (pN t.c f R)) (decide (f.length=t.c))]) (s.put a.toNat (mk t.c u.c (vF (pN t.c f R))) l):=λl H=>by
   refine jv d G (k:=a.toNat) (by lia) (by lia) (by lia) kz ?_ (λtabs'=>?_) (by rw[H];simp);rw[cJ I];simp[f1];show aa _ _ [~~~au (Y 27) tabs' code,pZ _ _ (~~~(.lst [.int a,.int b,.int c])),pZ _ _ (~~~t.e Y),pZ _ _ (~~~u.e Y),pZ _ _ (~~~Bs Y (eT Y t.c u.c (pN t.c f R)) (decide (f.length=t.c)))]=_;rw[show pZ (Y 27) (Y 19) (~~~Bs Y (eT Y t.c u.c (pN t.c f R)) (decide (f.length=t.c)))= ~~~Bs Y (eT Y t.c u.c (pN t.c f R)) (decide (f.length=t.c)) from afz (M6 d _ _ _ _),H]
   by_cases g:f.length=t.c
   rw[show decide (f.length=t.c)=true from af7 g]at w|-;simp[w,g];rw[show decide (f.length=t.c)=false from aga g]at w|-;simp[w,g]
  by_cases g:f.length=t.c
  rw[afz g];exact o [0] (by rw[afz g]);rw[afy g];exact o [2] (by rw[afy g])
 have bs:bZ Y [t.e Y,u.e Y]=_:=vd (Y:=Y) (r:=t.r) (c:=t.c) (r':=u.r) (d:=u.c) (P:=t.p) (Q:=u.p) (by lia) (by lia) (by lia);rw[show decide (t.r≠u.r)=true by simp[q]]at bs|-;have h:dX Y [t.e Y,u.e Y]=raises (Y 4):=by simp[dX,aA,iO,ai,bs]
 rw[dM (e:=some (Y 4)) (by simp[h];rfl)];exact .no (C:=4) (by decide)
open VagraLine (Line codeOf wellFrom well runFrom at_ fracsOf fracsTold)
def told(s:Vagram.State)(x:Except Int (List Int)):Except Int (Vagram.State×List Int):=x>>=λl=>.ok (s,l)
def Ar(x:Except Int b)(f):told s (x>>=f)=(x>>=λa=>told s (f a)):=by cases x<;>rfl
def M7(qs:List Q2):Vagram.tooHeavy (qs.map λp=>fr (vl p))=qs.any oW:=by unfold Vagram.tooHeavy;rw[agP];rfl
theorem M8(qs:List Q2):fracsTold (qs.map λp=>fr (vl p))=(qs.map settle).flatMap λp=>[p.1,p.2]:=by unfold fracsTold;rw[ahE,ahE];rfl
theorem LD(qs:List Q2):((qs.map settle).flatMap λp=>[p.1,p.2]).length=2*qs.length:=by
 induction qs with|nil=>rfl|cons p qs a=>rw[afR,aiS,afM,a];simp;lia
theorem uK{f:afw}{qs:List Q2}{head}(G:Good Y s aj code)(hz:∀p∈qs,p.2≠0)(c:qs.length<=100)(g:head.length<=100)(a:f ρ=(dh Y [.lst (qs.map eQ)]>>=λx=>DL.iV (.lst (head.map D.int)) x>>=λx=>.ok (.rt x ρ))):dN Y (jG (Y 27) (Y 19) aj code f ρ) (told s (Vagram.tell head (qs.map λp=>fr (vl p)))):=by
 have b:=Br (Y:=Y) (l:=qs) (by lia) hz;rw[b]at a;unfold Vagram.tell;rw[M7,M8];cases q:qs.any oW with|true=>rw[q]at a;rw[yS (e:=some (Y 8)) a];exact .no (C:=8) (by decide)|false=>rw[q,afy afJ,bq,rG _ _ (by rw[afB,afB,LD];lia),bq,<-agz]at a;exact yR (d:=.cK) G a (by rw[afM,LD];lia)
theorem BW{f}{g}{b}(a:b<0\/5<b->f ρ=raises (Y 0))(c:0<=b->b<=5->dN Y (jG (Y 27) (Y 19) aj code f ρ) (told s (g b.toNat))):dN Y (jG (Y 27) (Y 19) aj code f ρ) (told s (Vagram.ranged b 0 5>>=g)):=by
 unfold Vagram.ranged
 by_cases q:b<0\/5<b
 rw[afy (by omega),yS (a q)];exact .no (C:=0) (by decide);rw[afz (by omega)];exact c (by omega) (by omega)
theorem IY(d:rQ Y)(G:Good Y s aj code)(b):dN Y (wK Y aj code [.lst [.int b]]) (told s (Vagram.asking s (.det b))):=by
 show dN Y (jG _ _ _ _ _ [~~~au (Y 27) aj code,~~~.lst [.int b]]) (told s (Vagram.ranged b 0 5>>=λj=>Vagram.refuseIf (decide ((s.get j).rows≠(s.get j).cols)) (-8)>>=λ_=>Vagram.tell [0] [Vagram.det (s.get j)]));have he:=oX (ρ:=[~~~au (Y 27) aj code,~~~.lst [.int b]]) (j:=0) (a:=b) G rfl rfl rfl;refine BW (λq=>by rw[afz q]at he;simp[he]) λz b1=>?_
 rw[afy (by lia)]at he;obtain⟨t,f,o,u⟩:=G.reg (i:=b.toNat) (by lia);have l:=f.r;have A:=f.c;rw[o]at he;rw[u,show decide (t.m.rows≠t.m.cols)=decide (t.r≠t.c)from rfl];have h:1+t.r*(1+t.c*2000)<=134217728:=by
  have:t.r*(1+t.c*2000)<=6*12001:=agR l (by lia)
  lia
 have g:eX Y [t.e Y]=_:=DT (Y:=Y) f.sz (qw l (show t.c<=12 by lia)) h (by lia) (by lia);cases q:decide (t.r≠t.c)with
 |true=>rw[q]at g;rw[yS (e:=some (Y 4)) (by simp[he,g];rfl)];exact .no (C:=4) (by decide)
 |false=>
  rw[q]at g;have w:t.r=t.c:=by simpa using q
  have k:=Wm (n:=t.r) (P:=t.p) λi x j B=>f.sz i x j (by lia)
  rw[Tb.vP]at k;have e1:Vagram.det t.m=fr (vl (MV t.r t.p)):=by show Vagram.det (Ex.mk t.r t.c t.v)=_;rw[<-w,Ex.SM,k.1]
  show dN Y _ (told s (Vagram.tell [0] [Vagram.det t.m]));rw[e1];refine uK (qs:=[MV t.r t.p]) (head:=[0]) G (λp y=>by rw[agy.mp y];exact k.2) (by simp) (by simp) ?_;simp[he,g]
theorem D8(d:rQ Y)(G:Good Y s aj code)(b):dN Y (rA Y aj code [.lst [.int b]]) (told s (Vagram.asking s (.trace b))):=by
 show dN Y (jG _ _ _ _ _ [~~~au (Y 27) aj code,~~~.lst [.int b]]) (told s (Vagram.ranged b 0 5>>=λj=>Vagram.refuseIf (decide ((s.get j).rows≠(s.get j).cols)) (-8)>>=λ_=>Vagram.tell [0] [Vagram.trace (s.get j)]));have he:=oX (ρ:=[~~~au (Y 27) aj code,~~~.lst [.int b]]) (j:=0) (a:=b) G rfl rfl rfl;refine BW (λq=>by rw[afz q]at he;simp[he]) λx b1=>?_
 rw[afy (by lia)]at he;obtain⟨t,f,k,l⟩:=G.reg (i:=b.toNat) (by lia);have y:=f.r;have z:=f.c;rw[k]at he;rw[l,show decide (t.m.rows≠t.m.cols)=decide (t.r≠t.c)from rfl];have g:kW Y [t.e Y]=_:=TH (Y:=Y) f.sz (by lia) (by lia) (by lia);cases q:decide (t.r≠t.c)with
 |true=>rw[q]at g;rw[yS (e:=some (Y 4)) (by simp[he,g];rfl)];exact .no (C:=4) (by decide)
 |false=>
  rw[q]at g;have o:t.r=t.c:=by simpa using q
  have h:=Qs (n:=t.r) (P:=t.p) λi u j A=>f.sz i u j (by lia)
  rw[Tb.vP]at h;have e1:Vagram.trace t.m=fr (vl (Z4 t.r t.p)):=by show Vagram.trace (Ex.mk t.r t.c t.v)=_;rw[<-o,Ex.KI _ _ _ (afI _),h.1]
  show dN Y _ (told s (Vagram.tell [0] [Vagram.trace t.m]));rw[e1];refine uK (qs:=[Z4 t.r t.p]) (head:=[0]) G (λp w=>by rw[agy.mp w];exact h.2) (by simp) (by simp) ?_;simp[he,g]
theorem OL{K}:∀f k B w,(Uk n A K f k B w).length=f|0,_,_,_=>rfl|f+1,k,B,w=>by show(Uk n A K f (k+1) _ _).length+1=f+1;rw[OL f]
def Wz(n)(P):(Ul n P).length=n+1:=by unfold Ul;rw[af5,OL]
theorem EV(d:rQ Y)(G:Good Y s aj code)(b):dN Y (ud Y aj code [.lst [.int b]]) (told s (Vagram.asking s (.char b))):=by
 show dN Y (cN _ _ _ _ _ _ [~~~au (Y 27) aj code,~~~.lst [.int b],none]) (told s (Vagram.ranged b 0 5>>=λj=>Vagram.refuseIf (decide ((s.get j).rows≠(s.get j).cols)) (-8)>>=λ_=>Vagram.tell [((Vagram.charNumbers (s.get j)).length:Int)] (Vagram.charNumbers (s.get j))));have w:=BV (i:=2) (h:=bT Y) (ρ:=[~~~au (Y 27) aj code,~~~.lst [.int b],none]) (j:=0) (a:=b) G rfl rfl rfl;unfold Vagram.ranged
 by_cases l:b<0\/5<b
 rw[afz l]at w;rw[afy (by lia),dM w];exact .no (C:=0) (by decide);rw[afy l]at w;rw[afz (by lia)];obtain⟨t,f,o,u⟩:=G.reg (i:=b.toNat) (by lia);have g:=f.r;have x:=f.c;rw[o]at w;show dN Y _ (told s (Vagram.refuseIf (decide ((s.get b.toNat).rows≠(s.get b.toNat).cols)) (-8)>>=λ_=>Vagram.tell [((Vagram.charNumbers (s.get b.toNat)).length:Int)] (Vagram.charNumbers (s.get b.toNat))));rw[u,show decide (t.m.rows≠t.m.cols)=decide (t.r≠t.c)from rfl];have B:=Gq g x;have m1:t.r*(2000+(1+t.r*t.c*2000)+t.r+t.r+1)<=6*80000:=agR g (by lia);have E:t.r*(1+t.r*t.c*2000)<=6*80000:=agR g (by lia);have y:bT Y [t.e Y]=_:=IC (Y:=Y) f.sz (by lia) (by lia) (by lia) (by lia) (by lia);rw[y]at w;cases q:decide (t.r≠t.c)with
 |true=>rw[q]at w;rw[dM w];exact .no (C:=4) (by decide)
 |false=>
  rw[q]at w;have z:t.r=t.c:=by simpa using q
  have k:=TM (n:=t.r) (P:=t.p) λi A j F=>f.sz i A j (by lia)
  rw[Tb.vP]at k;have e1:Vagram.charNumbers t.m=(Ul t.r t.p).map λp=>fr (vl p):=by show Vagram.charNumbers (Ex.mk t.r t.c t.v)=_;rw[<-z,k.1]
  show dN Y _ (told s (Vagram.tell [((Vagram.charNumbers t.m).length:Int)] (Vagram.charNumbers t.m)));rw[e1,iz (ρ':=[~~~au (Y 27) aj code,~~~.lst [.int b],~~~.lst ((Ul t.r t.p).map eQ)]) w];refine uK (qs:=Ul t.r t.p) (head:=[(((Ul t.r t.p).map λp=>fr (vl p)).length:Int)]) G k.2 (by rw[Wz];lia) (by simp) ?_;simp
theorem QB(r c)(v):fracsTold (mk r c v).data.flatten=(dz r c λi j=>lw (v i j)).flatMap λp=>[p.1,p.2]:=by show fracsTold ((List.range r).map λi=>(List.range c).map λj=>fr (v i j)).flatten=_;unfold fracsTold dz;rw[<-List.flatMap_def,aiO,aiO];congr 1;funext i;rw[ahE,ahE];rfl
theorem Gr(qs:List Q2):(qs.flatMap λp=>[p.1,p.2]).length=2*qs.length:=by
 induction qs with|nil=>rfl|cons p qs a=>rw[aiS,afM,a];simp;lia
theorem IZ(d:rQ Y)(G:Good Y s aj code)(b:Int):dN Y (wJ Y aj code [.lst [.int b]]) (told s (Vagram.asking s (.get b))):=by
 show dN Y (cN _ _ _ _ _ _ [~~~au (Y 27) aj code,~~~.lst [.int b],none]) (told s (Vagram.ranged b 0 5>>=λj=>.ok (((s.get j).rows:Int)::((s.get j).cols:Int)::fracsTold (s.get j).data.flatten)));rw[Ar];refine bS _ (oY G rfl rfl rfl) λz b1=>?_
 obtain⟨t,f,h,k⟩:=G.reg (i:=b.toNat) (by lia);have n:=f.r;have o:=f.c;rw[h,k];have q:dc Y [t.e Y]=_:=jE (Y:=Y) (r:=t.r) (c:=t.c) (P:=t.p) (by lia) (by lia);have el:=jj t.r t.c t.p;have A:=Gq n o;have u:=Og (Y:=Y) (l:=dz t.r t.c t.p) (by lia);have e1:fracsTold t.m.data.flatten=(dz t.r t.c t.p).flatMap λp=>[p.1,p.2]:=QB t.r t.c t.v
 rw[e1];refine yR (d:=.cK) G ?_ (by rw[af5,af5,Gr,el];lia);have w:fX (Y 19) "height" (t.e Y)=.ok (.int t.r):=bW rfl;have x:fX (Y 19) "width" (t.e Y)=.ok (.int t.c):=bW rfl;show bF _ [~~~au (Y 27) aj code,~~~.lst [.int b],~~~t.e Y]=_;generalize y:dz t.r t.c t.p=g at*;have a:=rG [D.int t.r,D.int t.c] ((g.flatMap λp=>[p.1,p.2]).map D.int) (by rw[afB,Gr];simp;lia);generalize (g.flatMap λp=>[p.1,p.2])=B at*;simp[w,x,q,u,a];exact⟨rfl,rfl⟩
theorem M9(r c)(v):(!Vagram.isWhole (mk r c v))=mO r c λi j=>lw (v i j):=by
 have e:Vagram.isWhole (mk r c v)=((List.range r).map λi=>(List.range c).map λj=>fr (v i j)).all λr=>r.all λx=>decide (x.den=1):=rfl
 rw[e];unfold mO dz;rw[agJ];simp[lw,fr];constructor;rintro⟨i,a,j,b,h⟩;exact⟨i,a,j,b,by lia⟩;rintro⟨i,a,j,b,h⟩;exact⟨i,a,j,b,by lia⟩
theorem OM:∀f k W p,(mL n f k W p).2.length<=f
 |0,_,_,_=>afI _
 |f+1,k,W,p=>by
  unfold mL;cases Ex.jD n W k k with
  |none=>show 1<=f+1;lia
  |some i=>
   have:=OM (n:=n) f (k+1) (yK (Ex.aE W k i) k p) (Ex.aE W k i k k);show(mL n f (k+1) (yK (Ex.aE W k i) k p) (Ex.aE W k i k k)).2.length+1<=f+1
   lia
theorem ZG(ch):(if Jb ch<0 then(1:Int)else 0)=ch.fmod 2:=by
 unfold Jb;rw[agL _ (by decide)]
 by_cases h:ch%2=1
 rw[afz h,afz (by decide)];lia;rw[afy h,afy (by decide)];lia
theorem As(d:rQ Y)(G:Good Y s aj code)(b):dN Y (nu Y aj code [.lst [.int b]]) (told s (Vagram.asking s (.leading b))):=by
 show dN Y (cN _ _ _ _ _ _ [~~~au (Y 27) aj code,~~~.lst [.int b],none]) (told s (Vagram.ranged b 0 5>>=λj=>Vagram.refuseIf (decide ((s.get j).rows≠(s.get j).cols)) (-8)>>=λ_=>Vagram.refuseIf (!Vagram.isWhole (s.get j)) (-9)>>=λ_=>.ok ((if(Vagram.leading (s.get j)).1<0 then 1 else 0)::((Vagram.leading (s.get j)).2.length:Int)::(Vagram.leading (s.get j)).2)));have w:=BV (i:=2) (h:=dQ Y) (ρ:=[~~~au (Y 27) aj code,~~~.lst [.int b],none]) (j:=0) (a:=b) G rfl rfl rfl;unfold Vagram.ranged
 by_cases o:b<0\/5<b
 rw[afz o]at w;rw[afy (by lia),dM w];exact .no (C:=0) (by decide);rw[afy o]at w;rw[afz (by lia)];obtain⟨t,k,z,A⟩:=G.reg (i:=b.toNat) (by lia);have N:=k.r;have Q:=k.c;rw[z]at w;show dN Y _ (told s (Vagram.refuseIf (decide ((s.get b.toNat).rows≠(s.get b.toNat).cols)) (-8)>>=λ_=>Vagram.refuseIf (!Vagram.isWhole (s.get b.toNat)) (-9)>>=λ_=>.ok ((if(Vagram.leading (s.get b.toNat)).1<0 then 1 else 0)::((Vagram.leading (s.get b.toNat)).2.length:Int)::(Vagram.leading (s.get b.toNat)).2)));rw[A,show decide (t.m.rows≠t.m.cols)=decide (t.r≠t.c)from rfl,show(!Vagram.isWhole t.m)=mO t.r t.c t.p from M9 t.r t.c t.v];have B:bX (2000+1) (t.r+1)<=134217728:=af9 (yO (show t.r+1<=7 by lia)) (by decide);have F:dQ Y [t.e Y]=_:=DU (Y:=Y) (by decide) k.sz B (by lia) (by lia);rw[F]at w;cases q:decide (t.r≠t.c)with
 |true=>rw[q]at w;rw[dM w];exact .no (C:=4) (by decide)
 |false=>
  rw[q]at w;have u:t.r=t.c:=by simpa using q
  cases f:mO t.r t.c t.p with
  |true=>rw[f]at w;rw[dM w];exact .no (C:=7) (by decide)
  |false=>
   rw[f]at w;have x:=TF (r:=t.r) (P:=t.p) (by rw[<-u]at f;exact f);rw[Tb.vP]at x;have e1:Vagram.leading t.m=Vagram.leading (Ex.mk t.r t.r t.v):=by show Vagram.leading (Ex.mk t.r t.c t.v)=_;rw[<-u]
   have R:=OM (n:=t.r) t.r 0 (λi j=>fY 1 (t.p i j)) 1;show dN Y _ (told s (.ok ((if(Vagram.leading t.m).1<0 then 1 else 0)::((Vagram.leading t.m).2.length:Int)::(Vagram.leading t.m).2)));rw[e1,x];generalize mL t.r t.r 0 (λi j=>fY 1 (t.p i j)) 1=E at*;rw[iz (ρ':=[~~~au (Y 27) aj code,~~~.lst [.int b],~~~Wk Y E.1 E.2]) w];have H:fX (Y 31) "changes" (Wk Y E.1 E.2)=.ok (.int E.1):=bW rfl;have I:fX (Y 31) "numbers" (Wk Y E.1 E.2)=.ok (.lst (E.2.map D.int)):=bW rfl;refine yR (d:=.cK) G ?_ (by simp;lia);show bF _ [~~~au (Y 27) aj code,~~~.lst [.int b],~~~Wk Y E.1 E.2]=_;have y:=MN E.1 2 (by decide);rw[<-ZG]at y;have l:=rG [D.int (if Jb E.1<0 then 1 else 0),D.int (E.2.length:Int)] (E.2.map D.int) (by rw[afB];simp;lia);generalize (if Jb E.1<0 then(1:Int)else 0)=g at*;simp[H,I,y,l]
def ZH(h:lw x=lw y):x=y:=by rw[<-cR x,h,cR]
theorem ZI(t u:Tb):decide (t.m=u.m)=(decide (t.r=u.r)&&(decide (t.c=u.c)&&DI t.r t.c t.p u.p)):=by
 rw[agJ,agf,afL,afL,agf,agf];constructor;intro h;have a:t.r=u.r:=agg Vagram.Mat.rows h;have b:t.c=u.c:=agg Vagram.Mat.cols h;refine⟨a,b,?_⟩;have h:Ex.mk t.r t.c t.v=Ex.mk u.r u.c u.v:=h;rw[<-a,<-b]at h;unfold DI;rw[agC];intro i d;rw[agC];intro j e;rw[agf];show lw _=lw _;rw[Ex.Zc h (afG.mp d) (afG.mp e)];rintro⟨a,b,f⟩;show Ex.mk t.r t.c t.v=Ex.mk u.r u.c u.v;rw[<-a,<-b];refine Ex.d7 λi d j e=>?_
 unfold DI at f;have:=agC.mp (agC.mp f i (afG.mpr d)) j (afG.mpr e);rw[agf]at this;exact ZH this
theorem EW(d:rQ Y)(G:Good Y s aj code)(a b:Int):dN Y (ue Y aj code [.lst [.int a,.int b]]) (told s (Vagram.asking s (.same a b))):=by
 show dN Y (jG _ _ _ _ _ [~~~au (Y 27) aj code,~~~(.lst [.int a,.int b])]) (told s (Vagram.ranged a 0 5>>=λi=>Vagram.ranged b 0 5>>=λj=>.ok [if s.get i=s.get j then 1 else 0]));have f:=oX (ρ:=[~~~au (Y 27) aj code,~~~(.lst [.int a,.int b])]) (j:=0) (a:=a) G rfl rfl rfl;have g:=oX (ρ:=[~~~au (Y 27) aj code,~~~(.lst [.int a,.int b])]) (j:=1) (a:=b) G rfl rfl rfl;refine BW (λq=>by rw[afz q]at f;simp[f]) λv w=>?_
 rw[afy (by lia)]at f;refine BW (λq=>by rw[afz q]at g;simp[f,g]) λx b1=>?_
 rw[afy (by lia)]at g;obtain⟨t,y,k,l⟩:=G.reg (i:=a.toNat) (by lia);obtain⟨u,z,n,o⟩:=G.reg (i:=b.toNat) (by lia);rw[k]at f;rw[n]at g;rw[l,o];have h:jy Y [t.e Y,u.e Y]=_:=Wh (Y:=Y) t.r t.c u.r u.c t.p u.p;rw[<-ZI]at h;refine yR (d:=.cK) G ?_ (by simp)
 by_cases q:t.m=u.m
 rw[af7 q]at h;simp[f,g,h,q];rw[aga q]at h;simp[f,g,h,q]
theorem EX(d:rQ Y)(G:Good Y s aj code)(a b i j h w):dN Y (tZ Y aj code [.lst [.int a,.int b,.int i,.int j,.int h,.int w]]) (Vagram.out s (.part a b i j h w)):=by
 show dN Y _ (Vagram.ranged a 0 5>>=λr=>Vagram.ranged b 0 5>>=λp=>Vagram.ranged i 0 6>>=λi=>Vagram.ranged j 0 6>>=λj=>Vagram.ranged h 0 6>>=λh=>Vagram.ranged w 0 6>>=λw=>Vagram.refuseIf (decide ((s.get p).rows<i+h)||decide ((s.get p).cols<j+w)) (-8)>>=λ_=>s.put r (Vagram.part (s.get p) i j h w) [0]);refine bS _ (g8 rfl rfl) λT Z=>bS _ (oY G rfl rfl rfl) λb0 b1=>?_
 obtain⟨t,E,W,X⟩:=G.reg (i:=b.toNat) (by lia);have r1:=E.r;have c1:=E.c;rw[W,X];show dN Y (cN _ _ _ _ _ _ [~~~au (Y 27) aj code,~~~(.lst [.int a,.int b,.int i,.int j,.int h,.int w]),~~~t.e Y,none]) _;have n:cutD [.int a,.int b,.int i,.int j,.int h,.int w] (some 2) none=[.int i,.int j,.int h,.int w]:=rfl;have g:∀z,bO Y [.int z,.int 0,.int 6]=if z<0\/6<z then raises (Y 0)else .ok .cK:=λz=>kq z 0 6
 by_cases F:i<0\/6<i
 have:=g i;rw[afz F]at this;rw[dM (e:=some (Y 0)) (by simp[n,this];rfl)];unfold Vagram.ranged;rw[afy (by lia)];exact .no (C:=0) (by decide);have o:=g i;rw[afy F]at o
 by_cases H:j<0\/6<j
 have:=g j;rw[afz H]at this;rw[dM (e:=some (Y 0)) (by simp[n,o,this];rfl)];unfold Vagram.ranged;rw[afz (by lia),afy (by lia)];exact .no (C:=0) (by decide);have u:=g j;rw[afy H]at u
 by_cases I:h<0\/6<h
 have:=g h;rw[afz I]at this;rw[dM (e:=some (Y 0)) (by simp[n,o,u,this];rfl)];unfold Vagram.ranged;rw[afz (by lia),afz (by lia),afy (by lia)];exact .no (C:=0) (by decide);have B:=g h;rw[afy I]at B
 by_cases N:w<0\/6<w
 have:=g w;rw[afz N]at this;rw[dM (e:=some (Y 0)) (by simp[n,o,u,B,this];rfl)];unfold Vagram.ranged;rw[afz (by lia),afz (by lia),afz (by lia),afy (by lia)];exact .no (C:=0) (by decide);have Q:=g w;rw[afy N]at Q;rw[iz (ρ':=[~~~au (Y 27) aj code,~~~(.lst [.int a,.int b,.int i,.int j,.int h,.int w]),~~~t.e Y,~~~.int w]) (by simp[n,o,u,B,Q])];unfold Vagram.ranged;rw[afz (by lia),afz (by lia),afz (by lia),afz (by lia)];obtain⟨i,rfl⟩:∃h:Nat,i=(h:Int):=⟨i.toNat,(cJ (by lia)).symm⟩;obtain⟨j,rfl⟩:∃h:Nat,j=(h:Int):=⟨j.toNat,(cJ (by lia)).symm⟩;obtain⟨h,rfl⟩:∃z:Nat,h=(z:Int):=⟨h.toNat,(cJ (by lia)).symm⟩;obtain⟨w,rfl⟩:∃h:Nat,w=(h:Int):=⟨w.toNat,(cJ (by lia)).symm⟩;have A:jH Y [t.e Y,.int (i:Int),.int (j:Int),.int (h:Int),.int (w:Int)]=_:=Oe (Y:=Y) (r:=t.r) (c:=t.c) (P:=t.p) i j h w (by lia) (by lia);show dN Y _ (Vagram.refuseIf (decide (t.r<(i:Int).toNat+(h:Int).toNat)||decide (t.c<(j:Int).toNat+(w:Int).toNat)) (-8)>>=λ_=>s.put a.toNat (Vagram.part t.m (i:Int).toNat (j:Int).toNat (h:Int).toNat (w:Int).toNat) [0]);rw[agd,agd,agd,agd];have R:∀(a b c d e f:D)l,l6 (a::b::c::d::e::f::l) 5=.ok f:=λa b c d e f l=>sf _ 5 rfl
 have S:∀(a b c d e:D)l,l6 (a::b::c::d::e::l) 4=.ok e:=λa b c d e l=>sf _ 4 rfl
 cases q:(decide (t.r<i+h)||decide (t.c<j+w))with
 |true=>rw[q]at A;rw[jw (e:=some (Y 4)) (by simp[S,R,A];rfl)];exact .no (C:=4) (by decide)
 |false=>
  rw[q]at A;rw[agB]at q;have q1:¬t.r<i+h:=by simpa using q.1
  have q2:¬t.c<j+w:=by simpa using q.2
  show dN Y _ (s.put a.toNat (Vagram.part t.m i j h w) [0]);rw[show Vagram.part t.m i j h w=mk h w (vF λx y=>t.p (i+x) (j+y))by show Vagram.part (Ex.mk t.r t.c t.v) i j h w=_;rw[Ex.N4 _ (by lia) (by lia)];exact Ex.d7 λx _ y _=>(cR _).symm]
  refine jv (l:=[0]) d G (k:=a.toNat) (by lia) (by lia) (by lia) (λi _ j _=>bR _) ?_ (λ_=>rfl) (by simp);rw[cJ T];simp[S,R,A]
theorem EY(d:rQ Y)(G:Good Y s aj code)(a b)(ns os)(B:ns.length<=400)(r:os.length<=100):dN Y (tV Y aj code [.lst [.int a,.int b,.lst (ns.map D.int),.lst (os.map D.int)]]) (Vagram.out s (.code a b ns os)):=by
 show dN Y _ (Vagram.ranged a 1 4>>=λn=>Vagram.ranged b 0 4>>=λm=>match codeOf ns.length ns with
  |none=>.error (-2)
  |some c=>Vagram.refuseIf (decide (40<c.length)) (-7)>>=λ_=>Vagram.refuseIf (!well (n+m) c) (-3)>>=λ_=>Vagram.outsOf c n os>>=λo=>.ok ({s with prog:=⟨n,m,c,o⟩},[(c.length:Int)]))
 refine bS _ (yQ rfl rfl) λE F=>bS _ (yQ rfl rfl) λH b1=>?_
 obtain⟨n,rfl⟩:∃h:Nat,a=(h:Int):=⟨a.toNat,(cJ (by omega)).symm⟩;obtain⟨m,rfl⟩:∃h:Nat,b=(h:Int):=⟨b.toNat,(cJ (by omega)).symm⟩;rw[agd,agd];have f:=Wu (Y:=Y) (ns:=ns) (os:=os) (n:=n) (m:=m) (by omega) (by omega);have e:=DW ns.length ns (afI _);rw[A4 (ns.length+1) ns ns.length (by omega) (afI _)]at f;show dN Y (mZ _ _ _ _ _ [~~~au (Y 27) aj code,~~~(.lst [.int (n:Int),.int (m:Int),.lst (ns.map D.int),.lst (os.map D.int)])]) _;have ev:∀z,g9 Y [.int (n:Int),.int (m:Int),.lst (ns.map D.int),.lst (os.map D.int)]=z->aa (U (aL ay (O 1) (aG (.int 0))) (U (aL ay (O 1) (aG (.int 1))) (U (aL ay (O 1) (aG (.int 2))) (U (aL ay (O 1) (aG (.int 3))) af)))) (ah 4 (g9 Y)) [~~~au (Y 27) aj code,~~~(.lst [.int (n:Int),.int (m:Int),.lst (ns.map D.int),.lst (os.map D.int)])]=z:=λz t=>by simp[t]
 have i:∀C,g9 Y [.int (n:Int),.int (m:Int),.lst (ns.map D.int),.lst (os.map D.int)]=raises C->mZ (Y 27) (Y 19) aj (aa (U (aL ay (O 1) (aG (.int 0))) (U (aL ay (O 1) (aG (.int 1))) (U (aL ay (O 1) (aG (.int 2))) (U (aL ay (O 1) (aG (.int 3))) af)))) (ah 4 (g9 Y))) (aa (U (aa (U (aB (Y 17) "lines" (aB (Y 27) "code" (O 0))) af) iw) af) dB) [~~~au (Y 27) aj code,~~~(.lst [.int (n:Int),.int (m:Int),.lst (ns.map D.int),.lst (os.map D.int)])]=raises C:=λC u=>by unfold mZ;rw[ev _ u];rfl
 cases e1:dw ns.length ns with
 |none=>
  rw[e1]at e f;cases j:codeOf ns.length ns with|some c=>rw[j]at e;exact e.elim|none=>rw[i _ f];exact .no (C:=1) (by decide)
 |some rs=>
  rw[e1]at e f;cases j:codeOf ns.length ns with
  |none=>rw[j]at e;exact e.elim
  |some g=>
   rw[j]at e;have e:Lp rs g:=e;have f:g9 Y [.int (n:Int),.int (m:Int),.lst (ns.map D.int),.lst (os.map D.int)]=if 40<rs.length then raises (Y 2)else if gq ((n+m:Nat):Int) 0 rs then raises (Y 3)else if mP (n:Int) rs.length os then raises (Y 1)else .ok (cU Y n m rs os):=f
   show dN Y _ (Vagram.refuseIf (decide (40<g.length)) (-7)>>=λ_=>Vagram.refuseIf (!well (n+m) g) (-3)>>=λ_=>Vagram.outsOf g n os>>=λo=>.ok ({s with prog:=⟨n,m,g,o⟩},[(g.length:Int)]));rw[<-e.len,Qw,<-e.len,show(!well (n+m) g)=gq ((n+m:Nat):Int) 0 rs from(Gk e 0).symm]
   by_cases k:40<rs.length
   rw[afz k]at f;rw[i _ f,af7 k];exact .no (C:=2) (by decide);rw[afy k]at f;rw[aga k];cases p:gq ((n+m:Nat):Int) 0 rs with
   |true=>rw[p]at f;rw[i _ f];exact .no (C:=3) (by decide)
   |false=>
    rw[p]at f;cases q:mP (n:Int) rs.length os with
    |true=>rw[q]at f;rw[i _ f];exact .no (C:=1) (by decide)
    |false=>
     rw[q]at f;have f:g9 Y [.int (n:Int),.int (m:Int),.lst (ns.map D.int),.lst (os.map D.int)]=.ok (cU Y n m rs os):=f;show dN Y _ (.ok ({s with prog:=⟨n,m,g,os.map Int.toNat⟩},[(rs.length:Int)]));have v:well (n+m) g=true:=by have:(!well (n+m) g)=gq ((n+m:Nat):Int) 0 rs:=(Gk e 0).symm;rw[p]at this;simpa using this
     have l:=q;unfold mP at l;rw[agB]at l;have w:os.length=n:=by have:=l.1;simp at this;omega
     have C:gw n m rs g os:=⟨e,v,by omega,w,λo r=>by have:=agb.mp l.2 o r;simp at this;omega,by omega,by omega⟩
     have x:Good Y {s with prog:=⟨n,m,g,os.map Int.toNat⟩} aj (cU Y n m rs os):=⟨G.ex,n,m,rs,g,os,rfl,rfl,C⟩;unfold mZ;rw[ev _ f,bq,afz (A8 d _ _ _ _)];unfold VE;rw[afz G.head];have y:fX (Y 27) "code" (au (Y 27) aj (cU Y n m rs os))=.ok (cU Y n m rs os):=bW rfl;have A:aa (U (aa (U (aB (Y 17) "lines" (aB (Y 27) "code" (O 0))) af) iw) af) dB (om (Y 27) (Y 19) (au (Y 27) aj (cU Y n m rs os)) [~~~au (Y 27) aj code,~~~(.lst [.int (n:Int),.int (m:Int),.lst (ns.map D.int),.lst (os.map D.int)])])=.ok (.lst ([(rs.length:Int)].map D.int)):=by unfold om;simp[y]
     rw[A];show dN Y (qG (Y 27) (Y 19) aj (cU Y n m rs os) (.lst ([(rs.length:Int)].map D.int))) _;unfold qG;rw[afz (gW _)];exact .ok x (by simp)
theorem yT(d:rQ Y)(G:Good Y s aj code)(a)(xs pp)(u:∀z∈xs,bz z 60)(j:∀z∈pp,bz z 60):dN Y (lW Y aj code [.lst [.int a,.lst (xs.map D.int),.lst (pp.map D.int)]]) (told s (Vagram.asking s (.residual a xs pp))):=by
 show dN Y _ (told s (Vagram.ranged a 0 1>>=λk=>s.place xs pp>>=λy=>Vagram.tell [((s.prog.residual k y.1 y.2).length:Int)] (s.prog.residual k y.1 y.2)));rw[Ar];refine bS _ (IT rfl rfl) λB E=>?_
 obtain⟨k,rfl⟩:∃h:Nat,a=(h:Int):=⟨a.toNat,(cJ (by lia)).symm⟩;rw[agd];obtain⟨n,m,F,r,os,l,t,C⟩:=G.cd;show dN Y (cN _ _ _ _ _ _ [~~~au (Y 27) aj code,~~~(.lst [.int (k:Int),.lst (xs.map D.int),.lst (pp.map D.int)]),none]) _;have o:fX (Y 27) "code" (au (Y 27) aj code)=.ok code:=bW rfl;have H:=C.n4;rcases An (Y:=Y) C (k:Int) s t u j with⟨g,f⟩|⟨g,f⟩|⟨b,c,g,f,T⟩;rw[<-l]at f;rw[g,dM (e:=some (Y 1)) (by simp[o,f];rfl)];exact .no (C:=1) (by decide);rw[<-l]at f;rw[g,dM (e:=some (Y 5)) (by simp[o,f];rfl)];exact .no (C:=5) (by decide);have q:=A7 (Y:=Y) C T (show k<=1 by lia);have v:=OH C T (show k<=1 by lia);rw[<-l]at f q;rw[g,t];show dN Y _ (told s (Vagram.tell [(((OE n m r os).residual k ((b.take n).map fr) (c.map fr)).length:Int)] ((OE n m r os).residual k ((b.take n).map fr) (c.map fr))));have e1:((List.range n).map λi=>fr (vl (nZ k os b c i)))=(((List.range n).map (nZ k os b c)).map λp=>fr (vl p)):=by rw[afS];rfl
 have w:((List.range n).map λi=>eQ (nZ k os b c i))=((List.range n).map (nZ k os b c)).map eQ:=by rw[afS];rfl
 rw[w]at q;rw[v,e1];have x:∀p∈(List.range n).map (nZ k os b c),p.2≠0:=λp j=>by obtain⟨i,A,rfl⟩:=af6.mp j;exact(OG C T k (afG.mp A)).z
 have I:((List.range n).map (nZ k os b c)).length=n:=by simp
 generalize (List.range n).map (nZ k os b c)=qs at*;rw[iz (ρ':=[~~~au (Y 27) aj code,~~~(.lst [.int (k:Int),.lst (xs.map D.int),.lst (pp.map D.int)]),~~~.lst (qs.map eQ)]) (by simp[o,f,q])];refine uK (qs:=qs) (head:=[((qs.map λp=>fr (vl p)).length:Int)]) G x (by lia) (by simp) ?_;simp
theorem yU{n m k}{rs}{c}{os}{a b}(C:gw n m rs c os)(T:yN n m c rs.length a b)(d:k<=1)(e:s.prog=OE n m c os):s.through k ((a.take n).map fr) (b.map fr)=if pO n k os a b then .error (-10)else if Lz n m k os c b then .error (-9)else .ok (mk n m (vF (uI n m k os c b))):=by
 unfold Vagram.State.through;rw[e,M3 C T d,Wy C T d];cases pO n k os a b with
 |true=>rfl
 |false=>
  cases Lz n m k os c b with|true=>rfl|false=>rfl
theorem yV(d:rQ Y)(G:Good Y s aj code)(r a)(xs pp)(x:∀z∈xs,bz z 60)(A:∀z∈pp,bz z 60):dN Y (lX Y aj code [.lst [.int r,.int a,.lst (xs.map D.int),.lst (pp.map D.int)]]) (Vagram.out s (.implicit r a xs pp)):=by
 show dN Y _ (Vagram.ranged r 0 5>>=λi=>Vagram.ranged a 0 1>>=λk=>s.place xs pp>>=λy=>s.through k y.1 y.2>>=λD=>s.put i D [0]);refine bS _ (g8 rfl rfl) λB I=>bS _ (IT rfl rfl) λN P=>?_
 obtain⟨k,rfl⟩:∃h:Nat,a=(h:Int):=⟨a.toNat,(cJ (by lia)).symm⟩;rw[agd];obtain⟨n,m,Q,t,os,q,u,C⟩:=G.cd;show dN Y (cS _ _ _ _ _ _ _ [~~~au (Y 27) aj code,~~~(.lst [.int r,.int (k:Int),.lst (xs.map D.int),.lst (pp.map D.int)])]) _;have f:fX (Y 27) "code" (au (Y 27) aj code)=.ok code:=bW rfl;have R:=C.n4;have S:=C.m4;rcases An (Y:=Y) C (k:Int) s u x A with⟨g,b⟩|⟨g,b⟩|⟨o,p,g,b,T⟩;rw[<-q]at b;rw[g,jw (e:=some (Y 1)) (by simp[f,b];rfl)];exact .no (C:=1) (by decide);rw[<-q]at b;rw[g,jw (e:=some (Y 5)) (by simp[f,b];rfl)];exact .no (C:=5) (by decide);have c:=LA (Y:=Y) C T (show k<=1 by lia);have E:=yU (s:=s) C T (show k<=1 by lia) u;rw[<-q]at b c;rw[g];show dN Y _ (s.through k ((o.take n).map fr) (p.map fr)>>=λD=>s.put r.toNat D [0]);rw[E];cases v:pO n k os o p with
 |true=>rw[v]at c;rw[jw (e:=some (Y 6)) (by simp[f,b,c];rfl)];exact .no (C:=6) (by decide)
 |false=>
  rw[v]at c;cases w:Lz n m k os t p with|true=>rw[w]at c;rw[jw (e:=some (Y 7)) (by simp[f,b,c];rfl)];exact .no (C:=7) (by decide)|false=>rw[w]at c;show dN Y _ (s.put r.toNat (mk n m (vF (uI n m k os t p))) [0]);refine jv (l:=[0]) d G (k:=r.toNat) (by lia) (by lia) (by lia) (λi F j H=>(OI C T k i F j H).z) ?_ (λ_=>rfl) (by simp);rw[cJ B];simp[f,b,c]
def T6(c)(P):dz 1 c P=(List.range c).map (P 0):=by unfold dz;show((List.range c).map (P 0))++[]=_;rw[agh]
theorem EZ(d:rQ Y)(G:Good Y s aj code)(a)(xs pp b)(hx:∀z∈xs,bz z 60)(I:∀z∈pp,bz z 60)(hw:∀z∈b,bz z 60):dN Y (tW Y aj code [.lst [.int a,.lst (xs.map D.int),.lst (pp.map D.int),.lst (b.map D.int)]]) (told s (Vagram.asking s (.pull a xs pp b))):=by
 show dN Y _ (told s (Vagram.ranged a 0 1>>=λk=>s.place xs pp>>=λy=>Vagram.fracs s.prog.n b>>=λw=>s.through k y.1 y.2>>=λD=>Vagram.tell [((((List.range s.prog.m).map λj=>Vagrae.sum ((List.range s.prog.n).map λi=>Vagraa.mul (at_ w i) (D.get i j))).length:Nat):Int)] ((List.range s.prog.m).map λj=>Vagrae.sum ((List.range s.prog.n).map λi=>Vagraa.mul (at_ w i) (D.get i j)))));rw[Ar];refine bS _ (IT rfl rfl) λa0 a1=>?_
 obtain⟨k,rfl⟩:∃h:Nat,a=(h:Int):=⟨a.toNat,(cJ (by lia)).symm⟩;rw[agd];obtain⟨n,m,rs,q,os,F,H,C⟩:=G.cd;show dN Y (cN _ _ _ _ _ _ [~~~au (Y 27) aj code,~~~(.lst [.int (k:Int),.lst (xs.map D.int),.lst (pp.map D.int),.lst (b.map D.int)]),none,none,none,none]) _;have fc:fX (Y 27) "code" (au (Y 27) aj code)=.ok code:=bW rfl;have W:fX (Y 17) "unknowns" code=.ok (.int (n:Int)):=by rw[F];exact Lr n m rs os
 have n4:=C.n4;have m4:=C.m4;rw[iz (ρ':=[~~~au (Y 27) aj code,~~~(.lst [.int (k:Int),.lst (xs.map D.int),.lst (pp.map D.int),.lst (b.map D.int)]),~~~code,none,none,none]) (by simp[fc])];rcases An (Y:=Y) C (k:Int) s H hx I with⟨A,v⟩|⟨A,v⟩|⟨o,f,A,v,T⟩;rw[<-F]at v;rw[A,dM (e:=some (Y 1)) (by simp[v];rfl)];exact .no (C:=1) (by decide);rw[<-F]at v;rw[A,dM (e:=some (Y 5)) (by simp[v];rfl)];exact .no (C:=5) (by decide);have u:=LA (Y:=Y) C T (show k<=1 by lia);have th:=yU (s:=s) C T (show k<=1 by lia) H;rw[<-F]at v u;rw[A];rw[iz (ρ':=[~~~au (Y 27) aj code,~~~(.lst [.int (k:Int),.lst (xs.map D.int),.lst (pp.map D.int),.lst (b.map D.int)]),~~~code,~~~(gu Y code (k:Int) o f),none,none]) (by simp[v])];show dN Y _ (told s (Vagram.fracs s.prog.n b>>=λw=>s.through k ((o.take n).map fr) (f.map fr)>>=λD=>Vagram.tell [((((List.range s.prog.m).map λj=>Vagrae.sum ((List.range s.prog.n).map λi=>Vagraa.mul (at_ w i) (D.get i j))).length:Nat):Int)] ((List.range s.prog.m).map λj=>Vagrae.sum ((List.range s.prog.n).map λi=>Vagraa.mul (at_ w i) (D.get i j)))));rw[show s.prog.n=n by rw[H],show s.prog.m=m by rw[H],rP,th];have B:=mJ (Y:=Y) (ns:=b) (n:=n) (by lia);rw[show(decide (b.length≠2*n)||(List.range n).any (λk=>decide ((fq b k).2<1)))=vq n b from rfl,show((List.range n).map λk=>eQ (fq b k))=(fm n b).map eQ by unfold fm;rw[afS];rfl]at B;cases N:vq n b with
 |true=>rw[N]at B;rw[dM (e:=some (Y 1)) (by simp[W,B];rfl)];exact .no (C:=1) (by decide)
 |false=>
  rw[N]at B;have R:=A9 (Y:=Y) (h:=1) (w:=n) (l:=fm n b) (by lia) (by lia) (by simp[fm]);have R:kN Y [.int 1,.int (n:Int),.lst ((fm n b).map eQ)]=.ok (eT Y 1 n λi j=>(fm n b).getD (i*n+j) (0,1)):=R;have ws0:=IP hw N;have E:∀i,i<1->∀j,j<n->sz ((fm n b).getD (i*n+j) (0,1)) 60:=λi x j g=>ws0 _ (by
   have:i=0:=by lia
   subst this;have t:0*n+j<(fm n b).length:=by simp[fm];exact g
   rw[afC,afE t];exact agF t)
  rw[iz (ρ':=[~~~au (Y 27) aj code,~~~(.lst [.int (k:Int),.lst (xs.map D.int),.lst (pp.map D.int),.lst (b.map D.int)]),~~~code,~~~(gu Y code (k:Int) o f),~~~(eT Y 1 n λi j=>(fm n b).getD (i*n+j) (0,1)),none]) (by simp[W,B,R])];cases X:pO n k os o f with
  |true=>rw[X]at u;rw[dM (e:=some (Y 6)) (by simp[u];rfl)];exact .no (C:=6) (by decide)
  |false=>
   rw[X]at u;cases Z:Lz n m k os q f with
   |true=>rw[Z]at u;rw[dM (e:=some (Y 7)) (by simp[u];rfl)];exact .no (C:=7) (by decide)
   |false=>
    rw[Z]at u;have mz:=OI C T k;have S:60+(1+1*n*60)+(2400000+(1+n*m*2400000))<=134217728:=by
     have:n*m<=4*4:=agR n4 m4
     lia
    have pr:=DG (Y:=Y) (r:=1) (n:=n) (n':=n) (c:=m) (P:=λi j=>(fm n b).getD (i*n+j) (0,1)) (Q:=uI n m k os q f) E mz S (by lia) (by lia) (by lia) (by lia);rw[show decide (n≠n)=false by simp,afy afJ]at pr;have pv:∀j,j<m->_:=λj g=>DM (r:=1) (n:=n) (c:=m) (P:=λi j=>(fm n b).getD (i*n+j) (0,1)) (Q:=uI n m k os q f) (λi x j g=>(E i x j g).z) (λi x j g=>(mz i x j g).z) (i:=0) (j:=j) (by lia) g
    have en:=jE (Y:=Y) (r:=1) (c:=m) (P:=uD n 1 m (λi j=>(fm n b).getD (i*n+j) (0,1)) (uI n m k os q f)) (by lia) (by lia);rw[T6]at en;have hz:∀p∈(List.range m).map (uD n 1 m (λi j=>(fm n b).getD (i*n+j) (0,1)) (uI n m k os q f) 0),p.2≠0:=λp I=>by obtain⟨j,g,rfl⟩:=af6.mp I;exact(pv j (afG.mp g)).2
    have e1:((List.range m).map λj=>Vagrae.sum ((List.range n).map λi=>Vagraa.mul (at_ ((fm n b).map λp=>fr (vl p)) i) ((mk n m (vF (uI n m k os q f))).get i j)))=((List.range m).map (uD n 1 m (λi j=>(fm n b).getD (i*n+j) (0,1)) (uI n m k os q f) 0)).map λp=>fr (vl p):=by
     rw[afS];refine afY λj g=>?_
     have g:=afG.mp g;show _=fr (vl (uD n 1 m _ _ 0 j));rw[(pv j g).1];refine Ex.Ic n _ _ λi x=>?_
     have t:i<(fm n b).length:=by simp[fm];exact x
     rw[Ex.di _ x g,show at_ ((fm n b).map λp=>fr (vl p)) i=fr (vF (λi j=>(fm n b).getD (i*n+j) (0,1)) 0 i)by unfold at_ vF;rw[afC,afF,afE t];show _=fr (vl ((fm n b).getD (0*n+i) (0,1)));rw[Nat.zero_mul,agG,afC,afE t];rfl,Ex.uv]
    show dN Y _ (told s (Vagram.tell [((((List.range m).map λj=>Vagrae.sum ((List.range n).map λi=>Vagraa.mul (at_ ((fm n b).map λp=>fr (vl p)) i) ((mk n m (vF (uI n m k os q f))).get i j))).length:Nat):Int)] ((List.range m).map λj=>Vagrae.sum ((List.range n).map λi=>Vagraa.mul (at_ ((fm n b).map λp=>fr (vl p)) i) ((mk n m (vF (uI n m k os q f))).get i j)))));rw[e1];have hl:((List.range m).map (uD n 1 m (λi j=>(fm n b).getD (i*n+j) (0,1)) (uI n m k os q f) 0)).length=m:=by simp
    generalize (List.range m).map (uD n 1 m (λi j=>(fm n b).getD (i*n+j) (0,1)) (uI n m k os q f) 0)=qs at*;have u:jB Y [gu Y code (k:Int) o f]=.ok (eT Y n m (uI n m k os q f)):=u;rw[iz (ρ':=[~~~au (Y 27) aj code,~~~(.lst [.int (k:Int),.lst (xs.map D.int),.lst (pp.map D.int),.lst (b.map D.int)]),~~~code,~~~(gu Y code (k:Int) o f),~~~(eT Y 1 n λi j=>(fm n b).getD (i*n+j) (0,1)),~~~.lst (qs.map eQ)]) (by generalize (λi j=>(fm n b).getD (i*n+j) (0,1))=PP at*;simp[u,pr,en])]
    refine uK (qs:=qs) (head:=[((qs.map λp=>fr (vl p)).length:Int)]) G hz (by lia) (by simp) ?_;simp
open PySem DL Ev VagramNeutral
def ZJ(s:Vagram.State)(k:Vagram.Call):Except Int (Vagram.State×List Int):=if Vagram.asks k=true then told s (Vagram.asking s k)else Vagram.out s k
def gD(xs:List Int)(ls:List (List Int)):List D:=xs.map D.int++ls.map λl=>.lst (l.map D.int)
theorem b1{z}(h:whole60 z=true):bz z 60:=by
 unfold whole60 at h;rw[afL,agf,agf]at h;show z.natAbs<2^60;have:(2:Nat)^60=1152921504606846976:=by decide
 omega
theorem b3{l:List Int}{n}(h:((l.all λz=>whole60 z)&&decide (l.length<=n))=true):(∀z∈l,bz z 60)/\l.length<=n:=by rw[afL,agf]at h;exact⟨λz a=>b1 (agC.mp h.1 z a),h.2⟩
def an{a b}(h:(a&&b)=true):a=true/\b=true:=by rwa [afL]at h
def e0{a}{l:List a}(h:l.length=0):l=[]:=List.length_eq_zero_iff.mp h
theorem e1{b}:∀{l:List b}{n:Nat},l.length=n+1->∃a m,l=a::m/\m.length=n|a::m,n,h=>⟨a,m,rfl,by simpa using h⟩
def Known(Y:afp)(s:Vagram.State)(aj:List D)(code:D)(i:Nat)(xs:List Int)(ls:List (List Int)):Prop:=
 PyVagram.whole (((i:Int)::xs)::ls)=((i:Int)::xs)::ls/\xs.length<=100/\ls.length<=100/\(asked1 (((i:Int)::xs)::ls)=true->∃(k:Vagram.Call)(f:Addr)(h:afv),callOf (((i:Int)::xs)::ls)=some k/\(uW Y)[i]?=some ((l8 Y++l9 Y).getD i 0,f,(xs.length:Int),(ls.length:Int))/\(nE Y)[i]?=some (f,(xs.length:Int),(ls.length:Int),h)/\dN Y (h aj code [.lst (gD xs ls)]) (ZJ s k))
theorem W8(d:rQ Y)(G:Good Y s aj code)(i:Nat)(xs)(ls:List (List Int))(hs:PyVagram.shape (i:Int)=some (xs.length,ls.length)):Known Y s aj code i xs ls:=by
 have f:∀{p q:Nat},PyVagram.shape (i:Int)=some (p,q)->xs.length=p/\ls.length=q:=λe=>by rw[hs]at e;injection e with e;injection e with y A;exact⟨y,A⟩
 by_cases w:25<=i
 ·exfalso;unfold PyVagram.shape at hs
  repeat rw[afy (by lia)]at hs
  cases hs
 match i,w,@f with
 |0,_,f=>obtain⟨j,k⟩:=f rfl;obtain⟨a,xs,rfl,o⟩:=e1 j;obtain⟨b,xs,rfl,r⟩:=e1 o;obtain⟨c,xs,rfl,t⟩:=e1 r;cases e0 t;obtain⟨l,ls,rfl,u⟩:=e1 k;cases e0 u;exact⟨rfl,by simp,by simp,λz=>⟨.set a b c l,_,_,rfl,rfl,rfl,IX d G a b c l (b3 (an (an (an z).2).2).2).1⟩⟩
 |1,_,f=>obtain⟨j,k⟩:=f rfl;obtain⟨a,xs,rfl,o⟩:=e1 j;cases e0 o;cases e0 k;exact⟨rfl,by simp,by simp,λ_=>⟨.get a,_,_,rfl,rfl,rfl,IZ d G a⟩⟩
 |2,_,f=>obtain⟨j,k⟩:=f rfl;obtain⟨a,xs,rfl,o⟩:=e1 j;obtain⟨b,xs,rfl,r⟩:=e1 o;obtain⟨c,xs,rfl,t⟩:=e1 r;cases e0 t;cases e0 k;exact⟨rfl,by simp,by simp,λ_=>⟨.add a b c,_,_,rfl,rfl,rfl,IU d G a b c⟩⟩
 |3,_,f=>obtain⟨j,k⟩:=f rfl;obtain⟨a,xs,rfl,o⟩:=e1 j;obtain⟨b,xs,rfl,r⟩:=e1 o;obtain⟨c,xs,rfl,t⟩:=e1 r;cases e0 t;cases e0 k;exact⟨rfl,by simp,by simp,λ_=>⟨.sub a b c,_,_,rfl,rfl,rfl,IV d G a b c⟩⟩
 |4,_,f=>obtain⟨j,k⟩:=f rfl;obtain⟨a,xs,rfl,o⟩:=e1 j;obtain⟨b,xs,rfl,r⟩:=e1 o;obtain⟨c,xs,rfl,t⟩:=e1 r;cases e0 t;cases e0 k;exact⟨rfl,by simp,by simp,λ_=>⟨.mul a b c,_,_,rfl,rfl,rfl,IW d G a b c⟩⟩
 |5,_,f=>obtain⟨j,k⟩:=f rfl;obtain⟨a,xs,rfl,o⟩:=e1 j;obtain⟨b,xs,rfl,r⟩:=e1 o;obtain⟨c,xs,rfl,t⟩:=e1 r;obtain⟨e,xs,rfl,x⟩:=e1 t;cases e0 x;cases e0 k;exact⟨rfl,by simp,by simp,λz=>⟨.scale a b c e,_,_,rfl,rfl,rfl,D5 d G a b c e (b1 (an (an (an z).2).2).1) (b1 (an (an (an z).2).2).2)⟩⟩
 |6,_,f=>obtain⟨j,k⟩:=f rfl;obtain⟨a,xs,rfl,o⟩:=e1 j;obtain⟨b,xs,rfl,r⟩:=e1 o;cases e0 r;cases e0 k;exact⟨rfl,by simp,by simp,λ_=>⟨.turn a b,_,_,rfl,rfl,rfl,ET d G a b⟩⟩
 |7,_,f=>obtain⟨j,k⟩:=f rfl;obtain⟨a,xs,rfl,o⟩:=e1 j;obtain⟨b,xs,rfl,r⟩:=e1 o;cases e0 r;cases e0 k;exact⟨rfl,by simp,by simp,λ_=>⟨.unit a b,_,_,rfl,rfl,rfl,EU d G a b⟩⟩
 |8,_,f=>obtain⟨j,k⟩:=f rfl;obtain⟨a,xs,rfl,o⟩:=e1 j;obtain⟨b,xs,rfl,r⟩:=e1 o;obtain⟨c,xs,rfl,t⟩:=e1 r;cases e0 t;cases e0 k;exact⟨rfl,by simp,by simp,λ_=>⟨.beside a b c,_,_,rfl,rfl,rfl,Bu d G a b c⟩⟩
 |9,_,f=>obtain⟨j,k⟩:=f rfl;obtain⟨a,xs,rfl,o⟩:=e1 j;obtain⟨b,xs,rfl,r⟩:=e1 o;obtain⟨c,xs,rfl,t⟩:=e1 r;cases e0 t;cases e0 k;exact⟨rfl,by simp,by simp,λ_=>⟨.below a b c,_,_,rfl,rfl,rfl,D4 d G a b c⟩⟩
 |10,_,f=>obtain⟨j,k⟩:=f rfl;obtain⟨a,xs,rfl,o⟩:=e1 j;obtain⟨b,xs,rfl,r⟩:=e1 o;obtain⟨c,xs,rfl,t⟩:=e1 r;obtain⟨e,xs,rfl,x⟩:=e1 t;obtain⟨g,xs,rfl,B⟩:=e1 x;obtain⟨h,xs,rfl,C⟩:=e1 B;cases e0 C;cases e0 k;exact⟨rfl,by simp,by simp,λ_=>⟨.part a b c e g h,_,_,rfl,rfl,rfl,EX d G a b c e g h⟩⟩
 |11,_,f=>obtain⟨j,k⟩:=f rfl;obtain⟨a,xs,rfl,o⟩:=e1 j;obtain⟨b,xs,rfl,r⟩:=e1 o;obtain⟨c,xs,rfl,t⟩:=e1 r;cases e0 t;cases e0 k;exact⟨rfl,by simp,by simp,λ_=>⟨.power a b c,_,_,rfl,rfl,rfl,D6 d G a b c⟩⟩
 |12,_,f=>obtain⟨j,k⟩:=f rfl;obtain⟨a,xs,rfl,o⟩:=e1 j;obtain⟨b,xs,rfl,r⟩:=e1 o;cases e0 r;cases e0 k;exact⟨rfl,by simp,by simp,λ_=>⟨.reduce a b,_,_,rfl,rfl,rfl,Bv d G a b⟩⟩
 |13,_,f=>obtain⟨j,k⟩:=f rfl;obtain⟨a,xs,rfl,o⟩:=e1 j;cases e0 o;cases e0 k;exact⟨rfl,by simp,by simp,λ_=>⟨.det a,_,_,rfl,rfl,rfl,IY d G a⟩⟩
 |14,_,f=>obtain⟨j,k⟩:=f rfl;obtain⟨a,xs,rfl,o⟩:=e1 j;obtain⟨b,xs,rfl,r⟩:=e1 o;cases e0 r;cases e0 k;exact⟨rfl,by simp,by simp,λ_=>⟨.inverse a b,_,_,rfl,rfl,rfl,Aq d G a b⟩⟩
 |15,_,f=>obtain⟨j,k⟩:=f rfl;obtain⟨a,xs,rfl,o⟩:=e1 j;obtain⟨b,xs,rfl,r⟩:=e1 o;obtain⟨c,xs,rfl,t⟩:=e1 r;cases e0 t;cases e0 k;exact⟨rfl,by simp,by simp,λ_=>⟨.solve a b c,_,_,rfl,rfl,rfl,D7 d G a b c⟩⟩
 |16,_,f=>obtain⟨j,k⟩:=f rfl;obtain⟨a,xs,rfl,o⟩:=e1 j;obtain⟨b,xs,rfl,r⟩:=e1 o;cases e0 r;cases e0 k;exact⟨rfl,by simp,by simp,λ_=>⟨.kernel a b,_,_,rfl,rfl,rfl,Bw d G a b⟩⟩
 |17,_,f=>obtain⟨j,k⟩:=f rfl;obtain⟨a,xs,rfl,o⟩:=e1 j;cases e0 o;cases e0 k;exact⟨rfl,by simp,by simp,λ_=>⟨.leading a,_,_,rfl,rfl,rfl,As d G a⟩⟩
 |18,_,f=>obtain⟨j,k⟩:=f rfl;obtain⟨a,xs,rfl,o⟩:=e1 j;cases e0 o;cases e0 k;exact⟨rfl,by simp,by simp,λ_=>⟨.char a,_,_,rfl,rfl,rfl,EV d G a⟩⟩
 |19,_,f=>obtain⟨j,k⟩:=f rfl;obtain⟨a,xs,rfl,o⟩:=e1 j;cases e0 o;cases e0 k;exact⟨rfl,by simp,by simp,λ_=>⟨.trace a,_,_,rfl,rfl,rfl,D8 d G a⟩⟩
 |20,_,f=>obtain⟨j,k⟩:=f rfl;obtain⟨a,xs,rfl,o⟩:=e1 j;obtain⟨b,xs,rfl,r⟩:=e1 o;cases e0 r;cases e0 k;exact⟨rfl,by simp,by simp,λ_=>⟨.same a b,_,_,rfl,rfl,rfl,EW d G a b⟩⟩
 |21,_,f=>obtain⟨j,k⟩:=f rfl;obtain⟨a,xs,rfl,o⟩:=e1 j;obtain⟨b,xs,rfl,r⟩:=e1 o;cases e0 r;obtain⟨l,ls,rfl,u⟩:=e1 k;obtain⟨m,ls,rfl,v⟩:=e1 u;cases e0 v;exact⟨rfl,by simp,by simp,λz=>⟨.code a b l m,_,_,rfl,rfl,rfl,EY d G a b l m (b3 (an (an (an z).2).2).1).2 (b3 (an (an (an z).2).2).2).2⟩⟩
 |22,_,f=>obtain⟨j,k⟩:=f rfl;obtain⟨a,xs,rfl,o⟩:=e1 j;cases e0 o;obtain⟨l,ls,rfl,u⟩:=e1 k;obtain⟨m,ls,rfl,v⟩:=e1 u;cases e0 v;exact⟨rfl,by simp,by simp,λz=>⟨.residual a l m,_,_,rfl,rfl,rfl,yT d G a l m (b3 (an (an z).2).1).1 (b3 (an (an z).2).2).1⟩⟩
 |23,_,f=>obtain⟨j,k⟩:=f rfl;obtain⟨a,xs,rfl,o⟩:=e1 j;obtain⟨b,xs,rfl,r⟩:=e1 o;cases e0 r;obtain⟨l,ls,rfl,u⟩:=e1 k;obtain⟨m,ls,rfl,v⟩:=e1 u;cases e0 v;exact⟨rfl,by simp,by simp,λz=>⟨.implicit a b l m,_,_,rfl,rfl,rfl,yV d G a b l m (b3 (an (an (an z).2).2).1).1 (b3 (an (an (an z).2).2).2).1⟩⟩
 |24,_,f=>obtain⟨j,k⟩:=f rfl;obtain⟨a,xs,rfl,o⟩:=e1 j;cases e0 o;obtain⟨l,ls,rfl,u⟩:=e1 k;obtain⟨m,ls,rfl,v⟩:=e1 u;obtain⟨n,ls,rfl,E⟩:=e1 v;cases e0 E;exact⟨rfl,by simp,by simp,λz=>⟨.pull a l m n,_,_,rfl,rfl,rfl,EZ d G a l m n (b3 (an (an z).2).1).1 (b3 (an (an (an z).2).2).1).1 (b3 (an (an (an z).2).2).2).1⟩⟩
 |n+25,w,_=>exact absurd (by lia) w
structure T7(Y:afp):Prop where
 ex:(LB.map λp=>Y p.1).Nodup
 en:(l8 Y++l9 Y).Nodup
 cl:((nE Y).map (·.1)).Nodup
theorem LF:∀{l:List (Nat×Int)}{C:Nat}{e:Int},(l.map λp=>Y p.1).Nodup->(C,e)∈l->(l.map λp=>(Y p.1,-p.2)).lookup (Y C)=some (-e)
 |[],_,_,_,h=>absurd h agN
 |p::l,C,e,a,h=>by
  rw[afR,agV]at a;rw[afR,agM];rcases afU.mp h with h|h;subst h;show(match Y C==Y C with|true=>some (-e)|false=>_)=_;rw[ag5];have b:(Y C==Y p.1)=false:=by
   rw[agq]
   exactλq=>a.1 (by rw[<-q];exact af6.mpr ⟨(C,e),h,rfl⟩)
  rw[b];exact LF a.2 h
def Ay(s:Vagram.State):Except Int (Vagram.State×List Int)->Vagram.State×List Int| .ok p=>p| .error e=>(s,[e])
theorem Na(b:T7 Y)(G:Good Y s aj code)(r:dN Y (h aj code [a]) y):∃tabs' code',rD Y h aj code a=.ok (.lst ((Ay s y).2.map D.int),tabs',code')/\Good Y (Ay s y).1 tabs' code'/\(Ay s y).2.length<=1000:=by
 unfold rD;generalize h aj code [a]=x at r;cases r with|ok c d=>exact⟨_,_,rfl,c,d⟩|@no C e f=>have g:(ki Y).lookup (Y C)=some (-e):=LF (Y:=Y) b.ex f;refine⟨aj,code,?_,G,by simp[Ay]⟩;show(match(ki Y).lookup (Y C)with|some n=>(.ok (.lst [.int (-n)],aj,code):M b6)|none=>ao)=_;rw[g];show Except.ok (D.lst [.int (- -e)],aj,code)=_;rw[Int.neg_neg];rfl
theorem Nb(c)(h:VagramNeutral.callOf c=some k):VagramNeutral.step s c=Ay s (ZJ s k):=by
 unfold VagramNeutral.step;rw[h];show((Vagram.step s k).1,VagramNeutral.encode (Vagram.step s k).2)=_;unfold Vagram.step ZJ told;cases Vagram.asks k with
 |true=>
  cases Vagram.asking s k with|ok l=>rfl|error e=>rfl
 |false=>
  cases Vagram.out s k with|ok p=>rfl|error e=>rfl
theorem Nc{c}{l}(h:MZ c l){k n:Nat}(a:k<=l.length):oK Y (sA Y c (k:Int)) [.int (n:Int)]=.ok ((l.drop k).take n,sA Y c ((k+n:Nat):Int)):=by simp[oK,yf,dY,VF,h.O,IE l k n a,MY,L.own,VZ]
theorem LG(n)(r):PyFlat.row (n::r)=if 0<=n/\n.toNat<=r.length then some (r.take n.toNat,r.drop n.toNat)else none:=rfl
def D9(Y:afp):afw:=L7 3 (Ct 0 (Y 9) "take_row" (ef Y) (qF 0 (Y 9) "take" (dS Y)))
theorem ON{c:D}{ns:List Int}(q:MZ c (ns.map D.int))(a b:Option L):∀(d:List D)(k:Nat)(bY:List D)x ls t,k<=ns.length->PyFlat.rows d.length (ns.drop k)=some (ls,t)->bY.length+d.length<=1000->
  ∃(j:Nat)(w:Option L),j<=ns.length/\ns.drop j=t/\ls.length=d.length/\eU (aI 4) (D9 Y) d [some (sA Y c (k:Int)),a,b,some (.ow bY),x]=.ok (.nx [some (sA Y c (j:Int)),a,b,some (.ow (bY++ls.map λl=>.lst (l.map D.int))),w])
 |[],k,bY,x,ls,t,A,h,_=>by cases h;exact⟨k,x,A,rfl,rfl,by simp⟩
 |e::d,k,bY,x,ls,t,A,h,H=>by
  have I:bY.length+(d.length+1)<=1000:=H;unfold List.length PyFlat.rows at h;cases f:PyFlat.row (ns.drop k)with
  |none=>rw[f]at h;cases h
  |some p=>
   obtain⟨y,u⟩:=p;rw[f]at h;dsimp only at h;cases i:PyFlat.rows d.length u with
   |none=>rw[i]at h;cases h
   |some N=>
    obtain⟨B,v⟩:=N;rw[i]at h;cases h;cases o:ns.drop k with
    |nil=>rw[o]at f;cases f
    |cons n r=>
     rw[o]at f;rw[LG]at f;split at f;rename_i C;cases f;have E:ns.length=k+1+r.length:=by
      have:=agg List.length o;simp at this
      lia
     obtain⟨m,rfl⟩:∃m:Nat,n=(m:Int):=⟨n.toNat,(cJ C.1).symm⟩;rw[agd]at i C|-;have g:(ns.map D.int)[k]?=some (.int (m:Int)):=by
      rw[afF];have:ns[k]?=some (m:Int):=by have:=agg (λl=>l[0]?) o;simpa using this
      rw[this];rfl
     have F:ns.drop (k+1)=r:=by have:=agg (List.drop 1) o;rw[ag8]at this;simpa using this
     have P:=ID (Y:=Y) q g;have G:=AY (Y:=Y) q (k:=k+1) (n:=m) (by rw[afB];lia);rw[<-aiL,F,<-aiM]at G;have Q:bY.length<sizeLine:=by rw[show sizeLine=16777216 from rfl];lia
     have st:D9 Y [some (sA Y c (k:Int)),a,b,some (.ow bY),~~~e]=.ok (.nx [some (sA Y c ((k+1+m:Nat):Int)),a,b,some (.ow (bY++[.lst ((r.take m).map D.int)])),~~~e]):=by unfold D9;simp[-Int.natCast_add,Ct,P,G,Q]
     have z:PyFlat.rows d.length (ns.drop (k+1+m))=some (B,t):=by rw[<-ag8,F];exact i
     obtain⟨j,w,R,S,T,W⟩:=ON q a b d (k+1+m) (bY++[.lst ((r.take m).map D.int)]) (~~~e) B t (by lia) z (by simp;lia);refine⟨j,w,R,S,by simp[T],?_⟩;rw[oQ];show(WU (some [some (sA Y c (k:Int)),a,b,some (.ow bY),~~~e])>>=_)=_;rw[uz,bq,st];show eU (aI 4) (D9 Y) d _=_;rw[W,agX];rfl;cases f
theorem E0{c:D}{ns:List Int}(b:MZ c (ns.map D.int)){k n l:Nat}{ls}{t}(f:k<=ns.length)(g:k+n<=ns.length)(h:PyFlat.rows l (ns.drop (k+n))=some (ls,t))(q:n<=100)(r:l<=100):
  ∃a:Nat,a<=ns.length/\ns.drop a=t/\ls.length=l/\bG Y (sA Y c (k:Int)) [.int (n:Int),.int (l:Int)]=.ok (.lst (gD ((ns.drop k).take n) ls),sA Y c (a:Int)):=by
 have d:=Nc (Y:=Y) b (k:=k) (n:=n) (by rw[afB];exact f);rw[<-aiL,<-aiM]at d;obtain⟨a,u,j,m,o,e⟩:=ON (Y:=Y) b (~~~(.int (n:Int))) (~~~(.int (l:Int))) ((List.range l).map λi=>D.int ((i:Nat):Int)) (k+n) (((ns.drop k).take n).map D.int) none ls t g (by rw[afB,afN];exact h) (by rw[afB,afB,afN,ag3];lia);refine⟨a,j,m,by simpa using o,?_⟩;unfold D9 at e;have p:=fk (show l<=1000000 by lia);simp! only[bG,runC,lM,dY];simp! [-Int.natCast_add,YW,d,p,-List.map_take,-List.map_drop];rw[e];simp[bE,dF,sy,pW,gD,-List.map_take,-List.map_drop]
theorem Ea:∀{l:List (Addr×b)}{i:Nat}{x:Addr×b},(l.map (·.1)).Nodup->l[i]?=some x->l.find? (λr=>r.1==x.1)=some x
 |[],_,_,_,h=>by simp at h
 |y::l,0,x,_,h=>by
  have h:y=x:=by simpa using h
  subst h;rw[agA,ag5]
 |y::l,i+1,x,a,h=>by
  rw[afR,agV]at a;have h:l[i]?=some x:=by simpa using h
  have c:(y.1==x.1)=false:=by
   rw[agq]
   exactλq=>a.1 (by rw[q];exact af6.mpr ⟨x,ahi h,rfl⟩)
  rw[agA,c];exact Ea a.2 h
theorem Gs(h:PyVagram.shape p=some q):∃i:Nat,p=(i:Int):=by
 by_cases n:p<0
 ·exfalso;unfold PyVagram.shape at h
  repeat rw[afy (by lia)]at h
  cases h
 exact⟨p.toNat,(cJ (by lia)).symm⟩
theorem Eb:∀{k:Nat}{r:List Int}{xs:List (List Int)}{t:List Int},PyFlat.rows k r=some (xs,t)->t.length<=r.length/\xs.length=k
 |0,r,xs,t,h=>by cases h;exact⟨afI _,rfl⟩
 |k+1,r,xs,t,h=>by
  unfold PyFlat.rows at h;cases e1:PyFlat.row r with
  |none=>rw[e1]at h;cases h
  |some p=>
   obtain⟨x,u⟩:=p;rw[e1]at h;dsimp only at h;cases a:PyFlat.rows k u with
   |none=>rw[a]at h;cases h
   |some b=>
    obtain⟨d,v⟩:=b;rw[a]at h;cases h;have c:=Eb a;have:u.length<=r.length:=by
     cases r with
     |nil=>cases e1
     |cons n r=>rw[LG]at e1;split at e1;cases e1;simp;lia;cases e1
    exact⟨by lia,by simp[c.2]⟩
abbrev WA(Y:afp):D:=.tup ((l8 Y++l9 Y).map D.fn)
abbrev slots(Y:afp)(ns:List Int)(k:Nat)(aj:List D)(code:D)(bY:List Int)(a b:Option L):ak:=[~~~.arr (ns.map D.int),~~~WA Y,some (sA Y (.arr (ns.map D.int)) (k:Int)),~~~au (Y 27) aj code,some (.ow (bY.map D.int)),a,b]
theorem T8(xs)(ls:List (List Int)):cy CS CT (.lst (gD xs ls))=true:=by
 have b:cP CS CT (gD xs ls)=true:=by
  unfold gD
  induction xs with|nil=>exact gU λl _=>gW l|cons x xs c=>exact c
 refine qu b ?_;unfold gD;rw[List.any_append,agP,agP,agB];exact⟨agb.mpr λa _=>by simp[Hg],agb.mpr λa _=>by simp[Hg]⟩
def uL(ns:List Int):cP CS CT (ns.map D.int)=true:=gU λ_ _=>rfl
def Nd(a:List Addr):cP CS CT (a.map D.fn)=true:=gU λ_ _=>rfl
def Ec(h:fR CS CT d=true):lF CS CT (~~~d)= ~~~d:=afz h
def T9(h:cP CS CT ds=true):lF CS CT (some (.ow ds))=some (.ow ds):=afz h
def Ua(h:cP CS CT ds=true):lF CS CT (some (.ce C xs ds))=some (.ce C xs ds):=afz h
theorem QC(d:rQ Y)(B:T7 Y)(G:Good Y s aj code)(H o:Option L)(v:ns.drop k=p::r)(b:PyFlat.call PyVagram.shape (p::r)=some (c,t))(X:VagramNeutral.asked1 c=true)(hl:bY.length+1001<=16777216):
  ∃(m:Nat)(tabs':List D)(code':D)(Z y6:Option L),m<=ns.length/\ns.drop m=t/\t.length<=r.length/\Good Y (VagramNeutral.step s c).1 tabs' code'/\(VagramNeutral.step s c).2.length<=1000/\zT Y (slots Y ns k aj code bY H o)=.ok (.nx (slots Y ns m tabs' code' (bY++(((VagramNeutral.step s c).2.length:Int)::(VagramNeutral.step s c).2)) Z y6)):=by
 unfold PyFlat.call at b;dsimp only at b;cases y:PyVagram.shape p with
 |none=>rw[y]at b;cases b
 |some q=>
  obtain⟨n,u⟩:=q;rw[y]at b;dsimp only at b;split at b;cases b;rename_i hr;cases z:PyFlat.rows u (r.drop n)with
  |none=>rw[z]at b;cases b
  |some p2=>
   obtain⟨ls,t'⟩:=p2;rw[z]at b;cases b;obtain⟨i,rfl⟩:=Gs y;have A:=Eb z;have C:(r.take n).length=n:=by rw[ag3];omega
   obtain⟨_,I,N,kn⟩:=W8 d G i (r.take n) ls (by rw[y,C,A.2]);obtain⟨kc,f,h,h1,E,P,h4⟩:=kn X;rw[C,A.2]at E P;rw[C]at I;rw[A.2]at N;have hk:k<ns.length:=by rcases Nat.lt_or_ge k ns.length with q|q;exact q;rw[ahx q]at v;cases v
   have Q:ns.length=k+1+r.length:=by have:=agg List.length v;simp at this;omega
   have R:ns.drop (k+1)=r:=by have:=agg (List.drop 1) v;rw[ag8]at this;simpa using this
   have g:(ns.map D.int)[k]?=some (.int (i:Int)):=by
    rw[afF];have:ns[k]?=some (i:Int):=by have:=agg (λl=>l[0]?) v;simpa using this
    rw[this];rfl
   have w:MZ (.arr (ns.map D.int)) (ns.map D.int):=.inr rfl;have t1:=ID (Y:=Y) w g;obtain⟨m,i1,i2,i3,S⟩:=E0 (Y:=Y) w (k:=k+1) (n:=n) (l:=u) (ls:=ls) (t:=t) (by omega) (by omega) (by rw[<-ag8,R];exact z) I N;rw[R]at S;have ek:nG Y ((l8 Y++l9 Y).getD i 0)=some (f,(n:Int),(u:Int)):=by unfold nG;rw[Ea (l:=uW Y) (i:=i) (x:=((l8 Y++l9 Y).getD i 0,f,(n:Int),(u:Int))) B.en E];rfl
   have ck:Dh Y f=some h:=by unfold Dh;rw[Ea (l:=nE Y) (i:=i) (x:=(f,(n:Int),(u:Int),h)) B.cl P];rfl
   have kx:DL.U7 (WA Y) (.int (i:Int))=.ok (.fn ((l8 Y++l9 Y).getD i 0)):=by
    show l6 ((l8 Y++l9 Y).map D.fn) (i:Int)=_;refine sf _ i ?_;have:(l8 Y++l9 Y)[i]?=some ((l8 Y++l9 Y).getD i 0):=by have e:(l8 Y++l9 Y)=(uW Y).map (·.1):=rfl;rw[e,afF,E];rfl
    rw[afF,this];rfl
   obtain⟨tabs',code',T,F,W⟩:=Na B G h4;rw[<-Nb _ h1]at T F W;generalize VagramNeutral.step s (((i:Int)::r.take n)::ls)=st at*;have sh:mH (Y 27) (au (Y 27) aj code)=.ok (aj,code):=afz ⟨rfl,rfl⟩;refine⟨m,tabs',code',~~~.fn ((l8 Y++l9 Y).getD i 0),~~~.lst (st.2.map D.int),i1,i2,by have:=A.1;rw[ag4]at this;omega,F,W,?_⟩;generalize (l8 Y++l9 Y).getD i 0=a at*;have s1:JQ 5 (Se (O 1) (qF 2 (Y 9) "take" (dS Y))) (slots Y ns k aj code bY H o)=.ok (.nx (slots Y ns (k+1) aj code bY (~~~.fn a) o)):=by rw[Wo];unfold Se;rw[iE (d:=WA Y) 1 rfl,bq,Qu,Ox (x:=sA Y (.arr (ns.map D.int)) (k:Int)) 2 rfl rfl,bq,Wq,bq,t1,bq,bq,kx];rfl
   have e0:∀j,p6 (nG Y) 5 j (slots Y ns (k+1) aj code bY (~~~.fn a) o)=l6 [.fn f,.int (n:Int),.int (u:Int)] j:=λj=>by unfold p6;rw[iE (d:=.fn a) 5 rfl,bq];show(match nG Y a with|some (f,p,l)=>l6 [.fn f,.int p,.int l] j|none=>ao)=_;rw[ek]
   have s2:sN 2 2 (Y 9) "take_given" (bG Y) (U (p6 (nG Y) 5 1) (U (p6 (nG Y) 5 2) af)) (slots Y ns (k+1) aj code bY (~~~.fn a) o)=.ok (.lst (gD (r.take n) ls),slots Y ns m aj code bY (~~~.fn a) o):=by rw[TN,Ox (x:=sA Y (.arr (ns.map D.int)) ((k+1:Nat):Int)) 2 rfl rfl,bq,ER,bq,yu,e0,Zh,bq,yu,e0,Zi,bq,Ik,bq,bq,bq,afz (show([D.int (n:Int),D.int (u:Int)]:List D).length=2 from rfl),S];rfl
   have s3:SA Y (slots Y ns (k+1) aj code bY (~~~.fn a) o)=.ok (.nx (slots Y ns m tabs' code' bY (~~~.fn a) (~~~.lst (st.2.map D.int)))):=by
    unfold SA;rw[e0,Zg,bq,show L8 (D.fn f)=.ok f from rfl,bq];show(O 3 (slots Y ns (k+1) aj code bY (~~~.fn a) o)>>=λsd=>sN 2 2 (Y 9) "take_given" (bG Y) (U (p6 (nG Y) 5 1) (U (p6 (nG Y) 5 2) af)) (slots Y ns (k+1) aj code bY (~~~.fn a) o)>>=λp=>AV Y f sd p.1 p.2)=_;rw[iE (d:=au (Y 27) aj code) 3 rfl,bq,s2,bq];unfold AV;rw[ck];show(mH (Y 27) (au (Y 27) aj code)>>=_)=_;rw[sh,bq,afz ⟨T8 _ _,G.head,G.cP d,G.cy d⟩,T,bq,afz F.head];have c0:lF (Y 27) (Y 19) (~~~.arr (ns.map D.int))= ~~~.arr (ns.map D.int):=Ec (uL (CS:=Y 27) (CT:=Y 19) ns);have c1:lF (Y 27) (Y 19) (~~~WA Y)= ~~~WA Y:=Ec (Nd (CS:=Y 27) (CT:=Y 19) (l8 Y++l9 Y));have c2:lF (Y 27) (Y 19) (some (sA Y (.arr (ns.map D.int)) (m:Int)))=some (sA Y (.arr (ns.map D.int)) (m:Int)):=Ua (by show(cy (Y 27) (Y 19) (.arr (ns.map D.int))&&(true&&true))=true;rw[show cy (Y 27) (Y 19) (.arr (ns.map D.int))=true from uL (CS:=Y 27) (CT:=Y 19) ns];rfl)
    have c4:lF (Y 27) (Y 19) (some (.ow (bY.map D.int)))=some (.ow (bY.map D.int)):=T9 (uL bY);have c5:lF (Y 27) (Y 19) (~~~.fn a)= ~~~.fn a:=Ec rfl;show Except.ok (Fl.nx [lF (Y 27) (Y 19) (~~~.arr (ns.map D.int)),lF (Y 27) (Y 19) (~~~WA Y),lF (Y 27) (Y 19) (some (sA Y (.arr (ns.map D.int)) (m:Int))),~~~au (Y 27) tabs' code',lF (Y 27) (Y 19) (some (.ow (bY.map D.int))),lF (Y 27) (Y 19) (~~~.fn a),~~~.lst (st.2.map D.int)])=_;rw[c0,c1,c2,c4,c5]
   have z1:bY.length<sizeLine:=by rw[show sizeLine=16777216 from rfl];omega
   have z2:bY.length+1+st.2.length<=sizeLine:=by rw[show sizeLine=16777216 from rfl];omega
   unfold zT;rw[lZ,s1,bq,rF,lZ,s3,bq,rF];simp[z1,z2]
theorem OO{s:Vagram.State}{aj}{code:D}{ns}{k:Nat}{bY}{b d}:FL Y (slots Y ns k aj code bY b d)=.ok (!decide (ns.length<=k)):=by have a:=Lo (Y:=Y) (c:=.arr (ns.map D.int)) (.inr rfl) k;rw[afB]at a;unfold FL;simp[bE,dF,a]
def Ed(c)(b)(n):c6 c b (n+1) ρ=(c ρ>>=λq=>if q then b ρ>>=wc (c6 c b n)else .ok (.nx ρ)):=rfl
theorem Gu(d:rQ Y)(x:T7 Y){ns:List Int}:∀(f:Nat)R(cs:List (List (List Int)))(F k:Nat)bY s(aj:List D)(code:D)e g,
  PyFlat.calls PyVagram.shape f R=some cs->ns.drop k=R->k<=ns.length->R.length<F->(∀c∈cs,VagramNeutral.asked1 c=true)->Good Y s aj code->bY.length+cs.length*1001<=16777216->
  ∃(A:Nat)(tabs':List D)(code':D)(u v:Option L),c6 (FL Y) (zT Y) F (slots Y ns k aj code bY e g)=.ok (.nx (slots Y ns A tabs' code' (bY++PyFlat.told (PyFlat.played VagramNeutral.step s cs)) u v))
 |f,[],cs,0,k,bY,s,aj,code,e,g,_,_,_,h,_,_,_=>by simp at h
 |f,[],cs,F+1,k,bY,s,aj,code,e,g,a,o,B,_,_,_,_=>by
  have:cs=[]:=by unfold PyFlat.calls at a;cases a;rfl
  subst this;have i:ns.length<=k:=by
   have:=agg List.length o;simp at this
   lia
  refine⟨k,aj,code,e,g,?_⟩;rw[Ed,OO (s:=s),bq,af7 i,Bool.not_true,afy afJ];rw[show PyFlat.told (PyFlat.played VagramNeutral.step s [])=[]from rfl,agh]
 |0,p::r,cs,F,k,bY,s,aj,code,e,g,a,_,_,_,_,_,_=>by cases a
 |f+1,p::r,cs,0,k,bY,s,aj,code,e,g,_,_,_,h,_,_,_=>by simp at h
 |f+1,p::r,cs,F+1,k,bY,s,aj,code,e,g,a,o,B,C,y,G,E=>by
  unfold PyFlat.calls at a;cases e1:PyFlat.call PyVagram.shape (p::r)with
  |none=>rw[e1]at a;cases a
  |some q=>
   obtain⟨c,t⟩:=q;rw[e1]at a;dsimp only at a;cases w:PyFlat.calls PyVagram.shape f t with
   |none=>rw[w]at a;cases a
   |some b=>
    rw[w]at a;cases a;have H:bY.length+(b.length+1)*1001<=16777216:=E;have hm:(b.length+1)*1001=b.length*1001+1001:=agY ..;obtain⟨I,j,l,u,v,N,P,i3,Q,i4,S⟩:=QC d x G e g o e1 (y c afH) (bY:=bY) (by lia);have i:¬ns.length<=k:=λz=>by rw[ahx z]at o;cases o
    have T:r.length+1<F+1:=C;obtain⟨W,m,n,X,Z,ih⟩:=Gu d x f t b F I (bY++(((VagramNeutral.step s c).2.length:Int)::(VagramNeutral.step s c).2)) (VagramNeutral.step s c).1 j l u v w P N (by lia) (λc a=>y c (afA _ a)) Q (by rw[afM,af5];lia);refine⟨W,m,n,X,Z,?_⟩;rw[Ed,OO (s:=s),bq,aga i,Bool.not_false,afz rfl,S,bq,qj,ih,agX];rfl
theorem Nf:cH 0 (Y 27) (gm Y) []=.ok (au (Y 27) ((List.replicate 6 QL).map (Tb.e Y)) (cU Y 0 0 [] [])):=by
 have q:(Str.ofString "tables"=Str.ofString "code")=False:=by decide
 have d:=fk (show 6<=1000000 by decide);have c:∀ρ,ρ=[some (.ce (Y 27) [] []),none]->br (aI 1) bM (aa (U (aG (.int 0)) (U (aG (.int 0)) (U (aa af dB) af))) (cH 3 (Y 19) (aO Y))) ρ ((List.range 6).map λi=>.int ((i:Nat):Int)) []=.ok ((List.range 6).map λ_=>QL.e Y):=λρ a=>by
  subst a;refine bf _ (by lia) λi g=>⟨_,rfl,?_⟩
  simp;rfl
 have f:((List.range 6).map λ_=>QL.e Y)=(List.replicate 6 QL).map (Tb.e Y):=rfl;simp only[cH,xF,gm,runC,oF,dY];rw[f]at c;have b:nX [.int 6]=.ok ((List.range 6).map λi=>.int ((i:Nat):Int)):=d;simp[b,-List.map_replicate];rw[c _ rfl];simp[rK,fy,sy,pW,Cv,q,-List.map_replicate];rfl
theorem Ef:Good Y VagramNeutral.start ((List.replicate 6 QL).map (Tb.e Y)) (cU Y 0 0 [] []):=by refine⟨⟨List.replicate 6 QL,rfl,λt a=>?_,rfl,rfl⟩,0,0,[],[],[],rfl,rfl,?_⟩;rw[List.eq_of_mem_replicate a];exact ZE;exact⟨.nil,rfl,by decide,rfl,λo b=>absurd b agN,by decide,by decide⟩
theorem Ba(d:rQ Y)(G:Good Y s aj code):∀{f:Nat}{R:List Int}{cs:List (List (List Int))},PyFlat.calls PyVagram.shape f R=some cs->∀c∈cs,PyVagram.whole c=c
 |f,[],cs,h,c,a=>by
  have:cs=[]:=by unfold PyFlat.calls at h;cases h;rfl
  subst this;exact absurd a agN
 |0,p::r,cs,h,_,_=>by cases h
 |f+1,p::r,cs,h,c,a=>by
  unfold PyFlat.calls at h;cases e1:PyFlat.call PyVagram.shape (p::r)with
  |none=>rw[e1]at h;cases h
  |some q=>
   obtain⟨u,t⟩:=q;rw[e1]at h;dsimp only at h;cases e:PyFlat.calls PyVagram.shape f t with
   |none=>rw[e]at h;cases h
   |some j=>
    rw[e]at h;cases h;rcases afU.mp a with rfl|a;unfold PyFlat.call at e1;dsimp only at e1;cases b:PyVagram.shape p with
    |none=>rw[b]at e1;cases e1
    |some q=>
     obtain⟨n,k⟩:=q;rw[b]at e1;dsimp only at e1;split at e1;cases e1;rename_i v;cases g:PyFlat.rows k (r.drop n)with
     |none=>rw[g]at e1;cases e1
     |some l=>obtain⟨m,w⟩:=l;rw[g]at e1;cases e1;obtain⟨i,rfl⟩:=Gs b;have o:=Eb g;exact(W8 d G i (r.take n) m (by rw[b,o.2,ag3,ahe (by lia)])).1
    exact Ba d G e c a
theorem Ng(d:rQ Y)(b:T7 Y)(h:PyVagram.answers_asked ns=true)(n:ns.length<=16777215):yh Y ns=.ok (.lst ((PyVagram.answers ns).map D.int)):=by
 unfold PyVagram.answers_asked at h;unfold PyVagram.answers;unfold PyVagram.calls at h|-;cases e:PyFlat.calls PyVagram.shape ns.length ns with
 |none=>rw[e]at h;cases h
 |some cs=>
  rw[e]at h;have i:cs.map PyVagram.whole=cs:=by
   have:=afY (l:=cs) (f:=PyVagram.whole) (g:=id) λc a=>Ba d Ef e c a
   rw[this,List.map_id]
  have h:(PyFlat.atMost 400 (cs.map PyVagram.whole)&&VagramNeutral.asked (cs.map PyVagram.whole))=true:=h;show yh Y ns=.ok (.lst ((PyFlat.told (PyFlat.played VagramNeutral.step VagramNeutral.start (cs.map PyVagram.whole))).map D.int));rw[i]at h|-;unfold PyFlat.atMost VagramNeutral.asked at h;rw[afL,afL,agf]at h;obtain⟨o,tabs',code',p,q,j⟩:=Gu d b ns.length ns cs (ns.length+1) 0 [] VagramNeutral.start _ _ none none e rfl (by lia) (by lia) (λc a=>agC.mp h.2.1 c a) Ef (by have:=h.1;simp;lia);have is:=Nf (Y:=Y);have k:=Oz (Y:=Y) (.arr (ns.map D.int));unfold yh nH;rw[show ai 7 [D.arr (ns.map D.int)]=[~~~.arr (ns.map D.int),none,none,none,none,none,none]from rfl];rw[lZ,wN,SQ,bq,bq,rF,lZ];rw[show JV 2 1 (Y 9) (c8 Y) (U (O 0) af) ([~~~.arr (ns.map D.int),none,none,none,none,none,none].set 1 (~~~WA Y))=.ok (.nx [~~~.arr (ns.map D.int),~~~WA Y,some (sA Y (.arr (ns.map D.int)) 0),none,none,none,none])by unfold JV;simp[k]]
  rw[bq,rF,lZ,wN,is,bq,bq,rF,lZ];rw[show xy 4 af ([~~~.arr (ns.map D.int),~~~WA Y,some (sA Y (.arr (ns.map D.int)) 0),none,none,none,none].set 3 (~~~au (Y 27) ((List.replicate 6 QL).map (Tb.e Y)) (cU Y 0 0 [] [])))=.ok (.nx (slots Y ns 0 ((List.replicate 6 QL).map (Tb.e Y)) (cU Y 0 0 [] []) [] none none))by rw[Zk,Ik,bq,afz (show([]:List D).length<=sizeLine from agQ _)];rfl]
  rw[bq,rF,lZ];have m:yg (slots Y ns 0 ((List.replicate 6 QL).map (Tb.e Y)) (cU Y 0 0 [] []) [] none none)=ns.length+1:=by show(ns.map D.int).length+1=_;rw[afB]
  show((c6 (FL Y) (zT Y) (yg (slots Y ns 0 ((List.replicate 6 QL).map (Tb.e Y)) (cU Y 0 0 [] []) [] none none)) (slots Y ns 0 ((List.replicate 6 QL).map (Tb.e Y)) (cU Y 0 0 [] []) [] none none)>>=JK (o6 4 (bF (O 4))))>>=L5)=_;rw[m,j,agH];rfl
end Fx
namespace Fin
open PySem PySem.Spec PyProof.Rows L2 DL Ev Fx
structure bg(K:W.Frag)(x qual:Str)(st:Stmt)(f:Addr):Prop where
 ex:∃(oc:Value)(od:Option Addr)(kV doc pm:Value)(an:Option Addr)(cdv ct:Value)(osl:Array (Option Value)),K.lookup f=some ⟨oc,od,.func (W.fnOf x qual (qA st) (gG st) (aP st) .none kV doc pm an cdv ct),osl⟩/\W.codeIn K cdv qual=true
 k:W.keepIn K (.ref f)=true
theorem afl{K:W.Frag}{x a:Str}{st:Stmt}{f:Addr}{g:Value}{h:Option Addr}{kV d i:Value}{an:Option Addr}{b ct:Value}{e:Array (Option Value)}(l:K.lookup f=some ⟨g,h,.func (W.fnOf x a (qA st) (gG st) (aP st) .none kV d i an b ct),e⟩)(c:W.codeIn K b a=true)(k:W.keepIn K (.ref f)=true):bg K x a st f:=⟨⟨g,h,kV,d,i,an,b,ct,e,l,c⟩,k⟩
def Uo(K:W.Frag)(Y:afp):aft:=λs=>match K.lookup (Y s)with|some ⟨_,_,.func F,_⟩=>F|_=>default
theorem bg.fn{K:W.Frag}{x a:Str}{st:Stmt}{Y:afp}{s:Nat}(r:bg K x a st (Y s)):LX K x a st (Y s) (Uo K Y s):=by obtain⟨f,g,kV,b,h,an,d,i,e,l,c⟩:=r.ex;refine⟨⟨f,g,kV,b,h,an,d,i,e,?_,?_,c⟩,r.k⟩;unfold Uo;rw[l];unfold Uo;rw[l]
structure Eg(K:W.Frag)(C:Addr):Prop where
 pg:W.plainGet K C Str.empty=true
 hd:W.hasDictIn K C=true
 po:W.plainOver K C=true
 sa:W.findIn K (.ref C) "__setattr__"=some (some (.builtin "object.__setattr__"))
 mi:W.makesIn K C=true
 kc:W.keepIn K (.ref C)=true
theorem Eg.cls{K:W.Frag}{C:Addr}(r:Eg K C):vj K C:=⟨r.pg,r.hd,r.po,r.sa⟩
def Nh(e:DictEntry):Bool:=match e.key with| .str _ _=>true|_=>false
structure Bx(K:W.Frag)(C:Addr):Prop where
 ex:∃(nm q:Str)(N:Addr)(bs:List Value)(hdct:Bool)(sn:List Str)(sub:List Value)(ab:Bool)(col:Option Bool)(dd:Option Addr)(k0 k1 k2 k3 k5:Option Value)(oc:Value)(od:Option Addr)(es:List DictEntry)(ep:Nat)(sl:Array (Option Value)),
  K.lookup C=some (excClassObj nm q C N bs [.type "Exception",.type "BaseException",.type "object"] hdct sn sub ab col dd k0 k1 k2 k3 k5 "Exception.__new__")/\K.lookup N=some ⟨oc,od,.dict es.toArray ep,sl⟩/\es.all Nh=true/\W.nsIn K N "__init__"=some none
theorem afm{K:W.Frag}{C:Addr}{nm q:Str}{N:Addr}{bs:List Value}{hdct:Bool}{sn:List Str}{sub:List Value}{ab:Bool}{col:Option Bool}{dd:Option Addr}{k0 k1 k2 k3 k5:Option Value}{b:Value}{c:Option Addr}{a:List DictEntry}{d:Nat}{e:Array (Option Value)}(l:K.lookup C=some (excClassObj nm q C N bs [.type "Exception",.type "BaseException",.type "object"] hdct sn sub ab col dd k0 k1 k2 k3 k5 "Exception.__new__")) (f:K.lookup N=some ⟨b,c,.dict a.toArray d,e⟩) (s:a.all Nh=true) (n:W.nsIn K N "__init__"=some none):Bx K C:=⟨nm,q,N,bs,hdct,sn,sub,ab,col,dd,k0,k1,k2,k3,k5,b,c,a,d,e,l,f,s,n⟩
theorem Bx.cls{K:W.Frag}{C:Addr}(r:Bx K C):iu K C:=by obtain⟨d,q,N,bs,hdct,f,sub,g,a,i,j,k,m,o,p,v,w,b,t,x,l,c,s,n⟩:=r.ex;refine⟨d,q,N,bs,hdct,f,sub,g,a,i,j,k,m,o,p,nsFind b.toArray,l,λh X=>⟨_,b.toArray,t,X _ _ c,rfl,λe u=>?_,λ_=>rfl⟩,?_⟩;have:=agC.mp s e (by simpa using u);unfold Nh at this;split at this;exact⟨_,_,by assumption⟩;cases this;unfold W.nsIn at n;rw[c]at n;dsimp only at n;split at n;cases n;unfold nsFind findBy;rw[<-aiF,‹List.find? _ _=none›];rfl
structure jF(K:W.Frag)(a:Addr)(us:List Value):Prop where
 ex:∃(od:Option Addr)(n:Nat)(sl:Array (Option Value)),K.lookup a=some ⟨.type "tuple",od,.seq us.toArray n,sl⟩
theorem afn{K:W.Frag}{a:Addr}{us:List Value}{b:Option Addr}{n:Nat}{c:Array (Option Value)}(l:K.lookup a=some ⟨.type "tuple",b,.seq us.toArray n,c⟩):jF K a us:=⟨b,n,c,l⟩
theorem jF.sq{K:W.Frag}{a:Addr}{us:List Value}{vs:List V}(r:jF K a us)(H:Hp)(v:bL vs us)(b:us.length<=1000:=by simp):kH K H a vs:=by obtain⟨c,n,d,l⟩:=r.ex;exact .inr ⟨_,us.toArray,n,l,rfl,rfl,by rw[afX,show sizeLine=16777216 from rfl];omega,by rw[List.toList_toArray];exact v⟩
theorem Gv:∀l:List (Int×Tok),bL ((l.map (·.1)).map V.int) (l.map λp=>.int p.1 p.2)|[]=>.nil|p::l=>.cons ⟨p.2,rfl⟩ (Gv l)
theorem Au:∀l:List Addr,bL (l.map V.ref) (l.map Value.ref)|[]=>.nil|a::l=>.cons rfl (Au l)
theorem cB(f:Addr)(p l:Int)(t u:Tok):bL [.ref f,.int p,.int l] [.ref f,.int p t,.int l u]:=.cons rfl (.cons ⟨t,rfl⟩ (.cons ⟨u,rfl⟩ .nil))
theorem bn{C:List Value->Prop}(f:C []):∀us:List Value,us.length=0->C us|[],_=>f
theorem bs{C:List Value->Prop}{n:Nat}(f:∀(a:Value)(us:List Value),us.length=n->C (a::us)):∀us:List Value,us.length=n+1->C us|a::us,h=>f a us (Nat.succ.inj h)
local macro_rules| `(tactic|walk_at "b")=> `(tactic|(intro _ _ _ _ _ _;(repeat refine bs λ_=>?_);refine bn ?_;exact rfl))
def yW(l:List Addr)(n:Nat):Addr:=l.getD n 0
abbrev N1(K:W.Frag)(x:Str)(p:Addr):Prop:=W.nsIn K mainGlobals x=some (some (.ref p))
abbrev F1(K:W.Frag)(C:Addr)(x:Str)(p:Addr):Prop:=W.findIn K (.ref C) x=some (some (.ref p))
section
variable{P:Program}{w:World}{K:W.Frag}{h:Heap}{mg:afs}{Y:afp}
theorem m0{x:Str}(X:K.In h)(G:h.Ns mainGlobals mg)(e:W.nsIn K mainGlobals x=some none):mg x=none:=W.mg_none_of X G e
theorem m1{x:Str}{v:Value}(X:K.In h)(G:h.Ns mainGlobals mg)(e:W.nsIn K mainGlobals x=some (some v)):mg x=some v:=W.mg_of X G e
theorem gf{x:Str}{st:Stmt}{ps:List Str}{n:Nat}(X:K.In h)(G:h.Ns mainGlobals mg)(a:N1 K x (Y n))(r:bg K x x st (Y n))(b:∀(kV c e:Value)(an:Option Addr)(d ct:Value)(us:List Value),us.length=ps.length->bindArgs (W.fnOf x x (qA st) (gG st) (aP st) .none kV c e an d ct) ⟨us,[]⟩=pure (ps.zip us):=by walk_at "b"):GF K mg x st ps (Y n) (Uo K Y n):=⟨r.fn,r.fn.binds b,W.mg_of X G a,r.k⟩
theorem mf{C:Addr}{x q:Str}{st:Stmt}{ps:List Str}{n:Nat}(a:F1 K C x (Y n))(i:W.isFn K (.ref (Y n))=true)(r:bg K x q st (Y n))(b:∀(kV c e:Value)(an:Option Addr)(d ct:Value)(us:List Value),us.length=ps.length->bindArgs (W.fnOf x q (qA st) (gG st) (aP st) .none kV c e an d ct) ⟨us,[]⟩=pure (ps.zip us):=by walk_at "b"):MF K C x q st ps (Y n) (Uo K Y n):=⟨r.fn,r.fn.binds b,a,i,r.k⟩
def spR(K:W.Frag):Sp:=λd H Q E=>∃(a:Addr)(b:List Int),d=[.ref a]/\Ub K H a (b.map V.int)/\PyVagram.answers_asked b=true/\b.length<=17000/\∀p c,c p=some (.lst ((PyVagram.answers b).map V.int))->Q (.ref p) c
theorem ZK{Y:afp}{n:Addr}(X:K.In h)(G:h.Ns mainGlobals mg)(f:mg "answers"=some (.ref n))(e:∀base:Heap,base.NoSeer->Env P w K mg base Y (Uo K Y))(t:V0 K mg Y)(a:W.nsIn K mainGlobals "answers"=some (some (.ref (Y 124))))(r:bg K "answers" "answers" (bC 143) (Y 124))(d:rQ Y)(u:T7 Y):
  ∃o:FuncData,(∀(s:Shared)(us:List Value),us.length=(["calls"]:List Str).length->BindsTo s o ⟨us,[]⟩ ((["calls"]:List Str).zip us))/\∀base:Heap,K.In base->base.Ns mainGlobals mg->base.NoSeer->eH P w K mg base (kB P w) 61 n o ["calls"] (spR K):=by
 have q:=f.symm.trans (W.mg_of X G a);cases q;refine⟨Uo K Y 124,λs us v=>?_,λbase _ _ g=>?_⟩;obtain⟨Z,od,kV,i,x,an,j,ct,y,l,c⟩:=r.ex;have z:Uo K Y 124=W.fnOf "answers" "answers" (qA (bC 143)) (gG (bC 143)) (aP (bC 143)) .none kV i x an j ct:=by unfold Uo;rw[l]
 rw[z];exact match us,v with|[_],_=>.of_eq rfl
 have B:=MD (e base g) t;refine⟨λp H Q E k=>?_,λA b s H args us p Q E C F I N k=>B.run A b s H args us p Q E C F I N ?_⟩;obtain⟨a,m,e1,_⟩:=k;rw[e1];rfl;obtain⟨a,m,e1,R,S,e5,T⟩:=k;exact⟨a,m,PyVagram.answers m,e1,R,Ng d u S (by omega),T⟩
end
theorem aeh{P:Program}{w:World}{K:W.Frag}{h:Heap}{mg:afs}{Y:afp}{fa:Addr}{t0 t1 t2 t3 t4 t5 t6 t7 t8 t9 to w1 dp py eu k4 u v z A B C E dr b0 de fc mu tA fx u1 ej ec c0 bA eb s4 cm y1 qt bB il z' kw lk e5 oT pe y2 g4 na nf w2 wh ti pg tt hO gh o5 oy gA gd y8 y9 kz bK w' n3 q7 th vu p':Tok}(X:K.In h)(G:h.Ns mainGlobals mg)(q5:mg "answers"=some (.ref fa))(rl:P.given.tree=none)(h0:W.nsIn K mainGlobals "len"=some none)(h1:W.nsIn K mainGlobals "range"=some none)(h2:W.nsIn K mainGlobals "abs"=some none)(h3:W.nsIn K mainGlobals "sum"=some none)(h4:W.nsIn K mainGlobals "any"=some none)(h5:W.nsIn K mainGlobals "zip"=some none)(h6:W.nsIn K mainGlobals "enumerate"=some none)(h7:W.nsIn K mainGlobals "list"=some none)(h8:W.nsIn K mainGlobals "min"=some none)(h9:W.nsIn K mainGlobals "max"=some none)(gv:W.nsIn K mainGlobals "HEAVIEST"=some (some (.int 2000 t0)))(sm:W.nsIn K mainGlobals "MOST_LINES"=some (some (.int 40 t1)))(bw:W.nsIn K mainGlobals "INPUT"=some (some (.int 0 t2)))(v1:W.nsIn K mainGlobals "CONSTANT"=some (some (.int 1 t3)))(mb:W.nsIn K mainGlobals "SUM"=some (some (.int 2 t4)))(u':W.nsIn K mainGlobals "DIFFERENCE"=some (some (.int 3 t5)))(pt:W.nsIn K mainGlobals "PRODUCT"=some (some (.int 4 t6)))(w3:W.nsIn K mainGlobals "QUOTIENT"=some (some (.int 5 t7)))(s7:W.nsIn K mainGlobals "OPPOSITE"=some (some (.int 6 t8)))(n7:W.nsIn K mainGlobals "HEAVIEST_VALUE"=some (some (.int 200 t9)))(sa:W.nsIn K mainGlobals "LONGEST"=some (some (.int 6 to)))(rz:W.nsIn K mainGlobals "FIXED_POINT"=some (some (.int 1 w1)))(n5:W.nsIn K mainGlobals "PLACES"=some (some (.int 6 dp)))(wk:W.nsIn K mainGlobals "MOST_UNKNOWNS"=some (some (.int 4 py)))(ey:W.nsIn K mainGlobals "MOST_PARAMETERS"=some (some (.int 4 eu)))(fi:W.nsIn K mainGlobals "HIGHEST_POWER"=some (some (.int 12 k4)))(rp:N1 K "OutOfRange" (Y 0))(j':Bx K (Y 0))(y4:N1 K "BadList" (Y 1))(dt:Bx K (Y 1))(r4:N1 K "TooManyLines" (Y 2))(cb:Bx K (Y 2))(wl:N1 K "NotEarlier" (Y 3))(so:Bx K (Y 3))(dK:N1 K "SizesDontFit" (Y 4))(dT:Bx K (Y 4))(w0:N1 K "FaultyRun" (Y 5))(s5:Bx K (Y 5))(s6:N1 K "DontHold" (Y 6))(dV:Bx K (Y 6))(ix:N1 K "NoResult" (Y 7))(gs:Bx K (Y 7))(u3:N1 K "TooLarge" (Y 8))(a4:Bx K (Y 8))(a6:N1 K "Reader" (Y 9))(m:Eg K (Y 9))(F:F1 K (Y 9) "__init__" (Y 10))(I:W.isFn K (.ref (Y 10))=true)(gb:aZ K (Y 9) "numbers")(v3:aZ K (Y 9) "place")(e6:bg K "__init__" "Reader.__init__" (eK 24 0) (Y 10))(ln:F1 K (Y 9) "ended" (Y 11))(ci:W.isFn K (.ref (Y 11))=true)(tu:bg K "ended" "Reader.ended" (eK 24 1) (Y 11))(q6:F1 K (Y 9) "take" (Y 12))(r7:W.isFn K (.ref (Y 12))=true)(me:bg K "take" "Reader.take" (eK 24 2) (Y 12))(cL:F1 K (Y 9) "take_row" (Y 13))(fh:W.isFn K (.ref (Y 13))=true)(ox:bg K "take_row" "Reader.take_row" (eK 24 3) (Y 13))(qf:F1 K (Y 9) "take_given" (Y 14))(zp:W.isFn K (.ref (Y 14))=true)(re:bg K "take_given" "Reader.take_given" (eK 24 4) (Y 14))(pw:N1 K "Line" (Y 15))(n:Eg K (Y 15))(N:F1 K (Y 15) "__init__" (Y 16))(Q:W.isFn K (.ref (Y 16))=true)(qb:aZ K (Y 15) "kind")(gi:aZ K (Y 15) "numbers")(ed:bg K "__init__" "Line.__init__" (eK 35 0) (Y 16))(xd:N1 K "Code" (Y 17))(o:Eg K (Y 17))(R:F1 K (Y 17) "__init__" (Y 18))(S:W.isFn K (.ref (Y 18))=true)(tr:aZ K (Y 17) "unknowns")(ri:aZ K (Y 17) "parameters")(td:aZ K (Y 17) "lines")(mz:aZ K (Y 17) "outs")(bm:bg K "__init__" "Code.__init__" (eK 36 0) (Y 18))(mN:N1 K "Table" (Y 19))(p:Eg K (Y 19))(T:F1 K (Y 19) "__init__" (Y 20))(Z:W.isFn K (.ref (Y 20))=true)(q9:aZ K (Y 19) "height")(oz:aZ K (Y 19) "width")(ez:aZ K (Y 19) "rows")(x4:bg K "__init__" "Table.__init__" (eK 50 0) (Y 20))(nB:N1 K "Reduced" (Y 21))(r:Eg K (Y 21))(ds:F1 K (Y 21) "__init__" (Y 22))(ok:W.isFn K (.ref (Y 22))=true)(nn:aZ K (Y 21) "table")(mx:aZ K (Y 21) "leading")(pz:bg K "__init__" "Reduced.__init__" (eK 71 0) (Y 22))(gj:N1 K "Solution" (Y 23))(t:Eg K (Y 23))(vs:F1 K (Y 23) "__init__" (Y 24))(xs:W.isFn K (.ref (Y 24))=true)(i5:aZ K (Y 23) "table")(fu:aZ K (Y 23) "only")(hi:bg K "__init__" "Solution.__init__" (eK 77 0) (Y 24))(hb:N1 K "Point" (Y 25))(a:Eg K (Y 25))(d:F1 K (Y 25) "__init__" (Y 26))(e:W.isFn K (.ref (Y 26))=true)(ps:aZ K (Y 25) "code")(hc:aZ K (Y 25) "kind")(ns:aZ K (Y 25) "inputs")(hj:aZ K (Y 25) "worked")(hl:bg K "__init__" "Point.__init__" (eK 84 0) (Y 26))(ha:N1 K "Shelf" (Y 27))(b:Eg K (Y 27))(f:F1 K (Y 27) "__init__" (Y 28))(g:W.isFn K (.ref (Y 28))=true)(hp:aZ K (Y 27) "tables")(hs:aZ K (Y 27) "code")(hk:bg K "__init__" "Shelf.__init__" (eK 97 0) (Y 28))(es:F1 K (Y 27) "held" (Y 29))(fs:W.isFn K (.ref (Y 29))=true)(hr:bg K "held" "Shelf.held" (eK 97 1) (Y 29))(h':F1 K (Y 27) "put" (Y 30))(cd:W.isFn K (.ref (Y 30))=true)(ws:bg K "put" "Shelf.put" (eK 97 2) (Y 30))(o1:N1 K "Elimination" (Y 31))(c:Eg K (Y 31))(i:F1 K (Y 31) "__init__" (Y 32))(j:W.isFn K (.ref (Y 32))=true)(tl:aZ K (Y 31) "changes")(hd:aZ K (Y 31) "numbers")(hz:bg K "__init__" "Elimination.__init__" (eK 109 0) (Y 32))(ho:N1 K "greatest_common" (Y 33))(sh:bg K "greatest_common" "greatest_common" (bC 12) (Y 33))(he:N1 K "lowest" (Y 34))(r1:bg K "lowest" "lowest" (bC 13) (Y 34))(hx:N1 K "weight" (Y 35))(rs:bg K "weight" "weight" (bC 14) (Y 35))(s1:N1 K "settled_fraction" (Y 36))(o2:bg K "settled_fraction" "settled_fraction" (bC 15) (Y 36))(hn:N1 K "plus" (Y 37))(op:bg K "plus" "plus" (bC 16) (Y 37))(q1:N1 K "opposite" (Y 38))(s':bg K "opposite" "opposite" (bC 17) (Y 38))(xe:N1 K "minus" (Y 39))(hf:bg K "minus" "minus" (bC 18) (Y 39))(q2:N1 K "times" (Y 40))(hq:bg K "times" "times" (bC 19) (Y 40))(ow:N1 K "over" (Y 41))(dx:bg K "over" "over" (bC 20) (Y 41))(ih:N1 K "common_denominator" (Y 42))(hg:bg K "common_denominator" "common_denominator" (bC 21) (Y 42))(hv:N1 K "numerators_over" (Y 43))(e3:bg K "numerators_over" "numerators_over" (bC 22) (Y 43))(nx:N1 K "take_line" (Y 44))(g1:bg K "take_line" "take_line" (bC 37) (Y 44))(ht:N1 K "lines_of" (Y 45))(k1:bg K "lines_of" "lines_of" (bC 38) (Y 45))(hP:N1 K "need_earlier" (Y 46))(ce:bg K "need_earlier" "need_earlier" (bC 39) (Y 46))(gr:N1 K "need_outs" (Y 47))(t':bg K "need_outs" "need_outs" (bC 40) (Y 47))(bl:N1 K "code_of" (Y 48))(hu:bg K "code_of" "code_of" (bC 41) (Y 48))(fp:N1 K "value_of" (Y 49))(ys:bg K "value_of" "value_of" (bC 44) (Y 49))(r2:N1 K "values_of" (Y 50))(fn:bg K "values_of" "values_of" (bC 45) (Y 50))(r':N1 K "change_of" (Y 51))(rx:bg K "change_of" "change_of" (bC 46) (Y 51))(ex:N1 K "changes_of" (Y 52))(k2:bg K "changes_of" "changes_of" (bC 47) (Y 52))(fe:N1 K "table_of" (Y 53))(z2:bg K "table_of" "table_of" (bC 51) (Y 53))(ta:N1 K "entries_of" (Y 54))(ob:bg K "entries_of" "entries_of" (bC 52) (Y 54))(ch:N1 K "settled_table" (Y 55))(fb:bg K "settled_table" "settled_table" (bC 53) (Y 55))(hN:N1 K "need_square" (Y 56))(el:bg K "need_square" "need_square" (bC 54) (Y 56))(s2:N1 K "are_same" (Y 57))(rv:bg K "are_same" "are_same" (bC 55) (Y 57))(cl:N1 K "sum_of" (Y 58))(z1:bg K "sum_of" "sum_of" (bC 56) (Y 58))(f1:N1 K "difference_of" (Y 59))(o':bg K "difference_of" "difference_of" (bC 57) (Y 59))(pl:N1 K "scaled" (Y 60))(s3:bg K "scaled" "scaled" (bC 58) (Y 60))(sp:N1 K "turned" (Y 61))(cs:bg K "turned" "turned" (bC 59) (Y 61))(np:N1 K "joined_beside" (Y 62))(a1:bg K "joined_beside" "joined_beside" (bC 60) (Y 62))(ct:N1 K "joined_below" (Y 63))(c1:bg K "joined_below" "joined_below" (bC 61) (Y 63))(ne:N1 K "part_of" (Y 64))(ls:bg K "part_of" "part_of" (bC 62) (Y 64))(pp:N1 K "whole_unit" (Y 65))(sc:bg K "whole_unit" "whole_unit" (bC 63) (Y 65))(hy:N1 K "whole_product" (Y 66))(k0:bg K "whole_product" "whole_product" (bC 64) (Y 66))(e':N1 K "whole_rows" (Y 67))(it:bg K "whole_rows" "whole_rows" (bC 65) (Y 67))(p2:N1 K "rows_over" (Y 68))(x':bg K "rows_over" "rows_over" (bC 66) (Y 68))(tb:N1 K "unit_table" (Y 69))(ry:bg K "unit_table" "unit_table" (bC 67) (Y 69))(tg:N1 K "product_of" (Y 70))(k3:bg K "product_of" "product_of" (bC 68) (Y 70))(fl:N1 K "power_of" (Y 71))(a2:bg K "power_of" "power_of" (bC 69) (Y 71))(g2:N1 K "first_filled" (Y 72))(cp:bg K "first_filled" "first_filled" (bC 72) (Y 72))(no:N1 K "change_rows" (Y 73))(n1:bg K "change_rows" "change_rows" (bC 73) (Y 73))(q':N1 K "cleared_row" (Y 74))(rt:bg K "cleared_row" "cleared_row" (bC 74) (Y 74))(f2:N1 K "reduced" (Y 75))(lp:bg K "reduced" "reduced" (bC 75) (Y 75))(i1:N1 K "divided_off" (Y 76))(g':bg K "divided_off" "divided_off" (bC 78) (Y 76))(q3:N1 K "inverse_of" (Y 77))(hh:bg K "inverse_of" "inverse_of" (bC 79) (Y 77))(is:N1 K "solution_of" (Y 78))(ov:bg K "solution_of" "solution_of" (bC 80) (Y 78))(i2:N1 K "kernel_of" (Y 79))(x6:bg K "kernel_of" "kernel_of" (bC 81) (Y 79))(od:N1 K "residual_at" (Y 80))(hA:bg K "residual_at" "residual_at" (bC 85) (Y 80))(c':N1 K "need_hold" (Y 81))(k':bg K "need_hold" "need_hold" (bC 86) (Y 81))(c2:N1 K "derivatives_by" (Y 82))(i':bg K "derivatives_by" "derivatives_by" (bC 87) (Y 82))(te:N1 K "moves_at" (Y 83))(qs:bg K "moves_at" "moves_at" (bC 88) (Y 83))(sl:N1 K "fractions_of" (Y 84))(d':bg K "fractions_of" "fractions_of" (bC 90) (Y 84))(hB:N1 K "told_fractions" (Y 85))(e4:bg K "told_fractions" "told_fractions" (bC 91) (Y 85))(g3:N1 K "told_settled" (Y 86))(dv:bg K "told_settled" "told_settled" (bC 92) (Y 86))(bk:N1 K "need_range" (Y 87))(p1:bg K "need_range" "need_range" (bC 95) (Y 87))(b2:N1 K "need_place" (Y 88))(wt:bg K "need_place" "need_place" (bC 96) (Y 88))(ep:N1 K "point_of" (Y 89))(mA:bg K "point_of" "point_of" (bC 101) (Y 89))(en:N1 K "need_kind" (Y 90))(hD:bg K "need_kind" "need_kind" (bC 102) (Y 90))(f3:N1 K "call_code" (Y 91))(ea:bg K "call_code" "call_code" (bC 103) (Y 91))(y':N1 K "call_residual" (Y 92))(x8:bg K "call_residual" "call_residual" (bC 104) (Y 92))(a0:N1 K "call_implicit" (Y 93))(hQ:bg K "call_implicit" "call_implicit" (bC 105) (Y 93))(n2:N1 K "call_pull" (Y 94))(sd:bg K "call_pull" "call_pull" (bC 106) (Y 94))(hK:N1 K "eliminated" (Y 95))(tk:bg K "eliminated" "eliminated" (bC 110) (Y 95))(x7:N1 K "elimination_of" (Y 96))(k5:bg K "elimination_of" "elimination_of" (bC 111) (Y 96))(f5:N1 K "determinant_of" (Y 97))(hM:bg K "determinant_of" "determinant_of" (bC 112) (Y 97))(of:N1 K "trace_of" (Y 98))(a':bg K "trace_of" "trace_of" (bC 113) (Y 98))(as:N1 K "with_added" (Y 99))(hS:bg K "with_added" "with_added" (bC 114) (Y 99))(hC:N1 K "characteristic_numbers" (Y 100))(n4:bg K "characteristic_numbers" "characteristic_numbers" (bC 115) (Y 100))(m2:N1 K "put_joined" (Y 101))(oc:bg K "put_joined" "put_joined" (bC 118) (Y 101))(sb:N1 K "call_set" (Y 102))(pm:bg K "call_set" "call_set" (bC 119) (Y 102))(l2:N1 K "call_get" (Y 103))(d0:bg K "call_get" "call_get" (bC 120) (Y 103))(qq:N1 K "call_add" (Y 104))(o3:bg K "call_add" "call_add" (bC 121) (Y 104))(x5:N1 K "call_sub" (Y 105))(y6:bg K "call_sub" "call_sub" (bC 122) (Y 105))(er:N1 K "call_mul" (Y 106))(r3:bg K "call_mul" "call_mul" (bC 123) (Y 106))(y7:N1 K "call_scale" (Y 107))(ft:bg K "call_scale" "call_scale" (bC 124) (Y 107))(m':N1 K "call_turn" (Y 108))(z3:bg K "call_turn" "call_turn" (bC 125) (Y 108))(f4:N1 K "call_unit" (Y 109))(zs:bg K "call_unit" "call_unit" (bC 126) (Y 109))(ar:N1 K "call_beside" (Y 110))(pn:bg K "call_beside" "call_beside" (bC 127) (Y 110))(hL:N1 K "call_below" (Y 111))(iv:bg K "call_below" "call_below" (bC 128) (Y 111))(hF:N1 K "call_part" (Y 112))(i4:bg K "call_part" "call_part" (bC 129) (Y 112))(un:N1 K "call_power" (Y 113))(ts:bg K "call_power" "call_power" (bC 130) (Y 113))(l':N1 K "call_reduce" (Y 114))(hT:bg K "call_reduce" "call_reduce" (bC 131) (Y 114))(z4:N1 K "call_det" (Y 115))(z5:bg K "call_det" "call_det" (bC 132) (Y 115))(x9:N1 K "call_inverse" (Y 116))(cv:bg K "call_inverse" "call_inverse" (bC 133) (Y 116))(nz:N1 K "call_solve" (Y 117))(hW:bg K "call_solve" "call_solve" (bC 134) (Y 117))(y5:N1 K "call_kernel" (Y 118))(nd:bg K "call_kernel" "call_kernel" (bC 135) (Y 118))(l1:N1 K "call_leading" (Y 119))(oe:bg K "call_leading" "call_leading" (bC 136) (Y 119))(z6:N1 K "call_char" (Y 120))(oa:bg K "call_char" "call_char" (bC 137) (Y 120))(n0:N1 K "call_trace" (Y 121))(rg:bg K "call_trace" "call_trace" (bC 138) (Y 121))(wi:N1 K "call_same" (Y 122))(f0:bg K "call_same" "call_same" (bC 139) (Y 122))(kk:N1 K "answer_of" (Y 123))(kp:bg K "answer_of" "answer_of" (bC 142) (Y 123))(k:N1 K "answers" (Y 124))(l:bg K "answers" "answers" (bC 143) (Y 124))(x1:N1 K "COUNTS" (Y 125))(ap:jF K (Y 125) [.int 1 u,.int 2 v,.int 2 z,.int 2 A,.int 2 B,.int 2 C,.int 1 E])(up:N1 K "TABLE_CALLS" (Y 126))(ei:N1 K "CODE_CALLS" (Y 127))(mv:jF K (Y 126) ([(Y 128),(Y 129),(Y 130),(Y 131),(Y 132),(Y 133),(Y 134),(Y 135),(Y 136),(Y 137),(Y 138),(Y 139),(Y 140),(Y 141),(Y 142),(Y 143),(Y 144),(Y 145),(Y 146),(Y 147),(Y 148)].map .ref))(tc:jF K (Y 127) ([(Y 149),(Y 150),(Y 151),(Y 152)].map .ref))(tn:jF K (Y 128) [.ref (Y 102),.int 3 dr,.int 1 b0])(ru:jF K (Y 129) [.ref (Y 103),.int 1 de,.int 0 fc])(q4:jF K (Y 130) [.ref (Y 104),.int 3 mu,.int 0 tA])(x2:jF K (Y 131) [.ref (Y 105),.int 3 fx,.int 0 u1])(nm:jF K (Y 132) [.ref (Y 106),.int 3 ej,.int 0 ec])(n':jF K (Y 133) [.ref (Y 107),.int 4 c0,.int 0 bA])(tv:jF K (Y 134) [.ref (Y 108),.int 2 eb,.int 0 s4])(a3:jF K (Y 135) [.ref (Y 109),.int 2 cm,.int 0 y1])(m4:jF K (Y 136) [.ref (Y 110),.int 3 qt,.int 0 bB])(ty:jF K (Y 137) [.ref (Y 111),.int 3 il,.int 0 z'])(rr:jF K (Y 138) [.ref (Y 112),.int 6 kw,.int 0 lk])(hH:jF K (Y 139) [.ref (Y 113),.int 3 e5,.int 0 oT])(u2:jF K (Y 140) [.ref (Y 114),.int 2 pe,.int 0 y2])(z7:jF K (Y 141) [.ref (Y 115),.int 1 g4,.int 0 na])(go:jF K (Y 142) [.ref (Y 116),.int 2 nf,.int 0 w2])(b':jF K (Y 143) [.ref (Y 117),.int 3 wh,.int 0 ti])(hV:jF K (Y 144) [.ref (Y 118),.int 2 pg,.int 0 tt])(i3:jF K (Y 145) [.ref (Y 119),.int 1 hO,.int 0 gh])(lt:jF K (Y 146) [.ref (Y 120),.int 1 o5,.int 0 oy])(ew:jF K (Y 147) [.ref (Y 121),.int 1 gA,.int 0 gd])(s0:jF K (Y 148) [.ref (Y 122),.int 2 y8,.int 0 y9])(sn:jF K (Y 149) [.ref (Y 91),.int 2 kz,.int 2 bK])(ab:jF K (Y 150) [.ref (Y 92),.int 1 w',.int 2 n3])(vP:jF K (Y 151) [.ref (Y 93),.int 2 q7,.int 2 th])(v':jF K (Y 152) [.ref (Y 94),.int 1 vu,.int 3 p'])(d1:[(Y 19,Y 27),(Y 15,Y 27),(Y 15,Y 19),(Y 17,Y 27),(Y 21,Y 27),(Y 23,Y 27),(Y 59,Y 58),(Y 70,Y 58),(Y 70,Y 59),(Y 62,Y 58),(Y 62,Y 59),(Y 62,Y 70),(Y 63,Y 58),(Y 63,Y 59),(Y 63,Y 70),(Y 63,Y 62)].all (λq=>decide (q.1≠q.2))=true) (d2:[Y 0,Y 1,Y 2,Y 3,Y 4,Y 5,Y 6,Y 7,Y 8].Nodup) (d3:[Y 128,Y 129,Y 130,Y 131,Y 132,Y 133,Y 134,Y 135,Y 136,Y 137,Y 138,Y 139,Y 140,Y 141,Y 142,Y 143,Y 144,Y 145,Y 146,Y 147,Y 148,Y 149,Y 150,Y 151,Y 152].Nodup) (d4:[Y 102,Y 103,Y 104,Y 105,Y 106,Y 107,Y 108,Y 109,Y 110,Y 111,Y 112,Y 113,Y 114,Y 115,Y 116,Y 117,Y 118,Y 119,Y 120,Y 121,Y 122,Y 91,Y 92,Y 93,Y 94].Nodup):
 ∃fd:FuncData,(∀(s:Shared)(us:List Value),us.length=(["calls"]:List Str).length->BindsTo s fd ⟨us,[]⟩ ((["calls"]:List Str).zip us))/\∀base:Heap,K.In base->base.Ns mainGlobals mg->base.NoSeer->eH P w K mg base (kB P w) 61 fa fd ["calls"] (spR K):=by
 have ev:∀base:Heap,base.NoSeer->Env P w K mg base Y (Uo K Y):=λbase po=>⟨po,rl,m0 X G h0,m0 X G h1,m0 X G h2,m0 X G h3,m0 X G h4,m0 X G h5,m0 X G h6,m0 X G h7,m0 X G h8,m0 X G h9,⟨_,m1 X G gv⟩,⟨_,m1 X G sm⟩,⟨_,m1 X G bw⟩,⟨_,m1 X G v1⟩,⟨_,m1 X G mb⟩,⟨_,m1 X G u'⟩,⟨_,m1 X G pt⟩,⟨_,m1 X G w3⟩,⟨_,m1 X G s7⟩,⟨_,m1 X G n7⟩,⟨_,m1 X G sa⟩,⟨_,m1 X G rz⟩,⟨_,m1 X G n5⟩,⟨_,m1 X G wk⟩,⟨_,m1 X G ey⟩,⟨_,m1 X G fi⟩,j'.cls,m1 X G rp,dt.cls,m1 X G y4,cb.cls,m1 X G r4,so.cls,m1 X G wl,dT.cls,m1 X G dK,s5.cls,m1 X G w0,dV.cls,m1 X G s6,gs.cls,m1 X G ix,a4.cls,m1 X G u3,m.cls,m1 X G a6,⟨m.mi,F,I,m.kc⟩,gb,v3,mf F I e6,mf ln ci tu,mf q6 r7 me,mf cL fh ox,mf qf zp re,n.cls,m1 X G pw,⟨n.mi,N,Q,n.kc⟩,qb,gi,mf N Q ed,o.cls,m1 X G xd,⟨o.mi,R,S,o.kc⟩,tr,ri,td,mz,mf R S bm,p.cls,m1 X G mN,⟨p.mi,T,Z,p.kc⟩,q9,oz,ez,mf T Z x4,r.cls,m1 X G nB,⟨r.mi,ds,ok,r.kc⟩,nn,mx,mf ds ok pz,t.cls,m1 X G gj,⟨t.mi,vs,xs,t.kc⟩,i5,fu,mf vs xs hi,a.cls,m1 X G hb,⟨a.mi,d,e,a.kc⟩,ps,hc,ns,hj,mf d e hl,b.cls,m1 X G ha,⟨b.mi,f,g,b.kc⟩,hp,hs,mf f g hk,mf es fs hr,mf h' cd ws,c.cls,m1 X G o1,⟨c.mi,i,j,c.kc⟩,tl,hd,mf i j hz,gf X G ho sh,gf X G he r1,gf X G hx rs,gf X G s1 o2,gf X G hn op,gf X G q1 s',gf X G xe hf,gf X G q2 hq,gf X G ow dx,gf X G ih hg,gf X G hv e3,gf X G nx g1,gf X G ht k1,gf X G hP ce,gf X G gr t',gf X G bl hu,gf X G fp ys,gf X G r2 fn,gf X G r' rx,gf X G ex k2,gf X G fe z2,gf X G ta ob,gf X G ch fb,gf X G hN el,gf X G s2 rv,gf X G cl z1,gf X G f1 o',gf X G pl s3,gf X G sp cs,gf X G np a1,gf X G ct c1,gf X G ne ls,gf X G pp sc,gf X G hy k0,gf X G e' it,gf X G p2 x',gf X G tb ry,gf X G tg k3,gf X G fl a2,gf X G g2 cp,gf X G no n1,gf X G q' rt,gf X G f2 lp,gf X G i1 g',gf X G q3 hh,gf X G is ov,gf X G i2 x6,gf X G od hA,gf X G c' k',gf X G c2 i',gf X G te qs,gf X G sl d',gf X G hB e4,gf X G g3 dv,gf X G bk p1,gf X G b2 wt,gf X G ep mA,gf X G en hD,gf X G f3 ea,gf X G y' x8,gf X G a0 hQ,gf X G n2 sd,gf X G hK tk,gf X G x7 k5,gf X G f5 hM,gf X G of a',gf X G as hS,gf X G hC n4,gf X G m2 oc,gf X G sb pm,gf X G l2 d0,gf X G qq o3,gf X G x5 y6,gf X G er r3,gf X G y7 ft,gf X G m' z3,gf X G f4 zs,gf X G ar pn,gf X G hL iv,gf X G hF i4,gf X G un ts,gf X G l' hT,gf X G z4 z5,gf X G x9 cv,gf X G nz hW,gf X G y5 nd,gf X G l1 oe,gf X G z6 oa,gf X G n0 rg,gf X G wi f0,gf X G kk kp,gf X G k l,m1 X G x1,λH=>ap.sq H (Gv [(1,u),(2,v),(2,z),(2,A),(2,B),(2,C),(1,E)])⟩
 have e2:V0 K mg Y:=⟨m1 X G up,m1 X G ei,λH=>mv.sq H (Au [(Y 128),(Y 129),(Y 130),(Y 131),(Y 132),(Y 133),(Y 134),(Y 135),(Y 136),(Y 137),(Y 138),(Y 139),(Y 140),(Y 141),(Y 142),(Y 143),(Y 144),(Y 145),(Y 146),(Y 147),(Y 148)]),λH=>tc.sq H (Au [(Y 149),(Y 150),(Y 151),(Y 152)]),λH=>tn.sq H (cB ..),λH=>ru.sq H (cB ..),λH=>q4.sq H (cB ..),λH=>x2.sq H (cB ..),λH=>nm.sq H (cB ..),λH=>n'.sq H (cB ..),λH=>tv.sq H (cB ..),λH=>a3.sq H (cB ..),λH=>m4.sq H (cB ..),λH=>ty.sq H (cB ..),λH=>rr.sq H (cB ..),λH=>hH.sq H (cB ..),λH=>u2.sq H (cB ..),λH=>z7.sq H (cB ..),λH=>go.sq H (cB ..),λH=>b'.sq H (cB ..),λH=>hV.sq H (cB ..),λH=>i3.sq H (cB ..),λH=>lt.sq H (cB ..),λH=>ew.sq H (cB ..),λH=>s0.sq H (cB ..),λH=>sn.sq H (cB ..),λH=>ab.sq H (cB ..),λH=>vP.sq H (cB ..),λH=>v'.sq H (cB ..)⟩;have dd:=λx y hm=>age (agC.mp d1 (x,y) hm)
 exact ZK X G q5 ev e2 k l ⟨dd _ _ (by simp),dd _ _ (by simp),dd _ _ (by simp),dd _ _ (by simp),dd _ _ (by simp),dd _ _ (by simp),dd _ _ (by simp),dd _ _ (by simp),dd _ _ (by simp),dd _ _ (by simp),dd _ _ (by simp),dd _ _ (by simp),dd _ _ (by simp),dd _ _ (by simp),dd _ _ (by simp),dd _ _ (by simp)⟩ ⟨d2,d3,d4⟩
theorem sqa{K:W.Frag}{H:Hp}{a:Addr}{xs:List V}(b:Cc H)(hs:jl K H a xs):Ub K H a xs:=by rcases hs with(h|⟨o,h⟩)|h;rcases b a with q|⟨o,u,q⟩;rw[q]at h;cases h;rw[q]at h;cases h;exact .inl ⟨o,h⟩;exact .inr h
theorem aeI{K:W.Frag}{H:Hp}{xs:List V}{a:W.Codec.denoteAll PySem.Challenge.rw_exacttables_s01_answers.args}(g:Cc H)(c:W.Codec.withinAll PySem.Challenge.rw_exacttables_s01_answers.args a=true)(b:W.Codec.app PySem.Challenge.rw_exacttables_s01_answers.args PySem.Challenge.rw_exacttables_s01_answers.asked a=true)(h:pR K H xs (W.Codec.encAll PySem.Challenge.rw_exacttables_s01_answers.args a)):
  spR K xs H (λv d=>Dw K d v (PySem.Challenge.rw_exacttables_s01_answers.ret.enc (W.Codec.app PySem.Challenge.rw_exacttables_s01_answers.args PySem.Challenge.rw_exacttables_s01_answers.f a))) λ_ _ _=>False:=by
 cases h with
 |cons i j=>
  cases j;cases i with|lst k l=>have e:=Nu a.1 _ l;subst e;have q:((W.Codec.inLen 0 17000 a.1&&a.1.all (W.Codec.inInt (-1000000000000000000) 1000000000000000000))&&true)=true:=c;rw[afL,afL]at q;exact⟨_,a.1,rfl,sqa g k,b,(W.Codec.inNat_iff.mp q.1.1).2,λp d m=>.lst (jl.of m) (Nt _)⟩
theorem abN{P:Program}{w:World}{H:Hp}{s:Shared}{e:Value}{s':Shared}(z:kB P w [] H s (λ_ _ _=>False) e s'):False:=by obtain⟨_,_,_,_,_,_,_,_,_,z⟩:=z;exact z
theorem aeJ{r:W.OpenSpec}{k:Nat}{q:Program}{loose:List Str}{n:(afs)->Heap->Prop}{g:World->Heap->Prop}{d:DefRec}{K:Params->W.Frag}{ps:List Str}{sp:W.Frag->Sp}(himp:importsNone q=true) (b:r.wellSaid=true) (i:d.params.defaults=[]) (c:r.args.length=ps.length) (o:cG k callerA)(p:∀(w:World)(h:Heap),g w h->(K w.params).In h)(F:∀(w:World)(mg:afs)(l:Addr)(h:Heap),g w h->(K w.params).In h->h.Ns mainGlobals mg->mg d.name=some (.ref l)->
   ∃m:FuncData,(∀(s:Shared)(us:List Value),us.length=ps.length->BindsTo s m ⟨us,[]⟩ (ps.zip us))/\
    ∀base:Heap,(K w.params).In base->base.Ns mainGlobals mg->base.NoSeer->eH r.prog w (K w.params) mg base (kB r.prog w) k l m ps (sp (K w.params)))
  (j:∀(K:W.Frag)(H:Hp)(xs:List V)(a:W.Codec.denoteAll r.args),Cc H->W.Codec.withinAll r.args a=true->W.Codec.app r.args r.asked a=true->pR K H xs (W.Codec.encAll r.args a)->
   sp K xs H (λv t=>Dw K t v (r.ret.enc (W.Codec.app r.args r.f a))) λ_ _ _=>False):
  W.WalkOS q loose n g r d [] (λf vs=>PySem.call f vs):=
 O8 (K:=K) (CX:=λw=>kB r.prog w) (sp:=λw=>sp (K w.params)) himp b i c o p F (λw H xs a u x y A=>j (K w.params) H xs a u x y A) λ_ H s e B z=>abN z
end Fin
set_option tactic.hygienic true
local macro_rules|`(command|#check_failure "v")=>do
 let mut c:=#[]
 let l:=[25,54,83,112,141,218,269,293,349,400,482,536,590,643,681,730,786,867,960]
 for n in `PySem.Challenge.pw_exacttables_s01_answers::([("tree",8::1012::l),("sts",10::l.map (·+1)),("heap",[1,1013]),("view",[1]),("o",List.range 1014)].flatMap fun (k,l)=>l.map fun i=>(`PySem.Challenge.cw_exacttables_s01_answers_holds).str s!"{k}_{i}") do
  c:=c.push (← `(command|theorem $(Lean.mkIdent ((`PySem.W.Fast).str s!"tw{n.hash}")) :True:=trivial))
 return Lean.mkNullNode c
#check_failure "v"
open PySem PySem.W PyProof.Rows
theorem PySem.Challenge.cw_exacttables_s01_answers_holds : PySem.Challenge.rw_exacttables_s01_answers.Holds := by
 w_on;have h:=ws0
 k_headS;(case hw=>exact ⟨[.list [.int 1,.int 0]],by decide+kernel,by decide+kernel⟩)
 k_fillS
 refine Fin.aeJ (r:=Challenge.rw_exacttables_s01_answers) (k:=61) (ps:=["calls"]) (sp:=Fin.spR) (by decide+kernel) ws0 rfl rfl ⟨rfl,by decide,by decide⟩ (fun w h Y=>PySem.W.kIn_of Y) ?F ?S
 case F=>
  intro w mg fa h Y KX G hmg
  refine' Fin.aeh (Y := Fin.yW [24,37,50,63,76,89,102,115,128,251,220,227,234,241,248,273,270,294,291,376,373,508,505,553,550,596,593,680,663,670,677,748,745,138,145,152,159,166,173,180,187,194,201,206,305,312,319,324,331,338,345,352,359,385,392,397,404,411,416,423,428,433,438,445,450,455,460,465,470,477,484,491,519,526,531,536,564,571,576,581,605,610,615,620,625,632,637,644,651,691,698,705,712,719,726,757,762,767,772,777,782,789,796,803,810,817,824,831,838,845,852,859,866,873,880,887,894,901,908,915,922,929,936,965,972,256,958,731,937,938,939,940,941,942,943,944,945,946,947,948,949,950,951,952,953,954,955,956,957,727,728,729,730]) KX G hmg rfl ..
  all_goals try first|(show _=_;k_is)|(refine' Fin.afl ?l ?c ?k;(case l=>k_is);(case c=>k_is);(case k=>k_is))|(refine' ⟨?_,?_,?_,?_,?_,?_⟩<;>k_is)|(refine' Fin.afm ?l ?m ?s ?n;(case l=>k_is);(case m=>k_is);(case s=>rfl);(case n=>k_is))|(refine' Fin.afn ?l;(case l=>k_is))|decide+kernel
 case S=>
  intro K H xs a hO hwi hask hx
  exact Fin.aeI hO hwi hask hx
