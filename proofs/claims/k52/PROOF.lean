import PyProof.Rows.All
import Wide.All
import OpenK.AllK
import Wide.FinOn
import Lean
import PyProof.EqAt
import PyProof.EqKinds
import PyProof.TupleCall
import PyProof.ExcInit
import PyProof.ExcClass3
import OpenK.KOwn
import PyProof.ExcAttrAll.ValueError
import OpenK.KDescr
import KE.KIsNot
import PyProof.NeKinds
import PyProof.Draws
import PyProof.EnumMake
import PyProof.ZipIter
import KE.KListMore
import PyProof.Rows.FStr
import PyProof.FString
import PyProof.Rows.CallKw2
import PyProof.StrLawsTight
import PyProof.CompUse
import PyProof.CompFree
import PyProof.RaisesMany
import PyProof.NsDelKeeps
import PyProof.RulesAs
import PyProof.MaxThree
import PyProof.Rows.SumAny
import PyProof.Rows.StrJoin2
import KE.KRevIter
import PyProof.AutoRange
import PyProof.FactsAll.range_2
import PyProof.Rows.FactsT2
import PyProof.Rows.SortShell
import PyProof.Rows.SortWalk
import PyProof.DictIter
import PyProof.DictWalks
import KE.KDictLaws
import KE.KDictOf
import PyProof.AttrMissSeq
import KE.KIntText
import PyProof.Rows.SetFrom
import PyProof.Rows.SortRuns
import PyProof.Rows.SortStr
import PySem.Challenge.RW_inningsbook_k52_no_entry
set_option bootstrap.genMatcherCode false
set_option compiler.extract_closed false
set_option genSizeOf false
set_option Elab.async false
set_option linter.all false
set_option maxRecDepth 100000
set_option maxHeartbeats 4000000
set_option genInjectivity false
open PySem renaming wpAny_bind->zaa,wpAny_pure->zad,wpAny_mono->zaA,wpAny_newObj_type->zaS,boot_len->zaU,mem_of_lookup->zaY,wpAny_truthy_bool->zaZ,wpAny_holding->zbr,wpAny_execs_nil->zbu,wpAny_field->zbx,wpAny_loadPart_at->zbE,wpAny_typeNameOfWhole_keyiter->zbG,wpAny_callSpecial?_slot->zbH,wpAny_setField->zbJ,wpAny_execs_cons->zbR,wpAny_call_entry->zbU,plainObj_wpAny_Assign_Attribute->zca,wpAny_call->zcd,wpAny_Call_Name_kw->zce,tupleKind_room_in1->zcg,codeAny_mono->zcl,wpAny_isSubtype_exc->zcv,wpAny_passesOwn->zcx,wpAny_standAt->zcN,codeAny_call_builtin->zcW,wpAny_loadPart->zdi,wpAny_attempt->zdt,wpAny_pyIter_list->zdy,wpAny_dictEntries->zdB,codeAny_handlers_suite_as->zdF,wpAny_lookBehind->zdH,pastItsLine_dict->zdI,wpAny_dictEpoch->zdS,sizeLine_eq->zdV,wpAny_Expr_any->zec,ofString_length->zej
open List renaming getElem?_eq_some_iff->zab,length_map->zae,getElem?_eq_getElem->zaf,getElem?_append_left->zai,length_append->zaj,mem_cons->zam,size_toArray->zao,getElem?_append_right->zaq,map_cons->zas,getElem?_map->zat,append_nil->zau,mem_singleton->zav,mem_of_getElem?->zax,not_mem_nil->zay,getElem?_set_ne->zaz,getElem?_set_self->zaB,all_cons->zaC,mem_cons_of_mem->zaE,length_cons->zaF,mem_append_right->zaG,getElem?_cons_succ->zaH,length_nil->zaI,take_length->zaJ,cons_append->zaL,all_nil->zaN,map_append->zaO,lookup_cons->zaP,all_eq_true->zaQ,getElem?_cons_zero->zaT,contains_cons->zaW,append_assoc->zba,mem_append->zbd,length_take->zbh,mem_map->zbj,take_of_length_le->zbk,length_singleton->zbm,mem_cons_self->zbn,mem_flatMap->zbq,foldl_cons->zbv,replicate_succ->zbw,map_map->zby,nodup_cons->zbB,getElem?_take_of_lt->zbC,map_nil->zbM,mem_append_left->zbP,filter_cons->zbX,replicate_zero->zbZ,any_cons->zcc,find?_cons->zcf,drop_eq_nil_of_le->zcj,nodup_append->zck,eq_nil_or_concat->zco,getElem_mem->zcr,filterMap_cons->zct,map_congr_left->zcw,any_map->zcE,take_zero->zcH,getElem?_replicate->zcI,any_eq_true->zcO,length_set->zcU,mem_of_mem_take->zcZ,getElem?_range->zde,filter_eq_self->zdf,take_succ_cons->zdg,set_cons_succ->zdp,zip_cons_cons->zdq,getD_eq_getElem?_getD->zdv,set_comm->zdw,flatMap_cons->zdC,drop_eq_getElem_cons->zdE,length_drop->zdL,all_map->zdM,of_mem_zip->zdQ,nil_append->zdU,mem_range->zea,set_append_right->zeh,take_succ->zei,any_nil->zeI
open PySem.Heap renaming get?_push_of_some->zac,lt_size->zan,get?_push_size->zap,get?_update_other->zaD,get?_update_self->zaR,size_push->zdj
open Nat renaming le_trans->zag,le_refl->zah,lt_of_lt_of_le->zak,ne_of_lt->zar,lt_irrefl->zaK,le_succ->zbf,lt_succ_self->zbo,ne_of_gt->zbS,zero_add->zbW,le_add_right->zcq,lt_of_le_of_lt->zcF,le_succ_of_le->zcJ,zero_le->zcL,min_eq_right->zcP,min_eq_left->zcY,one_ne_zero->zda,lt_trans->zdJ,add_sub_cancel_left->zdP,le_of_lt->zew
open Bool renaming false_ne_true->zal,and_self->zaV,eq_iff_iff->zbe,and_eq_true_iff->zbi,and_eq_true->zbz,false_eq_true->zch,or_true->zcC,or_eq_true->zcV,false_and->zdh,or_false->zds,true_and->zdx,and_false->zed,and_true->zer
open Option.some renaming inj->zaw,injEq->zbF
open PySem.F renaming plainAttrs_list->zaM,slot_list_append->zbb,type_list_append->zbc,slot_dict_keyiterator_next->zbs,slot_tuple_iterator_next->zbO,slot_list_getattribute->zcD,slot_dict_get->zcR,args_dict_keyiterator_next_1->zcX,entry_dict_keyiterator_next->zdb,args_tuple_iterator_next_1->zdk,attrBase_ValueError->zdn,entry_tuple_iterator_next->zdo,args_tuple_add_2->zdK,args_dict_get_3->zdN,entry_tuple_add->zdO,entry_dict_get->zdX,slot_tuple_add->zdY
open Option renaming bind_some->zaX,map_eq_some_iff->zbK,isSome_iff_exists->zbT,getD_none->zbV,getD_some->zcs,map_some->zcy,isNone_iff_eq_none->zcz,isSome_map->zdA,isSome_some->zez,isNone_none->zeH
open Ne renaming symm->zbg
open PySem.PassesOwn renaming never->zbl
open PySem.Obj renaming data_mapFields->zbp,isFreed_of_fields->zcm
open Int renaming toNat_natCast->zbt,natCast_add->zbD,eq_ofNat_of_zero_le->zbI,natCast_one->zbN,emod_lt_of_pos->zci,emod_nonneg->zcA
open PySem.W.Looks renaming here->zbA
open PyProof.Rows renaming boot_list->zbL,slot_tuple_getitem->zcb,boot_isinstance->zcn,callWith_type1->zcp,toString_length_le->zcS,boot_sum->zeg
open PySem.W renaming looks_findIn->zbQ,looks_clsIn->zcu,callWith_K->zcB,methodCall_KW->zcQ,plainGet_of->zdd,mg_of->zdG,cellsFrom_some->zdW,handedOut_of->zem,looks_mroIn->zet,tail_of_in->zeD,check_slot->zeE,looks_find->zeF,set_plain->zeK
open PySem.Heap.SameBut renaming update->zbY
open Eq renaming symm->zcG
open PySem.Str renaming length_append->zcK
open PySem.Calls renaming callWith_builtin->zcM,evalArgs_plain->zcT,spliced_cons->zdm,Name_function_global->zdr
open Array renaming length_toList->zdc,getElem?_eq_some_iff->zdu,getElem?_eq_getElem->zdD
open Sum.inr renaming inj->zdl
open PySem.SeqAt.EqAt renaming same->zdR,int_str->zeu,str_int->zev,of_refs->zeG
theorem zp_0q(h:True:=by rfl):True:=trivial
def zp_0:Lean.Syntax:=zp_0q._auto_1
theorem zp_1q(h:True:=by decide):True:=trivial
def zp_1:Lean.Syntax:=zp_1q._auto_1
theorem zp_2q(h:True:=by first|decide|omega):True:=trivial
def zp_2:Lean.Syntax:=zp_2q._auto_1
theorem zp_3q(h:True:=by intro _;rfl):True:=trivial
def zp_3:Lean.Syntax:=zp_3q._auto_1
theorem zp_4q(h:True:=by first|exact .inl rfl|exact .inr rfl|assumption):True:=trivial
def zp_4:Lean.Syntax:=zp_4q._auto_1
theorem zp_5q(h:True:=by with_unfolding_all rfl):True:=trivial
def zp_5:Lean.Syntax:=zp_5q._auto_1
theorem zp_7q(h:True:=by first|exact Or.inl rfl|exact Or.inr (Or.inl rfl)|exact Or.inr (Or.inr rfl)):True:=trivial
def zp_7:Lean.Syntax:=zp_7q._auto_1
theorem zp_8q(h:True:=by intro _ _;rfl):True:=trivial
def zp_8:Lean.Syntax:=zp_8q._auto_1
theorem zp_9q(h:True:=by exact⟨rfl,rfl,rfl,rfl⟩):True:=trivial
def zp_9:Lean.Syntax:=zp_9q._auto_1
theorem zp_10q(h:True:=by first|exact Or.inl rfl|exact Or.inr rfl):True:=trivial
def zp_10:Lean.Syntax:=zp_10q._auto_1
namespace L2
open PySem PySem.Spec PyProof.Rows
theorem _root_.jp{p q:Prop}(a:p)(b:q):p∧q:=⟨a,b⟩
noncomputable abbrev d_:=Sum Int Str
noncomputable def mL:d_->Value->Bool
 |.inl k,v=>Value.isInt k v
 |.inr x,v=>Value.isStrOf x v
noncomputable def ams (w:World):d_->Int
 |.inl k=>hashInt k
 |.inr x=>hashStr w x
theorem dc:∀{k:d_} {v:Value},mL k v=true->(∃i t,k=Sum.inl i/\v=Value.int i t)\/(∃x t,k=Sum.inr x/\v=Value.str x t)
 |.inl i,v,h=>by
  obtain⟨t,e⟩:=Value.isInt_shape (k:=i) (v:=v) h
  exact .inl ⟨i,t,rfl,e⟩
 |.inr x,v,h=>by
  obtain⟨t,e⟩:=Value.isStrOf_shape (x:=x) (v:=v) h
  exact .inr ⟨x,t,rfl,e⟩
theorem JV (i:Int)(t:Tok):mL (.inl i) (.int i t)=true:=by simp[mL,Value.isInt]
theorem JW (x:Str)(t:Tok):mL (.inr x) (.str x t)=true:=by simp[mL,Value.isStrOf]
theorem aaB (a b:Int):decide ((Sum.inl a:d_)=Sum.inl b)=(a == b):=by
 by_cases e:a=b
 ·subst e;simp
 ·have h:¬ (Sum.inl a:d_)=Sum.inl b:=λq=>e (Sum.inl.inj q)
  rw[decide_eq_false h];exact (beq_eq_false_iff_ne.mpr e).symm
theorem aaC (a b:Str):decide ((Sum.inr a:d_)=Sum.inr b)=decide (a=b):=by
 by_cases e:a=b
 ·subst e;simp
 ·have h:¬ (Sum.inr a:d_)=Sum.inr b:=λq=>e (zdl q)
  rw[decide_eq_false h,decide_eq_false e]
theorem aaD (a:Int)(b:Str):decide ((Sum.inl a:d_)=Sum.inr b)=false:=decide_eq_false (λq=>nomatch q)
theorem aaE (a:Str)(b:Int):decide ((Sum.inr a:d_)=Sum.inl b)=false:=decide_eq_false (λq=>nomatch q)
noncomputable def b9 (prog:Program)(w:World):PySem.KeyKind prog w d_ where
 is:=mL
 hash:=ams w
 inj:=λv a b ha hb=>by
  rcases dc ha with⟨i,t,rfl,rfl⟩|⟨x,t,rfl,rfl⟩
  ·rcases dc hb with⟨j,u,rfl,e⟩|⟨y,u,rfl,e⟩
   ·injection e with e1 _;rw[e1]
   ·exact nomatch e
  ·rcases dc hb with⟨j,u,rfl,e⟩|⟨y,u,rfl,e⟩
   ·exact nomatch e
   ·injection e with e1 _;rw[e1]
 byValue:=λk v h=>by
  rcases dc h with⟨i,t,rfl,rfl⟩|⟨x,t,rfl,rfl⟩<;>rfl
 pyHash:=λhv h=>by
  rcases dc hv with⟨i,t,rfl,rfl⟩|⟨x,t,rfl,rfl⟩
  ·exact wpAny_pyHash_int h
  ·exact wpAny_pyHash_str h
 eqBool:=λhu hv h=>by
  rcases dc hu with⟨i,t,rfl,rfl⟩|⟨x,t,rfl,rfl⟩
  ·rcases dc hv with⟨j,u,rfl,rfl⟩|⟨y,u,rfl,rfl⟩
   ·rw[aaB] at h;exact wpAny_eqBool_int h
   ·rw[aaD] at h;exact zeu i t y u _ _ _ _ h
  ·rcases dc hv with⟨j,u,rfl,rfl⟩|⟨y,u,rfl,rfl⟩
   ·rw[aaE] at h;exact zev x t j u _ _ _ _ h
   ·rw[aaC] at h;exact wpAny_eqBool_str h
 «strs»:= λk x t v h=>by
  rcases dc h with⟨i,u,rfl,e⟩|⟨y,u,rfl,e⟩
  ·exact nomatch e
  ·injection e with e1 _
   subst e1;cases v<;>rfl
theorem Br (prog:Program)(w:World)(i:Int)(t:Tok):(b9 prog w).is (.inl i) (.int i t)=true:=JV i t
theorem Bt (prog:Program)(w:World)(x:Str)(t:Tok):(b9 prog w).is (.inr x) (.str x t)=true:=JW x t
set_option genInjectivity true in
inductive V where
 |bz|bl (b:Bool)|int (i:Int)|str (x:Str)|Mp (b:Array UInt8)|flt (b:UInt64)|ref (a:Addr)|ty (n:String)
 deriving DecidableEq
noncomputable def bI:V->Value->Prop
 |.bz,u=>u=Value.none
 |.bl b,u=>u=Value.bool b
 |.int i,u=>∃t,u=Value.int i t
 |.str x,u=>∃t,u=Value.str x t
 |.Mp b,u=>∃t,u=Value.bytes b t
 |.flt b,u=>∃t,u=Value.float b t
 |.ref a,u=>u=Value.ref a
 |.ty n,u=>u=Value.type n
noncomputable abbrev bO:List V->List Value->Prop:=Paired bI
theorem bO.length (r:bO xs us):xs.length=us.length:=Paired.length r
theorem bO.get:∀{xs:List V} {us:List Value} {i:Nat} {x:V},bO xs us->xs[i]? = some x->∃u,us[i]? = some u/\bI x u
 |_,_,_,_,.nil,e=>by simp at e
 |_,_,0,_,.cons r _,e=>by simp at e;subst e;exact⟨_,rfl,r⟩
 |_,_,i+1,x,.cons _ t,e=>by
  obtain⟨u,h1,h2⟩:=bO.get (i:=i) (x:=x) t (by simpa using e)
  exact⟨u,by simpa using h1,h2⟩
theorem bO.set (r:bI x u):∀{xs:List V} {us:List Value} (i:Nat),bO xs us->bO (xs.set i x) (us.set i u)
 |_,_,_,.nil=>.nil
 |_,_,0,.cons _ t=>.cons r t
 |_,_,i+1,.cons q t=>.cons q (bO.set r i t)
theorem bO.mO:∀{xs ys:List V} {us ws:List Value},bO xs us->bO ys ws->bO (xs++ys) (us++ws)
 |_,_,_,_,.nil,s=>s
 |_,_,_,_,.cons r t,s=>.cons r (bO.mO t s)
theorem bO.take:∀{xs:List V} {us:List Value} (n:Nat),bO xs us->bO (xs.take n) (us.take n)
 |_,_,0,_=>.nil
 |_,_,_+1,.nil=>.nil
 |_,_,n+1,.cons r t=>.cons r (bO.take n t)
theorem bO.drop:∀{xs:List V} {us:List Value} (n:Nat),bO xs us->bO (xs.drop n) (us.drop n)
 |_,_,0,r=>r
 |_,_,_+1,.nil=>.nil
 |_,_,n+1,.cons _ t=>bO.drop n t
noncomputable def iW:Option V->Option Value->Prop
 |some v,some u=>bI v u
 |none,none=>True
 |_,_=>False
noncomputable def KV {κ:Type}:List (κ × V)->List (κ × Value)->Prop:=Paired λ(p:κ × V) (q:κ × Value)=>p.1=q.1/\bI p.2 q.2
noncomputable def kV:d_->V
 |.inl i=>.int i
 |.inr x=>.str x
inductive HO where
 /-- a list -/
 |bS (xs:List V)
 /-- a fY (never alC) -/
 |gV (xs:List V)
 /-- a dict agV qJ are ints and agW;MB agV qJ are tuples of ints and agW (Es empty MB is arh) -/
 |dK (aU:List (d_×V))|dT (aU:List (List d_×V))
 /-- a set of ints:bw alD,bw size -/
 |set (S:Int->Bool) (n:Nat)
 /-- an instance of Es class at C,bw dict at dx,bw aaF -/
 |e9 (C dx:Addr) (fs:List (Str×V))
 /-- Es dict of Es instance at x -/
 |tM (x:Addr)
 /-- Es dict of an agp -/
 |xd (fs:List (Str×V))
 /-- a apJ amt,f of x -/
 |met (f x:Addr)
 /-- a range MC lo,lo+1,.. apK hi -/
 |rng (lo hi:Int)
 /-- a agX ari is apL to Es MC (Es MD;a dict while a SA apM it):arj,never alE while it is so -/
 |sP (o:Obj) (u:HO)
 /-- a ark agY table -/
 |se (ps:Array Value)
 /-- any Hq agX,by amw is true of bw MB MC (a def of apN tM:arl a S n:=HO.ext fun h=>..) -/
 |ext (φ:Heap->Prop)
noncomputable abbrev Hp:=Addr->Option HO
noncomputable def bG (H:Hp)(a:Addr)(o:HO):Hp:=λb=>if b=a then some o else H b
theorem av:bG H a o a=some o:=by unfold bG;rw[if_pos rfl]
theorem au (h:b≠a):bG H a o b=H b:=by unfold bG;rw[if_neg h]
theorem Hr:bG (bG H a o) a u=bG H a u:=by
 funext b;unfold bG;split<;>rfl
theorem agZ {H:Hp}{a b:Addr}{o u:HO}(h:H a=some o)(h':H b=some u)(d:o≠u):a≠b:=by
 intro e;subst e;rw[h] at h';exact d (zaw h')
theorem dW {H:Hp}{a b:Addr}{o:HO}(h:H a=some o)(h':H b=none):a≠b:=by
 intro e;subst e;rw[h] at h';cases h'
section
variable (P:Program)(w:World)
noncomputable def cP (H:Hp)(h:Heap)(a:Addr):HO->Prop
 |.bS xs=>xs.length<=sizeLine/\∃(bw:List Value) (n:Nat),bO xs bw/\h.get? a=some { cls:=.type "list",data:=.seq bw.toArray n}
 |.gV xs=>xs.length<=sizeLine/\∃bw:List Value,bO xs bw/\IsTup h a bw.toArray
 |.dK aU=>aU.length<=sizeLine/\(a == sysModules)=false/\∃vs,KV aU vs/\h.DictOf (b9 P w) a vs
 |.dT aU=>aU.length<=sizeLine/\(a == sysModules)=false/\∃xs:List (List d_×Addr×Value),
   Paired (λ(p:List d_×V) (q:List d_×Addr×Value)=>p.1=q.1/\H q.2.1=some (.gV (p.1.map kV))/\bI p.2 q.2.2) aU xs /\
   ∃o es ep,h.get? a=some o/\o.ExactDict/\o.data = .dict es ep/\es.toList=xs.map (entryOfKey (tupleKind (b9 P w)))/\(xs.map (·.1)).Nodup
 |.set S n=>h.SetOf (intKind P w) a S n
 |.e9 C dx fs=>H dx=some (.tM a)/\fs.length<=1000/\dx≠a/\h.get? a=some (PySem.W.instObj C dx) /\
   ∃mA,h.Ns1 dx mA/\(∀f,iW (fs.lookup f) (mA f))/\PySem.Within mA (fs.map (·.1))
 |.tM _=>∃o,h.get? a=some o
 |.xd fs=>∃mA,h.Ns1 a mA/\∀f,iW (fs.lookup f) (mA f)
 |.rng lo hi=>∃t u v,h.get? a=some { cls:=.type "range",data:=.fields #[.int lo t,.int hi u,.int 1 v]}
 |.sP o u=>h.get? a=some o/\cP H h a u
 |.se ps=>h.get? a=some {cls:=.none,data:=.fields ps}
 |.met f x=>h.get? a=some (PySem.W.methodObj (.ref f) (.ref x))
 |.ext φ=>φ h/\(∃o,h.get? a=some o)/\∀h1 h2:Heap,φ h1->(∀o,h1.get? a=some o->h2.get? a=some o) -> φ h2
noncomputable def nH (H:Hp)(h:Heap):Prop:=∀a o,H a=some o->cP P w H h a o
end
theorem cP.lt (x:cP P w H h a o):a<h.objs.size:=by
 cases o with
 |bS xs=>obtain⟨_,_,_,_,e⟩:=x;exact zan e
 |gV xs=>obtain⟨_,_,_,p⟩:=x;exact p.lt
 |dK aU=>obtain⟨_,_,_,_,o,_,_,e,_⟩:=x;exact zan e
 |dT aU=>obtain⟨_,_,_,_,o,_,_,e,_⟩:=x;exact zan e
 |set S n=>obtain⟨o,_,_,_,e,_⟩:=x;exact zan e
 |e9 C dx fs=>obtain⟨_,_,_,e,_⟩:=x;exact zan e
 |tM y=>obtain⟨_,e⟩:=x;exact zan e
 |xd fs=>obtain⟨_,⟨_,_,_,e,_⟩,_⟩:=x;exact zan e
 |rng lo hi=>obtain⟨_,_,_,e⟩:=x;exact zan e
 |sP ob u=>obtain⟨e,_⟩:=x;exact zan e
 |se ps=>exact zan (show h.get? a=some _ from x)
 |met f y=>exact zan (show h.get? a=some _ from x)
 |ext φ=>obtain⟨_,⟨_,e⟩,_⟩:=x;exact zan e
theorem Paired.aaG {α β:Type}{F G:α -> β -> Prop}:∀{ag0:List α} {ag1:List β},Paired F ag0 ag1->(∀a b,F a b->G a b)->Paired G ag0 ag1
 |_,_,.nil,_=>.nil
 |_,_,.cons r t,f=>.cons (f _ _ r) (Paired.aaG t f)
theorem cP.qK (x:cP P w H h a o)(k:∀b u,(b=a\/H b=some (.tM a))->h.get? b=some u->h'.get? b=some u)
  (ho:∀b,H b=some (.tM a)->H' b=some (.tM a)) (ht:∀b xs,H b=some (.gV xs)->H' b=some (.gV xs)):cP P w H' h' a o:=by
 induction o with
 |bS xs=>obtain⟨z,bw,n,r,e⟩:=x;exact⟨z,bw,n,r,k _ _ (.inl rfl) e⟩
 |gV xs=>obtain⟨z,bw,r,ob,e,c⟩:=x;exact⟨z,bw,r,ob,k _ _ (.inl rfl) e,c⟩
 |dK aU=>obtain⟨z,y,vs,r,ob,es,ep,e,c⟩:=x;exact⟨z,y,vs,r,ob,es,ep,k _ _ (.inl rfl) e,c⟩
 |dT aU =>
  obtain⟨z,y,xs,r,ob,es,ep,e,c⟩:=x;exact⟨z,y,xs,Paired.aaG r λp q z=>⟨z.1,ht _ _ z.2.1,z.2.2⟩,ob,es,ep,k _ _ (.inl rfl) e,c⟩
 |set S n=>obtain⟨ob,es,ep,t,e,c⟩:=x;exact⟨ob,es,ep,t,k _ _ (.inl rfl) e,c⟩
 |e9 C dx fs =>
  obtain⟨d,z,ne,e,mA,⟨od,es,ep,e2,c⟩,r⟩:=x
  exact⟨ho _ d,z,ne,k _ _ (.inl rfl) e,mA,⟨od,es,ep,k _ _ (.inr d) e2,c⟩,r⟩
 |tM y=>obtain⟨ob,e⟩:=x;exact⟨ob,k _ _ (.inl rfl) e⟩
 |xd fs=>obtain⟨mA,⟨od,es,ep,e,c⟩,r⟩:=x;exact⟨mA,⟨od,es,ep,k _ _ (.inl rfl) e,c⟩,r⟩
 |rng lo hi=>obtain⟨t,u,v,e⟩:=x;exact⟨t,u,v,k _ _ (.inl rfl) e⟩
 |sP ob u ih=>obtain⟨e,q⟩:=x;exact⟨k _ _ (.inl rfl) e,ih q⟩
 |se ps =>
  have e:h.get? a=some {cls:=.none,data:=.fields ps}:=x
  show h'.get? a=some {cls:=.none,data:=.fields ps}
  exact k a _ (.inl rfl) e
 |met f y =>
  have e:h.get? a=some (PySem.W.methodObj (.ref f) (.ref y)):=x
  show h'.get? a=some (PySem.W.methodObj (.ref f) (.ref y))
  exact k a _ (.inl rfl) e
 |ext φ=>obtain⟨p,⟨o,e⟩,st⟩:=x;exact⟨st _ _ p λo q=>k _ _ (.inl rfl) q,⟨o,k _ _ (.inl rfl) e⟩,st⟩
theorem nH.lt (x:nH P w H h)(e:H a=some o):a<h.objs.size:=(x a o e).lt
theorem nH.fresh (x:nH P w H h)(e:h.objs.size<=a):H a=none:=by
 cases q:H a with
 |none=>rfl
 |some u=>exact absurd (zak (x.lt q) e) (zaK _)
theorem nH.iA (x:nH P w H h)(k:∀b u,h.get? b=some u->h'.get? b=some u):nH P w H h':=λa o e =>
 (x a o e).qK (λb u _ q=>k b u q) (λ_ q=>q) λ_ _ q=>q
theorem nH.j_ (x:nH P w H h)(k:∀b u,h.get? b=some u->h'.get? b=some u)(hp:h.objs.size<=a)(new:cP P w (bG H a o) h' a o):nH P w (bG H a o) h':=λb u e=>by
 have hn:=x.fresh hp;by_cases hb:b=a
 ·subst hb;rw[av] at e;cases e;exact new
 ·rw[au hb] at e
  exact (x b u e).qK (λc v _ q=>k c v q) (λc q=>by rw[au (dW q hn)];exact q) λc xs q=>by rw[au (dW q hn)];exact q
noncomputable def Rd (H:Hp)(a:Addr)(u:HO):Prop:=H a=some u\/∃o,H a=some (.sP o u)
theorem Rd.ok (r:Rd H a u)(x:nH P w H h):cP P w H h a u:=by
 rcases r with r|⟨o,r⟩
 ·exact x a u r
 ·obtain⟨_,q⟩:=x a _ r
  exact q
noncomputable def Mut:Option HO->Prop
 |some (.bS _)=>True
 |some (.dK _)=>True
 |some (.dT _)=>True
 |some (.set _ _)=>True
 |some (.e9 _ _ _)=>True
 |some (.ext _)=>True
 |_=>False
theorem nH.jB (ok:nH P w H h)(mu:Mut (H x))(he:e=x\/H e=some (.tM x))(k:∀b u,b≠e->h.get? b=some u->h'.get? b=some u)(heo:∃u,h'.get? e=some u)
  (new:cP P w (bG H x o') h' x o'):nH P w (bG H x o') h':=λb u q=>by
 have ag2:∀c y,H c=some (.tM y)->c≠x:=λc y r z=>by subst z;rw[r] at mu;exact mu
 have amx:∀c xs,H c=some (.gV xs)->c≠x:=λc xs r z=>by subst z;rw[r] at mu;exact mu
 by_cases hb:b=x
 ·subst hb;rw[av] at q;cases q;exact new
 ·rw[au hb] at q
  by_cases hbe:b=e
  ·have q':H b=some (.tM x):=by
    rcases he with z|z
    ·exact absurd (hbe.trans z) hb
    ·rw[hbe];exact z
   rw[q] at q';cases q'
   obtain⟨v,hv⟩:=heo;exact⟨v,by rw[hbe];exact hv⟩
  ·refine (ok b u q).qK (λc v hc r=>k c v ?_ r) (λc r=>by rw[au (ag2 c b r)];exact r) λc xs r=>by rw[au (amx c xs r)];exact r
   rcases hc with rfl|hc
   ·exact hbe
   ·rintro rfl
    rcases he with z|z
    ·exact ag2 c b hc z
    ·rw[hc] at z;cases z;exact hb rfl
structure Un (fs ex:List Addr) (H H':Hp) (h h':Heap):Prop where
 keep:∀b o,h.get? b=some o->H b=none->b∉fs->b∉ex->h'.get? b=some o
 slot:∀b o,h.get? b=some o->H b=none->b∈fs->b∉ex->∃sl,h'.get? b=some {o with slots:=sl}
 free:∀b o,h.get? b=some o->H b=none->b∉ex->H' b=none
 there:∀b o,h.get? b=some o->b∉ex->∃o',h'.get? b=some o'
 tN:∀b xs,H b=some (.gV xs)->H' b=some (.gV xs)
 sf:∀b o u,H b=some (.sP o u)->H' b=some (.sP o u)
 tO:∀b ps,H b=some (.se ps)->∃jT,H' b=some (.se (ps++jT))
theorem Un.any (u:Un fs ex H H1 h h1)(q:h.get? b=some ob)(n:H b=none)(hx:b∉ex):∃sl,h1.get? b=some {ob with slots:=sl}:=by
 by_cases hb:b∈fs
 ·exact u.slot b ob q n hb hx
 ·exact⟨ob.slots,u.keep b ob q n hb hx⟩
theorem Un.iA (k:∀b u,h.get? b=some u->h'.get? b=some u):Un fs ex H H h h':=
 ⟨λb ob q _ _ _=>k b ob q,λb ob q _ _ _=>⟨ob.slots,k b ob q⟩,λ_ _ _ n _=>n,λb ob q _=>⟨ob,k b ob q⟩,λ_ _ q=>q,λ_ _ _ q=>q,λ_ ps q=>⟨#[],by rw[q];simp⟩⟩
theorem Un.refl:Un fs ex H H h h:=Un.iA λ_ _ q=>q
theorem Un.j_ (k:∀b u,h.get? b=some u->h'.get? b=some u)(hp:h.objs.size<=a)(hn:H a=none):Un fs ex H (bG H a o) h h' where
 keep:=λb u q _ _ _=>k b u q
 slot:=λb u q _ _ _=>⟨u.slots,k b u q⟩
 free:=λb u q n _=>by rw[au (zar (zak (zan q) hp))];exact n
 there:=λb u q _=>⟨u,k b u q⟩
 tN:=λb xs q=>by rw[au (dW q hn)];exact q
 sf:=λb u xs q=>by rw[au (dW q hn)];exact q
 tO:=λb ps q=>⟨#[],by rw[au (dW q hn),q];simp⟩
theorem Un.jB (mu:Mut (H x))(he:e=x\/H e=some (.tM x))(k:∀b u,b≠e->h.get? b=some u->h'.get? b=some u)(heo:∃u,h'.get? e=some u):Un fs ex H (bG H x o) h h':=by
 have hx:∀b,H b=none->b≠x:=λb n z=>by subst z;rw[n] at mu;exact mu
 have hb:∀b,H b=none->b≠e:=λb n z=>by
  subst z;rcases he with r|r
  ·exact hx b n r
  ·rw[n] at r;cases r
 have hm:∀b u,H b=some u->¬ Mut (some u)->b≠x:=λb u q nm z=>by subst z;rw[q] at mu;exact nm mu
 refine⟨λb u q n _ _=>k b u (hb b n) q,λb u q n _ _=>⟨u.slots,k b u (hb b n) q⟩,λb u q n _=>by rw[au (hx b n)];exact n,λb u q _=>?_,
  λb xs q=>by rw[au (hm b _ q λz=>z)];exact q,λb u xs q=>by rw[au (hm b _ q λz=>z)];exact q,λb ps q=>⟨#[],by rw[au (hm b _ q λz=>z),q];simp⟩⟩
 by_cases hbe:b=e
 ·subst hbe;exact heo
 ·exact⟨u,k b u hbe q⟩
noncomputable def trk (h:Heap)(H:Hp):List Addr:=(List.range h.objs.size).filter λa=>(H a).isSome
noncomputable def zV (h:Heap)(H:Hp):Heap:=PySem.W.hideAll h (trk h H)
theorem JX (h:Heap)(H:Hp):(zV h H).objs.size=h.objs.size:=PySem.W.hideAll_size _ _
theorem ME (e:h.get? b=some o)(n:H b=none):(zV h H).get? b=some o:=
 PySem.W.hideAll_get _ e λhm=>by
  have q:(H b).isSome=true:=(List.mem_filter.mp hm).2
  rw[n] at q;simp at q
theorem SD (e:(zV h H).get? b=some o):h.get? b=some o/\H b=none:=by
 have e':h.get? b=some o:=PySem.W.of_hideAll (trk h H) e
 refine⟨e',?_⟩
 cases q:H b with
 |none=>rfl
 |some x =>
  have hm:b∈trk h H:=List.mem_filter.mpr ⟨zea.mpr (zan e'),by simp[q]⟩
  have z:(zV h H).get? b=none:=PySem.W.hideAll_none (trk h H) hm
  rw[z] at e;cases e
structure Mod (K:PySem.W.Frag) (mg:Str->Option Value) (base:Heap):Prop where
 W0:K.In base
 tP:base.Ns mainGlobals mg
 W2:∃mb,base.Ns builtinsNs mb/\∀x:Str,x ≠ "__name__" -> mb x=bootBuiltins x
 nolimit:base.NoLimit
structure Cx where
 prog:Program
 w:World
 K:PySem.W.Frag
 mg:Str->Option Value
 base:Heap
 A:Around
 N:List Str
 s₀:Shared
 H₀:Hp
 env:Env
 outer:List Env
 cR:List Env
 ex:List Addr
 fn:Str->Bool
 e_:Bool
 pn:List (Addr×Obj)
 xe:Value->Shared->Prop
noncomputable def sQ (l:List Env):List Addr:=l.filterMap (·.frame)
noncomputable abbrev Cx.fs (X:Cx):List Addr:=sQ X.outer
noncomputable def Vis (sc:Scope)(x:Str):Prop:=sc.names.lookup x=some .local\/sc.names.lookup x=some .cell\/sc.names.lookup x=some .free
noncomputable def W3 (sc:Scope)(x:Str):Prop:=sc.names.lookup x=some .local\/sc.names.lookup x=some .cell
noncomputable def amy (env:Env)(h:Heap)(m:Str->Option Value)(x:Str)(u:Value):Prop:=
 (env.kindOf x=some .local/\m x=some u)\/((env.kindOf x=some .cell\/env.kindOf x=some .free)/\∃c,env.cells.lookup x=some c/\h.IsCell c (some u))
structure Cx.Ok (X:Cx):Prop where
 sR:Mod X.K X.mg X.base
 kind:X.env.scope.kind = .function
 tP:X.env.globals=mainGlobals
 W2:X.env.builtins=builtinsNs
 above:X.s₀.heap.objs.size<=X.env.locals
 inj:∀x y c,X.env.cells.lookup x=some c->X.env.cells.lookup y=some c->x=y
 has:∀x,(X.env.kindOf x=some .cell\/X.env.kindOf x=some .free)->∃c,X.env.cells.lookup x=some c
 cab:∀x c,X.fn x=true->X.env.cells.lookup x=some c->X.s₀.heap.objs.size<=c
 hd:X.e_=true->X.A.handled=none
 frames:X.A.frames=some X.cR
 stk:X.cR=X.outer\/(X.cR=X.env::X.outer/\X.env.frame=some X.env.locals)
 exf:∀b∈X.ex,b≠X.env.locals/\∀x c,X.env.cells.lookup x=some c->c≠b
 bs:∀b o,X.base.get? b=some o->X.s₀.heap.get? b=some o/\X.H₀ b=none
 Sh:X.base.objs.size<=X.s₀.heap.objs.size
 iB:∀b o,X.base.get? b=some o->b∉X.ex
 Et:∀b∈X.ex,b∉X.fs
 kR:X.s₀.heap.FunFrames X.base X.outer
 MF:∀b∈X.fs,X.H₀ b=none
structure aK (X:Cx) (ah:List (Addr×Obj)) (σ:List (Option V)) (H:Hp) (s:Shared):Prop where
 ok:X.Ok
 os:s.os=X.s₀.os
 iC:AllBare s.gens
 base:Un X.fs X.ex X.H₀ H X.s₀.heap s.heap
 Bh:∃m,s.heap.Ns X.env.locals m/\∀(i:Nat) (x:Str) (v:V),X.N[i]? = some x -> σ[i]? = some (some v)->Vis X.env.scope x->∃u,bI v u/\amy X.env s.heap m x u
 cell:∀x c,X.env.cells.lookup x=some c->∃v,s.heap.IsCell c v
 free:H X.env.locals=none
 kg:∀x c,X.env.cells.lookup x=some c->H c=none
 Bu:∀p∈X.pn++ah,s.heap.get? p.1=some p.2/\H p.1=none/\p.1≠X.env.locals/\p.1∉X.fs/\∀v,p.2.data ≠ .cell v
 cF:nH X.prog X.w H s.heap
 len:σ.length=X.N.length
section
variable {X:Cx}{ah:List (Addr×Obj)}{σ:List (Option V)}{H H':Hp}{s:Shared}{h':Heap}
theorem Cx.Ok.amz (ok:X.Ok)(e:X.base.get? b=some o):b∉X.fs:=λhb=>by
 have:=(ok.kR.mem hb).1
 rw[e] at this;cases this
theorem aK.bs (I:aK X ah σ H s):∀b o,X.base.get? b=some o->s.heap.get? b=some o/\H b=none:=λb o e =>
 ⟨I.base.keep b o (I.ok.bs b o e).1 (I.ok.bs b o e).2 (I.ok.amz e) (I.ok.iB b o e),I.base.free b o (I.ok.bs b o e).1 (I.ok.bs b o e).2 (I.ok.iB b o e)⟩
theorem aK.bk (I:aK X ah σ H s):∀b o,X.base.get? b=some o->s.heap.get? b=some o:=λb o e=>(I.bs b o e).1
theorem aK.sR (I:aK X ah σ H s):Mod X.K X.mg X.base:=I.ok.sR
theorem aK.nI (I:aK X ah σ H s):X.K.In s.heap:=I.ok.sR.W0.keeps I.bk
theorem aK.lt (I:aK X ah σ H s):X.env.locals<s.heap.objs.size:=let ⟨_,hn,_⟩:=I.Bh;hn.lt
theorem aK.sz (I:aK X ah σ H s):X.s₀.heap.objs.size<=s.heap.objs.size:=zag I.ok.above (zew I.lt)
theorem aK.amA (I:aK X ah σ H s)(h:s.heap.objs.size<=a):a∉X.fs:=λhb=>by
 obtain⟨_,o,ho,_⟩:=I.ok.kR.mem hb;exact absurd (zak (zan ho) (zag I.sz h)) (zaK _)
theorem aK.MG (I:aK X ah σ H s):∀x c,X.env.cells.lookup x=some c->c≠X.env.locals:=λx c e z=>by
 obtain⟨v,o,ho,hd⟩:=I.cell x c e;obtain⟨m,⟨o',es,ep,xj,Si,_⟩,_⟩:=I.Bh
 rw[z,xj] at ho;cases ho;rw[Si] at hd;cases hd
theorem aK.kR (I:aK X ah σ H s):s.heap.FunFrames X.base X.outer:=by
 have all:∀(l:List Env),(∀b∈sQ l,b∈X.fs)->X.s₀.heap.FunFrames X.base l->s.heap.FunFrames X.base l:=by
  intro l;induction l with
  |nil=>intro _ _;trivial
  |cons env r ih =>
   intro hs hl;obtain⟨hk,⟨L,o,hf,hn,ho,hd⟩,hr⟩:=hl
   have hL:L∈X.fs:=hs L (by unfold sQ;rw[zct,hf];exact zbn)
   obtain⟨sl,e⟩:=I.base.slot L o ho (I.ok.MF L hL) hL λz=>I.ok.Et L z hL
   exact⟨hk,⟨L,_,hf,hn,e,hd⟩,ih (λb hb=>hs b (by unfold sQ;rw[zct,hf];exact zaE _ hb)) hr⟩
 exact all X.outer (λ_ hb=>hb) I.ok.kR
theorem aK.cR (I:aK X ah σ H s):s.heap.FunFrames X.base X.cR:=by
 rcases I.ok.stk with e|⟨e,hf⟩
 ·rw[e];exact I.kR
 ·rw[e]
  obtain⟨m,hn,_⟩:=I.Bh;refine .cons (by rw[I.ok.kind];decide) hf hn ?_ I.kR
  exact Heap.get?_none_of_le (zag I.ok.Sh I.ok.above)
theorem aK.Eu (I:aK X ah σ H s):∀b∈sQ X.cR,b∈X.env.locals::X.fs:=λb hb=>by
 rcases I.ok.stk with e|⟨e,hf⟩
 ·rw[e] at hb;exact zaE _ hb
 ·rw[e] at hb
  unfold sQ at hb;rw[zct,hf] at hb;exact hb
theorem aK.Hs (I:aK X ah σ H s):∀b∈sQ X.cR,H b=none:=λb hb=>by
 rcases zam.mp (I.Eu b hb) with e|hb
 ·rw[e];exact I.free
 ·obtain⟨_,o,ho,_⟩:=I.ok.kR.mem hb
  exact I.base.free b o ho (I.ok.MF b hb) λz=>I.ok.Et b z hb
theorem aK.Bv {g':Array GenState}{t':Nat}{d':Drawn}{ch:List Addr}(I:aK X ah σ H s)
  (Sj:∀b∈ch,(b∈X.ex\/X.s₀.heap.objs.size<=b)/\b≠X.env.locals/\(∀x c,X.env.cells.lookup x=some c->c≠b)/\∀p∈X.pn++ah,p.1≠b)
  (keep:∀b o,b≠X.env.locals->b∉X.fs->b∉ch->s.heap.get? b=some o->H b=none->h'.get? b=some o)
  (slot:∀b o,b≠X.env.locals->b∈X.fs->b∉ch->s.heap.get? b=some o->H b=none->∃sl,h'.get? b=some {o with slots:=sl}) (free:∀b o,b∉ch->s.heap.get? b=some o->H b=none->H' b=none)
  (there:∀b o,b∉ch->s.heap.get? b=some o->∃o',h'.get? b=some o')
  (tN:∀b xs,H b=some (.gV xs)->H' b=some (.gV xs)) (sf:∀b o u,H b=some (.sP o u)->H' b=some (.sP o u)) (tO:∀b ps,H b=some (.se ps)->∃jT,H' b=some (.se (ps++jT)))
  (ns:∀m,s.heap.Ns X.env.locals m->h'.Ns X.env.locals m) (cF:nH X.prog X.w H' h') (hg:AllBare g'):
  aK X ah σ H' {s with heap:=h',gens:=g',drawn:=d',toks:=t' }:=by
 have neL:∀b o,X.s₀.heap.get? b=some o->b≠X.env.locals:=λb o e=>zar (zak (zan e) I.ok.above)
 have neC:∀b o,X.s₀.heap.get? b=some o->b∉X.ex->b∉ch:=λb o e hx hb=>by
  rcases (Sj b hb).1 with z|z
  ·exact hx z
  ·exact absurd (zak (zan e) z) (zaK _)
 have W4:∀x c,X.env.cells.lookup x=some c->∀v,s.heap.IsCell c v->h'.IsCell c v:=λx c e v ⟨o,ho,hd⟩=>by
  have nch:c∉ch:=λz=>(Sj c z).2.2.1 x c e rfl
  by_cases hc:c∈X.fs
  ·obtain⟨sl,q⟩:=slot c o (I.MG x c e) hc nch ho (I.kg x c e)
   exact⟨_,q,hd⟩
  ·exact⟨o,keep c o (I.MG x c e) hc nch ho (I.kg x c e),hd⟩
 refine⟨I.ok,I.os,hg,⟨λb o e n hb hx=>?_,λb o e n hb hx=>?_,λb o e n hx=>?_,λb o e hx=>?_,λb xs e=>tN b xs (I.base.tN b xs e),λb o xs e=>sf b o xs (I.base.sf b o xs e),λb ps e=>?_⟩,?_,λx c e=>?_,?_,λx c e=>?_,λp hp=>?_,cF,I.len⟩
 ·exact keep b o (neL b o e) hb (neC b o e hx) (I.base.keep b o e n hb hx) (I.base.free b o e n hx)
 ·obtain⟨sl,e1⟩:=I.base.slot b o e n hb hx
  obtain⟨Bw,e2⟩:=slot b _ (neL b o e) hb (neC b o e hx) e1 (I.base.free b o e n hx)
  exact⟨Bw,e2⟩
 ·obtain⟨o',e1⟩:=I.base.there b o e hx
  exact free b o' (neC b o e hx) e1 (I.base.free b o e n hx)
 ·obtain⟨o',e1⟩:=I.base.there b o e hx
  exact there b o' (neC b o e hx) e1
 ·obtain⟨m1,e1⟩:=I.base.tO b ps e
  obtain⟨m2,e2⟩:=tO b _ e1;exact⟨m1++m2,by rw[e2,Array.append_assoc]⟩
 ·obtain⟨m,hn,hl⟩:=I.Bh
  refine⟨m,ns m hn,λi x v e1 e2 e3=>?_⟩
  obtain⟨u,r,l⟩:=hl i x v e1 e2 e3;refine⟨u,r,?_⟩
  rcases l with l|⟨k,c,e,z⟩
  ·exact .inl l
  ·exact .inr ⟨k,c,e,W4 x c e _ z⟩
 ·obtain⟨v,z⟩:=I.cell x c e
  exact⟨v,W4 x c e v z⟩
 ·obtain⟨m,⟨o,_,_,ho,_⟩,_⟩:=I.Bh
  exact free _ o (λz=>(Sj _ z).2.1 rfl) ho I.free
 ·obtain⟨v,o,ho,hd⟩:=I.cell x c e
  exact free c o (λz=>(Sj c z).2.2.1 x c e rfl) ho (I.kg x c e)
 ·obtain⟨e,n,ne,nf,d⟩:=I.Bu p hp
  have nch:p.1∉ch:=λz=>(Sj p.1 z).2.2.2 p hp rfl
  exact⟨keep p.1 p.2 ne nf nch e n,free p.1 p.2 nch e n,ne,nf,d⟩
theorem aK.un {t':Nat}(I:aK X ah σ H s)(u:Un X.fs [] H H' s.heap h')(cF:nH X.prog X.w H' h'):aK X ah σ H' {s with heap:=h',toks:=t' }:=by
 obtain⟨m,⟨o,es,ep,ho,r⟩,_⟩:=id I.Bh
 obtain⟨sl,hL⟩:=u.any ho I.free (by simp)
 exact I.Bv (g':=s.gens) (d':=s.drawn) (ch:=[]) (λ_ z=>nomatch z) (λb o _ hb _ e n=>u.keep b o e n hb (by simp)) (λb o _ hb _ e n=>u.slot b o e n hb (by simp)) (λb o _ e n=>u.free b o e n (by simp)) (λb o _ e=>u.there b o e (by simp)) u.tN u.sf u.tO (λm' hm=>by
  obtain⟨o',es',ep',xj,r'⟩:=hm;rw[ho] at xj;cases xj
  exact⟨_,es',ep',hL,r'⟩) cF I.iC
theorem aK.call {g':Array GenState}{t':Nat}{d':Drawn}{ch:List Addr}(I:aK X ah σ H s)(u:Un (sQ X.cR) ch H H' s.heap h')(cF:nH X.prog X.w H' h')(hg:AllBare g')
  (Sj:∀b∈ch,(b∈X.ex\/X.s₀.heap.objs.size<=b)/\b≠X.env.locals/\(∀x c,X.env.cells.lookup x=some c->c≠b)/\∀p∈X.pn++ah,p.1≠b):
  aK X ah σ H' {s with heap:=h',gens:=g',drawn:=d',toks:=t' }:=by
 obtain⟨m,⟨o,es,ep,ho,r⟩,_⟩:=id I.Bh
 obtain⟨sl,hL⟩:=u.any ho I.free λz=>(Sj _ z).2.1 rfl
 exact I.Bv (ch:=ch) Sj (λb o hL hb hc e n=>u.keep b o e n (λz=>(zam.mp (I.Eu b z)).elim hL hb) hc) (λb o _ _ hc e n=>u.any e n hc) (λb o hc e n=>u.free b o e n hc) (λb o hc e=>u.there b o e hc) u.tN u.sf u.tO (λm' hm=>by
  obtain⟨o',es',ep',xj,r'⟩:=hm;rw[ho] at xj;cases xj
  exact⟨_,es',ep',hL,r'⟩) cF hg
theorem aK.kT {t':Nat}{it:Addr}(I:aK X ah σ H s)(k:∀b o,b≠it->s.heap.get? b=some o->h'.get? b=some o)(hn:H it=none)(hL:it≠X.env.locals)
  (h1:it∈X.ex\/X.s₀.heap.objs.size<=it) (h2:∀x c,X.env.cells.lookup x=some c->c≠it) (h3:∀p∈X.pn++ah,p.1≠it):aK X ah σ H {s with heap:=h',toks:=t' }:=by
 have nit:∀b u,H b=some u->b≠it:=λb u e z=>by rw[z,hn] at e;cases e
 refine I.Bv (g':=s.gens) (d':=s.drawn) (ch:=[it]) (λb hb=>?_) (λb o _ _ hc e _=>k b o (λz=>hc (by simp[z])) e) (λb o _ _ hc e _=>⟨o.slots,k b o (λz=>hc (by simp[z])) e⟩) (λ_ _ _ _ n=>n)
  (λb o hc e=>⟨o,k b o (λz=>hc (by simp[z])) e⟩) (λ_ _ e=>e) (λ_ _ _ e=>e) (λb ps e=>⟨#[],by rw[e];simp⟩) (λm hm=>?_) (λb u e=>?_) I.iC
 ·have e:b=it:=by simpa using hb
  subst e;exact⟨h1,hL,h2,h3⟩
 ·obtain⟨o,es,ep,ho,r⟩:=hm
  exact⟨o,es,ep,k _ o (zbg hL) ho,r⟩
 ·refine (I.cF b u e).qK (λc v hc q=>k c v ?_ q) (λ_ q=>q) λ_ _ q=>q
  rcases hc with z|z
  ·rw[z];exact nit b u e
  ·exact nit c _ z
theorem aK.oJ (I:aK X ah σ H s)(t:Nat):aK X ah σ H {s with toks:=t}:=I.un (h':=s.heap) (t':=t) Un.refl I.cF
theorem aK.iA (I:aK X ah σ H s)(k:∀b u,s.heap.get? b=some u->h'.get? b=some u):aK X ah σ H {s with heap:=h',toks:=t' }:=I.un (Un.iA k) (I.cF.iA k)
theorem aK.j_ (I:aK X ah σ H s)(k:∀b u,s.heap.get? b=some u->h'.get? b=some u)(hp:s.heap.objs.size<=a)(new:cP X.prog X.w (bG H a o) h' a o):
  aK X ah σ (bG H a o) {s with heap:=h',toks:=t' }:=I.un (Un.j_ k hp (I.cF.fresh hp)) (I.cF.j_ k hp new)
theorem aK.jB (I:aK X ah σ H s)(mu:Mut (H x))(he:e=x\/H e=some (.tM x))(k:∀b u,b≠e->s.heap.get? b=some u->h'.get? b=some u)(heo:∃u,h'.get? e=some u)
  (new:cP X.prog X.w (bG H x o) h' x o):aK X ah σ (bG H x o) {s with heap:=h',toks:=t' }:=I.un (Un.jB mu he k heo) (I.cF.jB mu he k heo new)
theorem aK.Ht (I:aK X ah σ H s)(h:∀p∈ag4,s.heap.get? p.1=some p.2/\H p.1=none/\p.1≠X.env.locals/\p.1∉X.fs/\∀v,p.2.data ≠ .cell v):aK X ag4 σ H s:=
 ⟨I.ok,I.os,I.iC,I.base,I.Bh,I.cell,I.free,I.kg,λp hp=>(zbd.mp hp).elim (λz=>I.Bu p (zbP _ z)) (h p),I.cF,I.len⟩
theorem tQ {N:List Str}(hN:N.Nodup){i j:Nat}{x:Str}(a:N[i]? = some x)(b:N[j]? = some x):i=j:=by
 obtain⟨h1,e1⟩:=zab.mp a
 obtain⟨h2,e2⟩:=zab.mp b
 exact (List.getElem_inj hN).mp (e1.trans e2.symm)
theorem xK {M:Model}{A:Around}{E:Value->Shared->Prop}{i:Nat}{x:Str}{v:V}{u:Value}{Q:Unit->Shared->Prop}(I:aK X ah σ H s)(hN:X.N.Nodup)(hi:X.N[i]? = some x)(hx:W3 X.env.scope x)(r:bI v u)
  (h:∀s',aK X ah (σ.set i (some v)) H s'->(∃a,Heap.SameBut a s.heap s'.heap/\(a=X.env.locals\/X.env.cells.lookup x=some a))->Q () s') (hf:autoParam (X.fn x=true\/X.env.scope.names.lookup x=some .local) zp_4):wpAny M A (storeName X.env x u) Q E s:=by
 obtain⟨m,hn,hl⟩:=id I.Bh;have MH:(X.env.scope.kind == .class || (X.env.scope.kind == .module && X.env.locals != X.env.globals))=false:=by rw[I.ok.kind];rfl
 have ag5:i<σ.length:=by rw[I.len];exact (zab.mp hi).1
 have MG:=I.MG;have pI:∀{a:Addr} {h':Heap},(∃o,s.heap.get? a=some o/\H a=none)->Heap.SameBut a s.heap h'->nH X.prog X.w H h':=λ{a h'} ha hs b ob e=>by
  obtain⟨_,_,xM⟩:=ha;refine (I.cF b ob e).qK (λc w' hc q=>(hs.2 c ?_).trans q) (λ_ q=>q) λ_ _ q=>q
  rintro rfl
  rcases hc with rfl|hc
  ·rw[xM] at e;cases e
  ·rw[xM] at hc;cases hc
 rcases hx with hk|hk
 ·refine wpAny_storeName_local hk hn (λh' hn' hs=>?_) MH
  obtain⟨oL,_,_,hoL,_⟩:=id hn;refine h _ ⟨I.ok,I.os,I.iC,⟨λb o e n hb hx=>?_,λb o e n hb hx=>?_,I.base.free,λb o e hx=>?_,I.base.tN,I.base.sf,I.base.tO⟩,⟨_,hn',λj y v' e1 e2 e3=>?_⟩,λy c e=>?_,I.free,I.kg,λp hp=>?_,pI ⟨oL,hoL,I.free⟩ hs,by simpa using I.len⟩ ⟨_,hs,.inl rfl⟩
  ·exact (hs.2 b (zar (zak (zan e) I.ok.above))).trans (I.base.keep b o e n hb hx)
  ·obtain⟨sl,e1⟩:=I.base.slot b o e n hb hx
   exact⟨sl,(hs.2 b (zar (zak (zan e) I.ok.above))).trans e1⟩
  ·obtain⟨o',e1⟩:=I.base.there b o e hx
   exact⟨o',(hs.2 b (zar (zak (zan e) I.ok.above))).trans e1⟩
  ·by_cases hj:j=i
   ·subst hj
    rw[hi] at e1;cases e1
    rw[zaB ag5] at e2;cases e2;exact⟨u,r,.inl ⟨hk,by simp⟩⟩
   ·rw[zaz (zbg hj)] at e2
    obtain⟨u',r',q⟩:=hl j y v' e1 e2 e3;refine⟨u',r',?_⟩
    rcases q with⟨k,e⟩|⟨k,c,e,z⟩
    ·refine .inl ⟨k,?_⟩
     have:y≠x:=λe=>hj (tQ hN e1 (e ▸ hi))
     simp[this,e]
    ·exact .inr ⟨k,c,e,z.sameBut hs (MG y c e)⟩
  ·obtain⟨w',z⟩:=I.cell y c e
   exact⟨w',z.sameBut hs (MG y c e)⟩
  ·obtain⟨e,n,ne,nf,d⟩:=I.Bu p hp
   exact⟨(hs.2 p.1 ne).trans e,n,ne,nf,d⟩
 ·have hfn:X.fn x=true:=by
   rcases hf with z|z
   ·exact z
   ·rw[z] at hk;cases hk
  obtain⟨c,hc⟩:=I.ok.has x (.inl hk)
  obtain⟨w',z⟩:=I.cell x c hc;refine wpAny_storeName_cell I.ok.kind hk hc z (λh' SE hs=>?_)
  obtain⟨oc,hoc,amE⟩:=id z;refine h {s with heap:=h' } ⟨I.ok,I.os,I.iC,⟨λb o e n hb hx=>?_,λb o e n hb hx=>?_,I.base.free,λb o e hx=>?_,I.base.tN,I.base.sf,I.base.tO⟩,⟨m,hn.sameBut hs (zbg (MG x c hc)),λj y v' e1 e2 e3=>?_⟩,λy c' e=>?_,I.free,I.kg,λp hp=>?_,pI ⟨oc,hoc,I.kg x c hc⟩ hs,by simpa using I.len⟩ ⟨c,hs,.inr hc⟩
  ·exact (hs.2 b (zar (zak (zan e) (I.ok.cab x c hfn hc)))).trans (I.base.keep b o e n hb hx)
  ·obtain⟨sl,e1⟩:=I.base.slot b o e n hb hx
   exact⟨sl,(hs.2 b (zar (zak (zan e) (I.ok.cab x c hfn hc)))).trans e1⟩
  ·obtain⟨o',e1⟩:=I.base.there b o e hx
   exact⟨o',(hs.2 b (zar (zak (zan e) (I.ok.cab x c hfn hc)))).trans e1⟩
  ·by_cases hj:j=i
   ·subst hj
    rw[hi] at e1;cases e1
    rw[zaB ag5] at e2;cases e2;exact⟨u,r,.inr ⟨.inl hk,c,hc,SE⟩⟩
   ·rw[zaz (zbg hj)] at e2
    obtain⟨u',r',q⟩:=hl j y v' e1 e2 e3;refine⟨u',r',?_⟩
    rcases q with q|⟨k,c',e,z'⟩
    ·exact .inl q
    ·refine .inr ⟨k,c',e,z'.sameBut hs ?_⟩
     rintro rfl
     exact hj (tQ hN e1 (I.ok.inj _ _ _ e hc ▸ hi))
  ·by_cases hcc:c'=c
   ·subst hcc;exact⟨_,SE⟩
   ·obtain⟨w2,z2⟩:=I.cell y c' e
    exact⟨w2,z2.sameBut hs hcc⟩
  ·obtain⟨e,n,ne,nf,d⟩:=I.Bu p hp
   refine⟨(hs.2 p.1 ?_).trans e,n,ne,nf,d⟩
   intro q;rw[q,hoc] at e;have q':oc=p.2:=zaw e
   exact d w' (by rw[<-q'];exact amE)
theorem mP (I:aK X ah σ H s)(hN:X.N.Nodup)(hi:X.N[i]? = some x)(hx:W3 X.env.scope x)(r:bI v u)
  (h:∀s',aK X ah (σ.set i (some v)) H s'->Q () s') (hf:autoParam (X.fn x=true\/X.env.scope.names.lookup x=some .local) zp_4):wpAny M A (storeName X.env x u) Q E s:=
 xK I hN hi hx r (λs' I' _=>h s' I') hf
theorem aK.Bx (I:aK X ah σ H s)(ho:s'.os=s.os)(u:Un (sQ X.cR) ch H H' s.heap s'.heap)(cF:nH X.prog X.w H' s'.heap)(hg:AllBare s'.gens)
  (Sj:∀b∈ch,(b∈X.ex\/X.s₀.heap.objs.size<=b)/\b≠X.env.locals/\(∀x c,X.env.cells.lookup x=some c->c≠b)/\∀p∈X.pn++ah,p.1≠b):aK X ah σ H' s':=by
 obtain⟨h',g',d',t',o'⟩:=s';have e:o'=s.os:=ho
 subst e;exact I.call (g':=g') (t':=t') (d':=d') u cF hg Sj
end
noncomputable abbrev XK:=Value->Option Addr->Hp->Prop
noncomputable abbrev St:=List (Option V)
noncomputable abbrev VK:=V->Hp->Prop
noncomputable abbrev TE:=St->Hp->VK->Prop
noncomputable abbrev TT:=St->Hp->(Bool->Hp->Prop)->Prop
noncomputable abbrev TA:=St->Hp->(List V->Hp->Prop)->Prop
structure tR where
 nx:St->Hp->Prop
 rt:VK
 bk:St->Hp->Prop:=λ_ _=>False
 ct:St->Hp->Prop:=λ_ _=>False
noncomputable abbrev TS:=tR->St->Hp->Prop
noncomputable def EP (X:Cx)(ah:List (Addr×Obj))(σ:St)(Q:VK)(u:Value)(s':Shared):Prop:=∃v H',aK X ah σ H' s'/\bI v u/\Q v H'
noncomputable def TP (X:Cx)(ah:List (Addr×Obj))(σ:St)(Q:Bool->Hp->Prop)(b:Bool)(s':Shared):Prop:=∃H',aK X ah σ H' s'/\Q b H'
noncomputable def AP (X:Cx)(ah:List (Addr×Obj))(σ:St)(Q:List V->Hp->Prop)(us:List Value)(s':Shared):Prop:=∃vs H',aK X ah σ H' s'/\bO vs us/\Q vs H'
noncomputable def SP (X:Cx)(ah:List (Addr×Obj))(D:tR)(f:Flow)(s':Shared):Prop:=
 match f with
 |.next=>∃dX H',aK X ah dX H' s'/\D.nx dX H'
 |.brk=>∃dX H',aK X ah dX H' s'/\D.bk dX H'
 |.cont=>∃dX H',aK X ah dX H' s'/\D.ct dX H'
 |.ret u=>∃v dX H',aK X ah dX H' s'/\bI v u/\D.rt v H'
noncomputable def PE (X:Cx)(e:Expr)(t:TE):Prop:=
 ∀(ah:List (Addr×Obj)) (s:Shared) (σ:St) (H:Hp) (Q:VK),aK X ah σ H s->t σ H Q->wpAny (model X.prog X.w) X.A (eval e X.env) (EP X ah σ Q) X.xe s
noncomputable def PT (X:Cx)(e:Expr)(t:TT):Prop:=
 ∀(ah:List (Addr×Obj)) (s:Shared) (σ:St) (H:Hp) (Q:Bool->Hp->Prop),aK X ah σ H s->t σ H Q->wpAny (model X.prog X.w) X.A (isTrue e X.env (eval e X.env)) (TP X ah σ Q) X.xe s
noncomputable def PW (X:Cx)(e:Expr)(t:TT):Prop:=
 ∀(tS:Sem Value) (ah:List (Addr×Obj)) (s:Shared) (σ:St) (H:Hp) (Q:Bool->Hp->Prop),aK X ah σ H s->t σ H Q->wpAny (model X.prog X.w) X.A (isTrue e X.env tS) (TP X ah σ Q) X.xe s
theorem PW.pt (h:PW X e t):PT X e t:=h _
noncomputable def PA (X:Cx)(es:List Expr)(t:TA):Prop:=
 ∀(pos:Pos) (ah:List (Addr×Obj)) (s:Shared) (σ:St) (H:Hp) (Q:List V->Hp->Prop),aK X ah σ H s->t σ H Q->wpAny (model X.prog X.w) X.A (spliced (backTo pos (starEach es X.env))) (AP X ah σ Q) X.xe s
noncomputable def PS (X:Cx)(st:Stmt)(t:TS):Prop:=
 ∀(ah:List (Addr×Obj)) (s:Shared) (σ:St) (H:Hp) (D:tR),aK X ah σ H s->t D σ H->wpAny (model X.prog X.w) X.A (exec st X.env) (SP X ah D) X.xe s
noncomputable def xq (X:Cx)(st:List Stmt)(t:TS):Prop:=
 ∀(ah:List (Addr×Obj)) (s:Shared) (σ:St) (H:Hp) (D:tR),aK X ah σ H s->t D σ H->wpAny (model X.prog X.w) X.A (execs st X.env) (SP X ah D) X.xe s
theorem cQ {α:Type}{t:Sem α}{Q Q' : α -> Shared->Prop}{M:Model}{A:Around}{E:Value->Shared->Prop}{s:Shared}(h:wpAny M A t Q E s)(hQ:∀a s,Q a s->Q' a s):wpAny M A t Q' E s:=zaA h hQ λ_ _ x=>x
section
variable {X:Cx}
noncomputable def ag6 (i:Nat):TE:=λσ H Q=>∃v,σ[i]? = some (some v)/\Q v H
noncomputable def tC (v:V):TE:=λ_ H Q=>Q v H
theorem MI (hN:X.N[i]? = some x)(hv:Vis X.env.scope x)(hd:autoParam ((x == ("__debug__" : Str))=false) zp_1)(BA:autoParam ((x == ("__classdict__" : Str))=false) zp_1):PE X (.Name x pos) (ag6 i):=by
 intro ah s σ H Q I h;obtain⟨v,e,h⟩:=h;obtain⟨m,hn,hl⟩:=I.Bh;obtain⟨u,r,l⟩:=hl i x v hN e hv;have fu:EP X ah σ Q u s:=⟨v,H,I,r,h⟩
 rcases l with⟨hk,hm⟩|⟨hk,c,hc,BB⟩
 ·exact wpAny_Name (wpAny_loadName_local I.ok.kind hk hn hm fu) hd
 ·rcases hk with hk|hk
  ·exact wpAny_Name (wpAny_loadName_cell I.ok.kind hk hc BB fu) hd
  ·exact wpAny_Name (wpAny_loadName_free I.ok.kind hk hc BB fu BA) hd
theorem aaJ {i j pos}:PE X (.Constant (.int i) j pos) (tC (.int i)):=λ_ _ _ H _ I h=>wpAny_Constant_int ⟨.int i,H,I.oJ _,⟨_,rfl⟩,h⟩
theorem ag7 {b j pos}:PE X (.Constant (.bool b) j pos) (tC (.bl b)):=λ_ _ _ H _ I h=>Constant_bool ⟨.bl b,H,I,rfl,h⟩
theorem aaK {j pos}:PE X (.Constant .none j pos) (tC .bz):=λ_ _ _ H _ I h=>Constant_none ⟨.bz,H,I,rfl,h⟩
theorem aaL {x j pos}:PE X (.Constant (.str x) j pos) (tC (.str x)):=λ_ _ _ H _ I h=>Calls.Constant_str ⟨.str x,H,I.oJ _,⟨_,rfl⟩,h⟩
noncomputable def Gl (X:Cx)(x:Str):Prop:=X.env.kindOf x=some .globalImplicit
theorem nJ (I:aK X ah σ H s)(hg:Gl X x)(hm:X.mg x=some u)(h:Q u s)
  (hd:autoParam ((x == ("__debug__" : Str))=false) zp_1):wpAny (model X.prog X.w) X.A (eval (.Name x pos) X.env) Q E s:=
 zdr I.ok.kind hg (Calls.loadGlobal_global (by rw[I.ok.tP];exact I.sR.tP.keeps I.bk) hm h) hd
theorem tT (I:aK X ah σ H s)(hg:Gl X x)(hm:X.mg x=none)(hv:bootBuiltins x=some u)(h:Q u s)
  (hn:autoParam (x ≠ "__name__") zp_1) (hd:autoParam ((x == ("__debug__" : Str))=false) zp_1):wpAny (model X.prog X.w) X.A (eval (.Name x pos) X.env) Q E s:=by
 obtain⟨mb,h1,h2⟩:=I.sR.W2;exact zdr I.ok.kind hg (Calls.loadGlobal_builtin (by rw[I.ok.tP];exact I.sR.tP.keeps I.bk) hm (by rw[I.ok.W2];exact h1.keeps I.bk) ((h2 x hn).trans hv) h) hd
theorem zW (hg:Gl X x)(hm:X.mg x=some u)(r:bI v u)(hd:autoParam ((x == ("__debug__" : Str))=false) zp_1):PE X (.Name x pos) (tC v):=
 λ_ _ _ H _ I h=>nJ I hg hm ⟨v,H,I,r,h⟩ hd
theorem SG (hg:Gl X x)(hm:X.mg x=none)(hv:bootBuiltins x=some u)(r:bI v u)(hn:autoParam (x ≠ "__name__") zp_1)(hd:autoParam ((x == ("__debug__" : Str))=false) zp_1):PE X (.Name x pos) (tC v):=
 λ_ _ _ H _ I h=>tT I hg hm hv ⟨v,H,I,r,h⟩ hn hd
variable {a b:Expr}{ta tb:TE}{pos:Pos}
noncomputable def PC (X:Cx)(op:CmpOp)(a b:Expr)(t:TE):Prop:=
 ∀(ah:List (Addr×Obj)) (s:Shared) (σ:St) (H:Hp) (Q:VK),aK X ah σ H s->t σ H Q ->
  wpAny (model X.prog X.w) X.A (eval a X.env) (λv cN=>wpAny (model X.prog X.w) X.A (eval b X.env) (λu mQ=>wpAny (model X.prog X.w) X.A (compareOp op v u) (EP X ah σ Q) X.xe mQ) X.xe cN) X.xe s
noncomputable def tB (t:TE):TT:=λσ H Q=>t σ H λx H1=>∃c,x = .bl c/\Q c H1
theorem aaM (h:PC X op a b t)(h1:behindInMarks op b=false:=by first|exact MJ _ (by decide) (by decide)|rfl):PE X (.Compare a [op] [b] pos) t:=λah s σ H Q I hw=>wpAny_Compare1 (h ah s σ H Q I hw) h1
theorem aaN (h:PC X op a b t)(h1:behindInMarks op b=false:=by first|exact MJ _ (by decide) (by decide)|rfl):PT X (.Compare a [op] [b] pos) (tB t):=by
 intro ah s σ H Q I hw;refine wpAny_isTrue_Compare1 (cQ (h ah s σ H _ I hw) λv s1 h1=>cQ h1 λu s2 h2=>cQ h2 λc s3 ⟨x,H1,I1,r1,q1⟩=>?_) h1
 obtain⟨d,rfl,q⟩:=q1;cases r1;exact zaZ ⟨H1,I1,q⟩
theorem aaO (h:PE X e t)(he:autoParam (∀tS,isTrue e X.env tS=(do let v <-tS;standAt e.pos;holding [v] (truthy v))) zp_3):PT X e (tB t):=by
 intro ah s σ H Q I hw;refine isTrue_plain (cQ (h ah s σ H _ I hw) λv s1 ⟨x,H1,I1,r1,q1⟩=>?_) (he _)
 obtain⟨d,rfl,q⟩:=q1;cases r1;exact zaZ ⟨H1,I1,q⟩
variable {tA tB':TT}{dz:List Expr}
noncomputable def amF (t u:TT):TT:=λσ H Q=>t σ H λc H1=>if c=true then u σ H1 Q else Q false H1
noncomputable def tOr (t u:TT):TT:=λσ H Q=>t σ H λc H1=>if c=true then Q true H1 else u σ H1 Q
noncomputable def amG (t:TT):TT:=λσ H Q=>t σ H λc H1=>Q (!c) H1
theorem SH (ha:PT X a tA):PW X (.BoolOp .And [a] pos) tA:=by
 intro wh ah s σ H Q I h;refine isTrue_and (cQ (ha ah s σ H Q I h) λc s1 e=>?_)
 cases c with
 |true=>exact isTrue_and_nil e
 |false=>exact e
theorem aaP (ha:PT X a tA):PW X (.BoolOp .Or [a] pos) tA:=by
 intro wh ah s σ H Q I h;refine isTrue_or (cQ (ha ah s σ H Q I h) λc s1 e=>?_)
 cases c with
 |false=>exact isTrue_or_nil e
 |true=>exact e
theorem aaQ (ha:PT X a tA)(hb:PW X (.BoolOp .And (b::dz) pos) tB'):PW X (.BoolOp .And (a::b::dz) pos) (amF tA tB'):=by
 intro wh ah s σ H Q I h;refine isTrue_and (cQ (ha ah s σ H _ I h) λc s1 ⟨H1,I1,q1⟩=>?_)
 cases c with
 |true=>exact hb wh ah s1 σ H1 Q I1 q1
 |false=>exact⟨H1,I1,q1⟩
theorem ag8 (ha:PT X a tA)(hb:PW X (.BoolOp .Or (b::dz) pos) tB'):PW X (.BoolOp .Or (a::b::dz) pos) (tOr tA tB'):=by
 intro wh ah s σ H Q I h;refine isTrue_or (cQ (ha ah s σ H _ I h) λc s1 ⟨H1,I1,q1⟩=>?_)
 cases c with
 |true=>exact⟨H1,I1,q1⟩
 |false=>exact hb wh ah s1 σ H1 Q I1 q1
theorem aaR (ha:PT X a tA):PT X (.UnaryOp .Not a pos) (amG tA):=by
 intro ah s σ H Q I h;exact isTrue_not (ha ah s σ H (λc H1=>Q (!c) H1) I h)
noncomputable def ag9 (ta tb:TE):TE:=λσ H Q=>ta σ H λx H1=>∃c,x = .bl c/\if c=true then tb σ H1 Q else Q (.bl false) H1
noncomputable def amH (ta tb:TE):TE:=λσ H Q=>ta σ H λx H1=>∃c,x = .bl c/\if c=true then Q (.bl true) H1 else tb σ H1 Q
noncomputable def aha (ta:TE):TE:=λσ H Q=>ta σ H λx H1=>∃c,x = .bl c/\Q (.bl (!c)) H1
theorem aaS {op}(h:PE X a t):PE X (.BoolOp op [a] pos) t:=λah s σ H Q I hw=>BoolOp_one (h ah s σ H Q I hw)
theorem aaT (ha:PE X a ta)(hb:PE X (.BoolOp .And (b::dz) pos) tb):PE X (.BoolOp .And (a::b::dz) pos) (ag9 ta tb):=by
 intro ah s σ H Q I h;refine BoolOp_and (cQ (ha ah s σ H _ I h) λv s1 ⟨x,H1,I1,r1,q1⟩=>?_)
 obtain⟨c,rfl,q1⟩:=q1;cases r1;refine zaZ ?_
 cases c with
 |true=>exact hb ah s1 σ H1 Q I1 q1
 |false=>exact⟨.bl false,H1,I1,rfl,q1⟩
theorem ahb (ha:PE X a ta)(hb:PE X (.BoolOp .Or (b::dz) pos) tb):PE X (.BoolOp .Or (a::b::dz) pos) (amH ta tb):=by
 intro ah s σ H Q I h;refine BoolOp_or (cQ (ha ah s σ H _ I h) λv s1 ⟨x,H1,I1,r1,q1⟩=>?_)
 obtain⟨c,rfl,q1⟩:=q1;cases r1;refine zaZ ?_
 cases c with
 |false=>exact hb ah s1 σ H1 Q I1 q1
 |true=>exact⟨.bl true,H1,I1,rfl,q1⟩
theorem aaU (ha:PE X a ta):PE X (.UnaryOp .Not a pos) (aha ta):=by
 intro ah s σ H Q I h;refine UnaryOp_ (cQ (ha ah s σ H _ I h) λv s1 ⟨x,H1,I1,r1,q1⟩=>?_)
 obtain⟨c,rfl,q1⟩:=q1;cases r1;exact not_of (zaZ ⟨.bl (!c),H1,I1,rfl,q1⟩)
noncomputable def tIf (t:TT)(ta tb:TE):TE:=λσ H Q=>t σ H λc H1=>if c=true then ta σ H1 Q else tb σ H1 Q
theorem MK (hc:PT X c tA)(ha:PE X a ta)(hb:PE X b tb):PE X (.IfExp c a b pos) (tIf tA ta tb):=by
 intro ah s σ H Q I h;refine wpAny_IfExp (cQ (hc ah s σ H _ I h) λd s1 ⟨H1,I1,q1⟩=>?_)
 cases d with
 |true=>exact ha ah s1 σ H1 Q I1 q1
 |false=>exact hb ah s1 σ H1 Q I1 q1
end
noncomputable def jC (K:PySem.W.Frag)(H:Hp)(a:Addr)(xs:List V):Prop:=
 Rd H a (.bS xs) \/
  ∃(o:Obj) (bw:Array Value) (n:Nat),K.lookup a=some o/\o.cls = .type "list" /\ o.dict=none/\o.data = .seq bw n/\bw.size<=sizeLine/\bO xs bw.toList
noncomputable def oV (K:PySem.W.Frag)(H:Hp)(a:Addr)(xs:List V):Prop:=
 Rd H a (.gV xs) \/
  ∃(o:Obj) (bw:Array Value) (n:Nat),K.lookup a=some o/\o.cls = .type "tuple" /\ o.data = .seq bw n/\bw.size<=sizeLine/\bO xs bw.toList
noncomputable def amI:Value->Option V
 |.none=>some .bz
 |.bool b=>some (.bl b)
 |.int i _=>some (.int i)
 |.str x _=>some (.str x)
 |.bytes b _=>some (.Mp b)
 |.float b _=>some (.flt b)
 |.ref a=>some (.ref a)
 |.type n=>some (.ty n)
 |_=>none
theorem bI.abs (r:bI x u):amI u=some x:=by
 cases x with
 |bz=>cases r;rfl
 |bl _=>cases r;rfl
 |int _=>obtain⟨t,rfl⟩:=r;rfl
 |str _=>obtain⟨t,rfl⟩:=r;rfl
 |Mp _=>obtain⟨t,rfl⟩:=r;rfl
 |flt _=>obtain⟨t,rfl⟩:=r;rfl
 |ref _=>cases r;rfl
 |ty _=>cases r;rfl
theorem bI.inj (r:bI x u)(q:bI y u):x=y:=zaw (r.abs.symm.trans q.abs)
theorem bO.inj:∀{xs ys:List V} {us:List Value},bO xs us->bO ys us->xs=ys
 |_,_,_,.nil,.nil=>rfl
 |_,_,_,.cons r t,.cons r' t'=>by rw[r.inj r',bO.inj t t']
theorem jC.of {K:PySem.W.Frag}(h:H a=some (.bS xs)):jC K H a xs:=.inl (.inl h)
theorem oV.of {K:PySem.W.Frag}(h:H a=some (.gV xs)):oV K H a xs:=.inl (.inl h)
theorem aK.list (I:aK X ah σ H s)(h:jC X.K H a xs):∃bw:List Value,bO xs bw/\PlainL s.heap a bw.toArray/\xs.length<=sizeLine:=by
 rcases h with h|⟨o,bw,n,hk,hc,hd,hs,hz,r⟩
 ·obtain⟨z,bw,n,r,e⟩:=h.ok I.cF
  exact⟨bw,r,⟨_,n,e,rfl,rfl,rfl⟩,z⟩
 ·refine⟨bw.toList,r,⟨o,n,I.nI a o hk,hc,hd,by simpa using hs⟩,?_⟩
  have e:=r.length;simp only[zdc] at e;omega
theorem aK.fY (I:aK X ah σ H s)(h:oV X.K H a xs):∃bw:List Value,bO xs bw/\IsTup s.heap a bw.toArray/\xs.length<=sizeLine:=by
 rcases h with h|⟨o,bw,n,hk,hc,hs,hz,r⟩
 ·obtain⟨z,bw,r,p⟩:=h.ok I.cF
  exact⟨bw,r,p,z⟩
 ·refine⟨bw.toList,r,⟨o,I.nI a o hk,hc,n,by simpa using hs⟩,?_⟩
  have e:=r.length;simp only[zdc] at e;omega
theorem aK.BC (I:aK X ah σ H s)(h:jC X.K H a xs)(h':jC X.K H a ys):xs=ys:=by
 obtain⟨bw,r,⟨o,n,e,_,_,d⟩,_⟩:=I.list h
 obtain⟨its',r',⟨o',n',e',_,_,d'⟩,_⟩:=I.list h'
 rw[e] at e';cases e'
 rw[d] at d';injection d' with d1 _
 have:bw=its':=by simpa using congrArg Array.toList d1
 subst this;exact r.inj r'
theorem aK.xN (I:aK X ah σ H s)(h:oV X.K H a xs)(h':oV X.K H a ys):xs=ys:=by
 obtain⟨bw,r,⟨o,e,_,n,d⟩,_⟩:=I.fY h
 obtain⟨its',r',⟨o',e',_,n',d'⟩,_⟩:=I.fY h'
 rw[e] at e';cases e'
 rw[d] at d';injection d' with d1 _
 have:bw=its':=by simpa using congrArg Array.toList d1
 subst this;exact r.inj r'
noncomputable abbrev Cx.oW (X:Cx)(E:Value->Shared->Prop):Cx:={X with xe:=E}
noncomputable abbrev Cx.sS (X:Cx):Cx:=X.oW λ_ _=>False
theorem Cx.Ok.oW {X:Cx}(ok:X.Ok)(E:Value->Shared->Prop):(X.oW E).Ok:=
 ⟨ok.sR,ok.kind,ok.tP,ok.W2,ok.above,ok.inj,ok.has,ok.cab,ok.hd,ok.frames,ok.stk,ok.exf,ok.bs,ok.Sh,ok.iB,ok.Et,ok.kR,ok.MF⟩
theorem Cx.Ok.c9 {X:Cx}{E:Value->Shared->Prop}(ok:(X.oW E).Ok):X.Ok:=
 ⟨ok.sR,ok.kind,ok.tP,ok.W2,ok.above,ok.inj,ok.has,ok.cab,ok.hd,ok.frames,ok.stk,ok.exf,ok.bs,ok.Sh,ok.iB,ok.Et,ok.kR,ok.MF⟩
theorem aK.oW (I:aK X ah σ H s)(E:Value->Shared->Prop):aK (X.oW E) ah σ H s:=⟨I.ok.oW E,I.os,I.iC,I.base,I.Bh,I.cell,I.free,I.kg,I.Bu,I.cF,I.len⟩
theorem aK.c9 (I:aK (X.oW E) ah σ H s):aK X ah σ H s:=⟨I.ok.c9,I.os,I.iC,I.base,I.Bh,I.cell,I.free,I.kg,I.Bu,I.cF,I.len⟩
theorem SP.c9 (h:SP (X.oW E) ah D f s'):SP X ah D f s':=by
 cases f with
 |next=>obtain⟨dX,H',I,q⟩:=h;exact⟨dX,H',I.c9,q⟩
 |brk=>obtain⟨dX,H',I,q⟩:=h;exact⟨dX,H',I.c9,q⟩
 |cont=>obtain⟨dX,H',I,q⟩:=h;exact⟨dX,H',I.c9,q⟩
 |ret u=>obtain⟨v,dX,H',I,r,q⟩:=h;exact⟨v,dX,H',I.c9,r,q⟩
theorem xq.sS {st:List Stmt}{t:TS}(h:xq X.sS st t):xq X st t:=λah s σ H D I hw =>
 zaA (h ah s σ H D (I.oW _) hw) (λ_ _ q=>q.c9) λ_ _ z=>False.elim z
section
variable {X:Cx}{st:Stmt}{dz:List Stmt}{t u:TS}{e:Expr}{te:TE}{pos:Pos}
noncomputable def ahc:TS:=λD σ H=>D.nx σ H
noncomputable def amJ (t u:TS):TS:=λD σ H=>t {D with nx:=u D} σ H
theorem SJ:xq X [] ahc:=λ_ _ σ H _ I h=>zbu ⟨σ,H,I,h⟩
theorem pJ (h1:PS X st t)(h2:xq X dz u):xq X (st::dz) (amJ t u):=by
 intro ah s σ H D I h;refine zbR (cQ (h1 ah s σ H {D with nx:=u D} I h) λf s1 q=>?_)
 cases f with
 |next =>
  obtain⟨dX,H',I',q⟩:=q;exact h2 ah s1 dX H' D I' q
 |ret v=>exact q
 |brk=>exact q
 |cont=>exact q
theorem zX (h1:PS X st t):xq X [st] t:=by
 intro ah s σ H D I h;refine zbR (cQ (h1 ah s σ H D I h) λf s1 q=>?_)
 cases f with
 |next=>exact zbu q
 |ret v=>exact q
 |brk=>exact q
 |cont=>exact q
theorem aK.quiet (I:aK X ah σ H s):interactive X.env=false:=by simp[interactive,I.ok.kind]
noncomputable def ahd (te:TE):TS:=λD σ H=>te σ H λ_ H1=>D.nx σ H1
theorem zY (he:PE X e te)(hs:autoParam (swapsWith e none pos.line X.env=pure false) zp_0):PS X (.Expr e pos) (ahd te):=by
 intro ah s σ H D I h;exact zec (cQ (he ah s σ H _ I h) λv s1 ⟨x,H1,I1,r1,q1⟩=>⟨σ,H1,I1,q1⟩) I.quiet hs
noncomputable def amK (te:TE):TS:=λD σ H=>te σ H D.rt
theorem aaV (he:PE X e te):PS X (.Return (some e) pos) (amK te):=by
 intro ah s σ H D I h;exact wpAny_Return_some (cQ (he ah s σ H _ I h) λv s1 ⟨x,H1,I1,r1,q1⟩=>⟨x,σ,H1,I1,r1,q1⟩)
noncomputable def amL (c:TT)(t u:TS):TS:=λD σ H=>c σ H λb H1=>if b=true then t D σ H1 else u D σ H1
theorem ahf (hc:PT X c tc)(ha:xq X a t)(hb:xq X b u):PS X (.If c a b pos) (amL tc t u):=by
 intro ah s σ H D I h;refine wpAny_If (cQ (hc ah s σ H _ I h) λd s1 ⟨H1,I1,q1⟩=>?_)
 cases d with
 |true=>exact ha ah s1 σ H1 D I1 q1
 |false=>exact hb ah s1 σ H1 D I1 q1
end
noncomputable abbrev TG:=V->St->Hp->(St->Hp->Prop)->Prop
noncomputable abbrev TGs:=List V->St->Hp->(St->Hp->Prop)->Prop
noncomputable def PG (X:Cx)(target:Expr)(t:TG):Prop:=
 ∀(ah:List (Addr×Obj)) (s:Shared) (σ:St) (H:Hp) (v:V) (u:Value) (Q:St->Hp->Prop),aK X ah σ H s->bI v u->t v σ H Q ->
  wpAny (model X.prog X.w) X.A (assign target X.env u) (λ_ s'=>∃dX H',aK X ah dX H' s'/\Q dX H') X.xe s
noncomputable def SK (X:Cx)(ts:List Expr)(t:TGs):Prop:=
 ∀(ah:List (Addr×Obj)) (s:Shared) (σ:St) (H:Hp) (vs:List V) (us:List Value) (Q:St->Hp->Prop),aK X ah σ H s->bO vs us->t vs σ H Q ->
  wpAny (model X.prog X.w) X.A (assignInOrder ((assignEach ts X.env).map (·.2)) us) (λ_ s'=>∃dX H',aK X ah dX H' s'/\Q dX H') X.xe s
noncomputable abbrev ahg:=V->V->V->Hp->(Hp->Prop)->Prop
noncomputable def aaW (X:Cx)(t:ahg):Prop:=
 ∀(ah:List (Addr×Obj)) (s:Shared) (σ:St) (H:Hp) (o i v:V) (ov iv u:Value) (Q:Hp->Prop),aK X ah σ H s->bI o ov->bI i iv->bI v u->t o i v H Q ->
  wpAny (model X.prog X.w) X.A (setItem ov iv u) (λ_ s'=>∃H',aK X ah σ H' s'/\Q H') X.xe s
noncomputable def Hu (i:Nat):TG:=λv σ H Q=>Q (σ.set i (some v)) H
theorem SM (hN:X.N.Nodup)(hi:X.N[i]? = some x)(hx:W3 X.env.scope x)(hf:autoParam (X.fn x=true\/X.env.scope.names.lookup x=some .local) zp_4):PG X (.Name x pos) (Hu i):=by
 intro ah s σ H v u Q I r h;exact wpAny_assign_Name (mP I hN hi hx r (λs' I'=>⟨_,H,I',h⟩) hf)
noncomputable def amM:TGs:=λvs σ H Q=>vs=[]/\Q σ H
noncomputable def ahh (t:TG)(u:TGs):TGs:=λvs σ H Q=>∃v r,vs=v::r/\t v σ H λdX H'=>u r dX H' Q
theorem SN:SK X [] amM:=by
 intro ah s σ H vs us Q I r h;obtain⟨e,h⟩:=h;subst e;cases r;exact assignInOrder_nil ⟨σ,H,I,h⟩
theorem MM (h1:PG X e t)(h2:SK X es u)
  (hs:autoParam ((assignEach (e::es) X.env).map (·.2)=assign e X.env::(assignEach es X.env).map (·.2)) zp_0):SK X (e::es) (ahh t u):=by
 intro ah s σ H vs us Q I r h;obtain⟨v,vr,e1,h⟩:=h;subst e1;cases r with
 |cons r rr =>
  rw[hs];refine assignInOrder_cons (cQ (h1 ah s σ H _ _ _ I r h) λ_ s1 ⟨σ1,H1,I1,q1⟩=>?_)
  exact h2 ah s1 σ1 H1 _ _ Q I1 rr q1
noncomputable def amN (K:PySem.W.Frag)(n:Nat)(t:TGs):TG:=λv σ H Q=>∃a xs,v = .ref a/\oV K H a xs/\xs.length=n/\t xs σ H Q
theorem aaX (hc:X.e_=true)(h:SK X es t)
  (hn:autoParam ((assignEach es X.env).length=n) zp_0) (oK:autoParam ((assignEach es X.env).findIdx? (·.1)=none) zp_0):PG X (.Tuple es k pos) (amN X.K n t):=by
 intro ah s σ H v u Q I r hw;obtain⟨a,xs,e1,hq,hl,hw⟩:=hw;subst e1;cases r;obtain⟨bw,rv,ht,hz⟩:=I.fY hq;refine assign_Tuple_tuple (I.ok.hd hc) ht (by simp[hn,<-hl,rv.length]) oK λh' hx=>?_
 have I1:aK X ah σ H {s with heap:=h' }:=I.iA (t':=s.toks) λb o e=>hx b o (zar (zan e)) e
 exact h ah _ σ H xs _ Q I1 (by simpa using rv) hw
noncomputable def amO (to ti:TE)(t:ahg):TG:=λv σ H Q=>to σ H λo H1=>ti σ H1 λi H2=>t o i v H2 λH3=>Q σ H3
theorem aaY (ho:PE X o to)(hi:PE X i ti)(hs:aaW X t)
  (ha:autoParam (∀v,assign (.Subscript o i pos) X.env v=(do
   let ov <-holding [v] (eval o X.env)
   let iv <-holding [v,ov] (eval i X.env)
   standAt pos
   holding [v,ov,iv] (setItem ov iv v)
   release [v,ov,iv] [])) zp_3):PG X (.Subscript o i pos) (amO to ti t):=by
 intro ah s σ H v u Q I r h;rw[ha];refine zaa (zbr (cQ (ho ah s σ H _ I h) λov s1 ⟨x,H1,I1,r1,q1⟩=>?_))
 refine zaa (zbr (cQ (hi ah s1 σ H1 _ I1 q1) λiv s2 ⟨y,H2,I2,r2,q2⟩=>?_))
 refine zaa (zcN (zaa (zbr (cQ (hs ah s2 σ H2 x y v ov iv u _ I2 r1 r2 r q2) λ_ s3 ⟨H3,I3,q3⟩=>?_))))
 exact wpAny_release ⟨σ,H3,I3,q3⟩
noncomputable def SO (te:TE)(g:TG):TS:=λD σ H=>te σ H λx H1=>g x σ H1 D.nx
theorem aaZ (he:PE X e te)(hg:PG X tg g)(hs:autoParam (swapsWithSole [tg] e pos.line X.env=pure false) zp_0)(hw:autoParam (swappedStores [tg] e X.env=pure none) zp_0)
  (h1:autoParam ((assignEach [tg] X.env).map (·.2)=[assign tg X.env]) zp_0):PS X (.Assign [tg] e pos) (SO te g):=by
 intro ah s σ H D I h;refine wpAny_Assign_stores (cQ (he ah s σ H _ I h) λv s1 ⟨x,H1,I1,r1,q1⟩=>?_) hs hw
 rw[h1];exact cQ (hg ah s1 σ H1 x v _ I1 r1 q1) λ_ s2 q=>q
theorem aa0 (hN:X.N.Nodup)(hi:X.N[i]? = some x)(hx:W3 X.env.scope x)(he:PE X e te)(hs:autoParam (swapsWith e (some (.Name x kh)) pos.line X.env=pure false) zp_0)(hf:autoParam (X.fn x=true\/X.env.scope.names.lookup x=some .local) zp_4):
  PS X (.Assign [.Name x kh] e pos) (SO te (Hu i)):=by
 intro ah s σ H D I h;refine wpAny_Assign_Name (cQ (he ah s σ H _ I h) λv s1 ⟨y,H1,I1,r1,q1⟩=>?_) hs
 exact mP I1 hN hi hx r1 (λs2 I2=>⟨_,H1,I2,q1⟩) hf
structure It where
 go:Nat->Hp->Prop
 yld:Nat->Hp->V->Hp->Prop
 stop:Nat->Hp->Prop
noncomputable def qL (X:Cx)(ah:List (Addr×Obj))(H:Hp)(b:Addr):Prop:=
 H b=none/\b≠X.env.locals/\b∉X.fs/\(b∈X.ex\/X.s₀.heap.objs.size<=b)/\(∀x c,X.env.cells.lookup x=some c->c≠b)/\∀p∈X.pn++ah,p.1≠b
theorem aK.Ew (I:aK X ah σ H s)(hb:s.heap.objs.size<=b)(hn:H' b=none):qL X ah H' b:=by
 refine⟨hn,zbS (zak I.lt hb),I.amA hb,.inr (zag I.sz hb),λx c e z=>?_,λp hp z=>?_⟩
 ·obtain⟨v,q⟩:=I.cell x c e
  exact absurd (zak q.lt (by rw[z];exact hb)) (zaK _)
 ·exact absurd (zak (zan (I.Bu p hp).1) (by rw[z];exact hb)) (zaK _)
structure JY (P:Program) (w:World) (K:PySem.W.Frag) (tg:Expr) (J:It) (fp:List Addr) (it:Addr) (tn:Nat->Heap->Prop):Prop where
 mem:it∈fp
 kU:∀i h,tn i h->∀b∈fp,∃o,h.get? b=some o/\∀v,o.data ≠ .cell v
 keep:∀i h h',tn i h->(∀b∈fp,∀o,h.get? b=some o->h'.get? b=some o)->tn i h'
 item:∀(X:Cx),X.prog=P->X.w=w->X.K=K->X.e_=true->∀(i:Nat) (ah:List (Addr×Obj)) (s:Shared) (σ:St) (H:Hp) (E:Value->Shared->Prop),aK X ah σ H s->(∀b∈fp,qL X ah H b)->tn i s.heap->J.go i H ->
  wpAny (model P w) X.A (pyNext (.ref it)) (λr s1=>∃u,r=some u /\
   wpAny (model P w) X.A (letOwnedTupleGo tg (.ref it) u) (λ_ s2=>∃x H',aK X ah σ H' s2/\bI x u/\J.yld i H x H'/\tn (i+1) s2.heap/\∀b∈fp,H' b=none) E s1) E s
 done:∀(X:Cx),X.prog=P->X.w=w->X.K=K->X.e_=true->∀(i:Nat) (ah:List (Addr×Obj)) (s:Shared) (σ:St) (H:Hp) (E:Value->Shared->Prop),aK X ah σ H s->(∀b∈fp,qL X ah H b)->tn i s.heap->J.stop i H ->
  wpAny (model P w) X.A (pyNext (.ref it)) (λr s1=>r=none/\aK X ah σ H s1) E s
 self:∀(A:Around) (i:Nat) (s:Shared) (Q:Value->Shared->Prop) (E:Value->Shared->Prop),tn i s.heap->Q (.ref it) s->wpAny (model P w) A (pyIter (.ref it)) Q E s
noncomputable abbrev TI:=St->Hp->(It->Hp->Prop)->Prop
noncomputable def PIE (X:Cx)(ah:List (Addr×Obj))(σ:St)(tg:Expr)(R:It->Hp->Prop)(itv:Value)(s2:Shared):Prop:=
 ∃(it:Addr) (fp:List Addr) (tn:Nat->Heap->Prop) (J:It) (H':Hp),itv = .ref it/\aK X ah σ H' s2/\JY X.prog X.w X.K tg J fp it tn/\tn 0 s2.heap/\(∀b∈fp,qL X ah H' b)/\R J H'
noncomputable def PI (X:Cx)(tg eO:Expr)(wi:TI):Prop:=
 ∀(ah:List (Addr×Obj)) (s:Shared) (σ:St) (H:Hp) (R:It->Hp->Prop),aK X ah σ H s->wi σ H R ->
  wpAny (model X.prog X.w) X.A (eval eO X.env) (λv s1=>wpAny (model X.prog X.w) X.A (pyIter v) (PIE X ah σ tg R) X.xe s1) X.xe s
theorem Hv (ho:s.heap.get? it=some o)(hc:o.cls = .type n)(hd:o.data = .fields vs)
    (hn:["enumerate","zip","dict_itemiterator","dict_reverseitemiterator","odict_iterator","itertools.zip_longest","itertools.pairwise"].contains n=false) (hQ:Q () s):wpAny M A (letOwnedTupleGo tg (.ref it) u) Q E s:=by
  unfold letOwnedTupleGo;cases tg<;>first
    |exact zad hQ
    | (cases u<;>first
        |exact zad hQ
        | (refine zaa (wpAny_load ho ?_)
           rw[hc,hd];show wpAny M A (if (["enumerate","zip","dict_itemiterator","dict_reverseitemiterator","odict_iterator","itertools.zip_longest","itertools.pairwise"].contains n && vs[0]? == some (rawInt _))=true then _ else _) Q E s
           rw[if_neg (by intro h;rw[hn,zdh] at h;cases h)]
           exact zad hQ))
noncomputable def Itl (K:PySem.W.Frag)(a:Addr):It:=
 ⟨λi H=>∃xs x,jC K H a xs/\xs[i]? = some x,λi H x H'=>H'=H/\∀xs,jC K H a xs->xs[i]? = some x,λi H=>∃xs,jC K H a xs/\xs.length<=i⟩
noncomputable def Itt (K:PySem.W.Frag)(a:Addr):It:=
 ⟨λi H=>∃xs x,oV K H a xs/\xs[i]? = some x,λi H x H'=>H'=H/\∀xs,oV K H a xs->xs[i]? = some x,λi H=>∃xs,oV K H a xs/\xs.length<=i⟩
noncomputable def Itr (lo:Int)(n:Nat):It:=⟨λi _=>i<n,λi H x H'=>H'=H/\x = .int (lo+i),λi _=>n<=i⟩
theorem JZ {P:Program}{w:World}{K:PySem.W.Frag}{tg:Expr}(a it:Addr):JY P w K tg (Itl K a) [it] it (λi h=>h.IsListIter it a i) where
 mem:=by simp
 kU:=λi h st b hb=>by
  have e:b=it:=by simpa using hb
  subst e;obtain⟨o,e,c,d⟩:=st;exact⟨o,e,λv z=>by rw[d] at z;cases z⟩
 keep:=λi h h' st k=>st.at λo e=>k it (by simp) o e
 item:=by
  intro X hP hw hK hc i ah s σ H E I hf st hg;subst hP hw hK;obtain⟨xs,x,hq,hx⟩:=hg;obtain⟨bw,rv,p,hz⟩:=I.list hq;obtain⟨u,hu,ru⟩:=rv.get hx;obtain⟨f0,f1,f2,f3,f4,f5⟩:=hf it (by simp)
  refine wpAny_pyNext_list_item st p.isList (x:=u) (by simpa using hu) λh' BD sb=>?_
  have I1:aK X ah σ H {s with heap:=h' }:=I.kT (t':=s.toks) (λb o hb e=>(sb.2 b hb).trans e) f0 f1 f3 f4 f5
  obtain⟨o,e,c,d⟩:=id BD;exact⟨u,rfl,Hv (s:={s with heap:=h' }) e c d (by decide) ⟨x,H,I1,ru,⟨rfl,λys hy=>by rw[I.BC hy hq];exact hx⟩,BD,λb hb=>(hf b hb).1⟩⟩
 done:=by
  intro X hP hw hK hc i ah s σ H E I hf st hg;subst hP hw hK;obtain⟨xs,hq,hx⟩:=hg;obtain⟨bw,rv,p,hz⟩:=I.list hq;obtain⟨f0,f1,f2,f3,f4,f5⟩:=hf it (by simp)
  have hl:=rv.length;exact wpAny_pyNext_list_end (I.ok.hd hc) st p.isList (by simp;omega) λh' eb=>⟨rfl,I.kT (t':=s.toks) (λb o hb e=>eb b o hb e) f0 f1 f3 f4 f5⟩
 self:=λ_ _ _ _ _ st h=>wpAny_pyIter_listiter st h
theorem Ex {P:Program}{w:World}{K:PySem.W.Frag}{tg:Expr}(a it:Addr):JY P w K tg (Itt K a) [it] it (λi h=>h.IsTupleIter it a i) where
 mem:=by simp
 kU:=λi h st b hb=>by
  have e:b=it:=by simpa using hb
  subst e;obtain⟨o,e,c,d⟩:=st;exact⟨o,e,λv z=>by rw[d] at z;cases z⟩
 keep:=λi h h' st k=>st.at λo e=>k it (by simp) o e
 item:=by
  intro X hP hw hK hc i ah s σ H E I hf st hg;subst hP hw hK;obtain⟨xs,x,hq,hx⟩:=hg;obtain⟨bw,rv,p,hz⟩:=I.fY hq;obtain⟨u,hu,ru⟩:=rv.get hx;obtain⟨f0,f1,f2,f3,f4,f5⟩:=hf it (by simp)
  refine wpAny_pyNext_tuple_item st (show s.heap.IsTuple a bw.toArray from p) (x:=u) (by simpa using hu) λh' BD sb=>?_
  have I1:aK X ah σ H {s with heap:=h' }:=I.kT (t':=s.toks) (λb o hb e=>(sb.2 b hb).trans e) f0 f1 f3 f4 f5
  obtain⟨o,e,c,d⟩:=id BD;exact⟨u,rfl,Hv (s:={s with heap:=h' }) e c d (by decide) ⟨x,H,I1,ru,⟨rfl,λys hy=>by rw[I.xN hy hq];exact hx⟩,BD,λb hb=>(hf b hb).1⟩⟩
 done:=by
  intro X hP hw hK hc i ah s σ H E I hf st hg;subst hP hw hK;obtain⟨xs,hq,hx⟩:=hg;obtain⟨bw,rv,p,hz⟩:=I.fY hq;obtain⟨f0,f1,f2,f3,f4,f5⟩:=hf it (by simp)
  have hl:=rv.length;exact wpAny_pyNext_tuple_end (I.ok.hd hc) st (show s.heap.IsTuple a bw.toArray from p) (by simp;omega) λh' eb=>⟨rfl,I.kT (t':=s.toks) (λb o hb e=>eb b o hb e) f0 f1 f3 f4 f5⟩
 self:=λ_ _ _ _ _ st h=>wpAny_pyIter_tupleiter st h
theorem Ey {P:Program}{w:World}{K:PySem.W.Frag}{tg:Expr}(it:Addr)(lo:Int)(n:Nat):JY P w K tg (Itr lo n) [it] it (λi h=>IsRangeIter h it (lo+(i:Nat) * 1) ((n:Int) - (i:Nat)) 1) where
 mem:=by simp
 kU:=λi h st b hb=>by
  have e:b=it:=by simpa using hb
  subst e;exact⟨_,st,λv z=>by
   have z':Data.fields _=Data.cell v:=z
   cases z'⟩
 keep:=λi h h' st k=>k it (by simp) _ st
 item:=by
  intro X hP hw hK hc i ah s σ H E I hf st hg;subst hP hw hK;obtain⟨f0,f1,f2,f3,f4,f5⟩:=hf it (by simp)
  have W:=Walks.range (prog:=X.prog) (w:=X.w) (I.ok.hd hc) it lo 1 n
  refine W.item i s _ _ hg st λv h' tk hv BD kk=>?_
  obtain⟨t,rfl⟩:=hv;have I1:aK X ah σ H {s with heap:=h',toks:=tk}:=I.kT (λb o hb e=>kk b o (by simpa using hb) e) f0 f1 f3 f4 f5
  refine⟨_,rfl,Hv (s:={s with heap:=h',toks:=tk}) (n:= "range_iterator") BD rfl rfl (by decide) ⟨.int (lo+i),H,I1,⟨t,?_⟩,⟨rfl,rfl⟩,BD,λb hb=>(hf b hb).1⟩⟩
  rw[Int.mul_one]
 done:=by
  intro X hP hw hK hc i ah s σ H E I hf st hg;subst hP hw hK;obtain⟨f0,f1,f2,f3,f4,f5⟩:=hf it (by simp)
  exact wpAny_pyNext_range_end (I.ok.hd hc) st (by have:n<=i:=hg;omega) λh' eb=>⟨rfl,I.kT (t':=s.toks) (λb o hb e=>eb b o hb e) f0 f1 f3 f4 f5⟩
 self:=λ_ _ _ _ _ st h=>wpAny_pyIter_rangeiter st h
noncomputable def ahi (K:PySem.W.Frag)(tl:TE):TI:=λσ H R=>tl σ H λx H1=>∃a,x = .ref a/\(∃xs,jC K H1 a xs)/\R (Itl K a) H1
noncomputable def amS (K:PySem.W.Frag)(tl:TE):TI:=λσ H R=>tl σ H λx H1=>∃a,x = .ref a/\(∃xs,oV K H1 a xs)/\R (Itt K a) H1
theorem SQ {l:Expr}{tl:TE}(hl:PE X l tl):PI X tg l (ahi X.K tl):=by
 intro ah s σ H R I h;refine cQ (hl ah s σ H _ I h) λv s1 ⟨x,H1,I1,r1,q1⟩=>?_
 obtain⟨a,e,⟨xs,hq⟩,q⟩:=q1
 subst e;cases r1;obtain⟨bw,rv,p,hz⟩:=I1.list hq;refine zdy p.isList ?_
 refine⟨s1.heap.objs.size,[s1.heap.objs.size],_,_,H1,rfl,I1.iA (t':=s1.toks) λb o e=>zac _ e,JZ a _,⟨_,zap _ rfl,rfl,rfl⟩,λb hb=>?_,q⟩
 have e:b=s1.heap.objs.size:=by simpa using hb
 subst e;exact I1.Ew (zah _) (I1.cF.fresh (zah _))
theorem aa1 {l:Expr}{tl:TE}(hl:PE X l tl):PI X tg l (amS X.K tl):=by
 intro ah s σ H R I h;refine cQ (hl ah s σ H _ I h) λv s1 ⟨x,H1,I1,r1,q1⟩=>?_
 obtain⟨a,e,⟨xs,hq⟩,q⟩:=q1
 subst e;cases r1;obtain⟨bw,rv,p,hz⟩:=I1.fY hq;refine wpAny_pyIter_tuple (show s1.heap.IsTuple a bw.toArray from p) ?_
 refine⟨s1.heap.objs.size,[s1.heap.objs.size],_,_,H1,rfl,I1.iA (t':=s1.toks) λb o e=>zac _ e,Ex a _,⟨_,zap _ rfl,rfl,rfl⟩,λb hb=>?_,q⟩
 have e:b=s1.heap.objs.size:=by simpa using hb
 subst e;exact I1.Ew (zah _) (I1.cF.fresh (zah _))
theorem MN {ah:List (Addr×Obj)}{σ:St}{H:Hp}{s:Shared}{R:It->Hp->Prop}{E:Value->Shared->Prop}{lo hi:Int}{t u v:Tok}{tk:Nat}(I:aK X ah σ H s)(h1: -(2 ^ 62)<=lo)(h2:lo<2 ^ 62)(h3: -(2 ^ 62)<=hi)(h4:hi<2 ^ 62)
  (q:R (Itr lo (hi - lo).toNat) H):wpAny (model X.prog X.w) X.A (pyIter (.ref s.heap.objs.size)) (PIE X ah σ tg R) E { s with heap:=s.heap.push { cls:=.type "range",data:=.fields #[.int lo t,.int hi u,.int 1 v]},toks:=tk}:=by
 refine wpAny_pyIter_range (IsRange.new ..) (small_one h1 h2 h3 h4) ?_
 have I1:aK X ah σ H { s with heap:=s.heap.push { cls:=.type "range",data:=.fields #[.int lo t,.int hi u,.int 1 v]},toks:=tk}:=I.iA λb o e=>zac _ e
 refine⟨(s.heap.push { cls:=.type "range",data:=.fields #[.int lo t,.int hi u,.int 1 v]}).objs.size,[(s.heap.push { cls:=.type "range",data:=.fields #[.int lo t,.int hi u,.int 1 v]}).objs.size],_,_,H,rfl,
  I1.iA (t':=tk) λb o e=>zac _ e,Ey _ lo (hi - lo).toNat,?_,λb hb=>?_,q⟩
 ·have e1:lo+((0:Nat):Int) * 1=lo:=by simp
  have e2:(((hi - lo).toNat:Nat):Int) - ((0:Nat):Int)=Builtin.Range.rangeSize lo hi 1:=by rw[rangeSize_one];split<;>omega
  show IsRangeIter _ _ (lo+((0:Nat):Int) * 1) ((((hi - lo).toNat:Nat):Int) - ((0:Nat):Int)) 1
  rw[e1,e2];exact zap _ rfl
 ·have e:b=(s.heap.push { cls:=.type "range",data:=.fields #[.int lo t,.int hi u,.int 1 v]}).objs.size:=by simpa using hb
  subst e;exact I1.Ew (zah _) (I1.cF.fresh (zah _))
noncomputable def ahj (ta:TA):TI:=λσ H R=>ta σ H λvs H1=>∃j:Int,vs=[.int j] /\ -(2 ^ 62)<=j/\j<2 ^ 62/\R (Itr 0 j.toNat) H1
theorem J0 {a:Expr}{ta:TA}{p pos:Pos}(hg:Gl X "range")(hm:X.mg "range"=none)(ha:PA X [a] ta)(hs:autoParam (starEach [a] X.env=[(false,eval a X.env)]) zp_0):PI X tg (.Call (.Name "range" p) [a] [] pos) (ahj ta):=by
 intro ah s σ H R I h;refine Call_ (tT I hg hm boot_range (zcp (cQ (ha pos ah s σ H _ I h) λus s1 ⟨vs,H1,I1,r1,q1⟩=>?_) hs rfl))
 obtain⟨j,e,q1,q2,q⟩:=q1;subst e;cases r1 with
 |cons r rr =>
  cases rr;obtain⟨t,rfl⟩:=r;exact call_range_1 (MN I1 (by omega) (by omega) q1 q2 (by simpa using q))
noncomputable def amT (wi:TI)(g:TG)(tb:TS):TS:=λD σ H=>wi σ H λJ H1=>∃W:Nat->Nat->St->Hp->Prop,(∃m,W 0 m σ H1)/\∀i m σ H,W i m σ H ->
 (J.stop i H/\D.nx σ H)\/(J.go i H/\∃N:St->Hp->Prop,(∀dX H',N dX H'->∃m',m' < m/\W (i+1) m' dX H')/\∀x H',J.yld i H x H'->g x σ H' λBj H2=>tb {D with nx:=N,ct:=N,bk:=D.nx} Bj H2)
noncomputable def tU (fp:List Addr)(h:Heap):List (Addr×Obj):=fp.filterMap λb=>(h.get? b).map λo=>(b,o)
theorem kW (hb:b∈fp)(e:h.get? b=some o):(b,o)∈tU fp h:=List.mem_filterMap.mpr ⟨b,hb,by rw[e];rfl⟩
theorem J1 (hp:p∈tU fp h):p.1∈fp/\h.get? p.1=some p.2:=by
 obtain⟨b,hb,e⟩:=List.mem_filterMap.mp hp;cases q:h.get? b with
 |none=>rw[q] at e;cases e
 |some o =>
  rw[q] at e;have e':(b,o)=p:=zaw e
  subst e';exact⟨hb,q⟩
theorem aK.MO (I:aK X ah σ H s)(hf:∀b∈fp,qL X ah H b)(ho:∀b∈fp,∃o,s.heap.get? b=some o/\∀v,o.data ≠ .cell v):aK X (ah++tU fp s.heap) σ H s:=
 I.Ht λp hp=>(zbd.mp hp).elim (λz=>I.Bu p (zaG _ z)) λz=>by
  obtain⟨hb,e⟩:=J1 z;obtain⟨f0,f1,f2,_⟩:=hf p.1 hb;obtain⟨o,e',d⟩:=ho p.1 hb;rw[e] at e';cases e'
  exact⟨e,f0,f1,f2,d⟩
theorem aK.pK (I:aK X (ah++pl) σ H s):aK X ah σ H s:=I.Ht λp hp=>I.Bu p (zaG _ (zbP _ hp))
theorem aa2 (hp:PassesOwn (model X.prog X.w) X.A X.env X.xe)(hc:X.e_=true)(hi:PI X tg eO wi)(hg:PG X tg g)(hb:xq X body tb)
  (hs:autoParam (∀x,foldedSetIterable eO X.env x=pure x) zp_3):PS X (.For tg eO body [] pos) (amT wi g tb):=by
 intro ah s σ H D I h;refine wpAny_For (cQ (hi ah s σ H _ I h) λv s1 h1=>cQ h1 λitv s2 h2=>?_) hs
 obtain⟨it,fp,tn,J,H2,e,I2,T,st2,f2,W,⟨m0,w0⟩,MP⟩:=h2
 subst e;-- amw apV true of Es aa3 SR alN Es SA
 have Ez:∀{H':Hp},(∀b∈fp,H' b=none)->∀b∈fp,qL X ah H' b:=λhn b hb=>⟨hn b hb,(f2 b hb).2⟩
 refine codeAny_forLoop_any (λn s'=>∃i dX H',aK X ah dX H' s'/\tn i s'.heap/\(∀b∈fp,H' b=none)/\W i n dX H') ?_ m0 ⟨0,σ,H2,I2,st2,λb hb=>(f2 b hb).1,w0⟩
 rintro n s3 ⟨i,σ3,H3,I3,st3,fr3,w3⟩
 rcases MP i n σ3 H3 w3 with⟨stop,qn⟩|⟨go,N,hN,Bv⟩
 ·refine zcx hp (cQ (T.done X rfl rfl rfl hc i ah s3 σ3 H3 X.xe I3 (Ez fr3) st3 stop) λr s4 ⟨hr,I4⟩=>?_)
  subst hr;exact zbu ⟨σ3,H3,I4,qn⟩
 ·refine zcx hp (cQ (T.item X rfl rfl rfl hc i ah s3 σ3 H3 X.xe I3 (Ez fr3) st3 go) λr s4 ⟨u,hr,h4⟩=>?_)
  subst hr;refine zcx hp (cQ h4 λ_ s5 ⟨x,H5,I5,r5,y5,st5,fr5⟩=>?_)
  have I5':=I5.MO (Ez fr5) (T.kU _ _ st5)
  refine zcx hp (cQ (hg _ s5 σ3 H5 x u _ I5' r5 (Bv x H5 y5)) λ_ s6 ⟨MQ,H6,I6,q6⟩=>?_)
  refine zcx hp (cQ (hb _ s6 MQ H6 _ I6 q6) λf s7 q7=>?_)
  have again:∀{MR:St} {H7:Hp},aK X (ah++tU fp s5.heap) MR H7 s7->N MR H7->∃m,m<n/\∃i dX H',aK X ah dX H' s7/\tn i s7.heap/\(∀b∈fp,H' b=none)/\W i m dX H':=λ{MR H7} I7 n7=>by
   obtain⟨m',hm,w7⟩:=hN MR H7 n7;refine⟨m',hm,i+1,MR,H7,I7.pK,T.keep _ _ _ st5 λb hb o e=>(I7.Bu (b,o) (zaG _ (zaG _ (kW hb e)))).1,λb hb=>?_,w7⟩
   obtain⟨o,e,d⟩:=T.kU _ _ st5 b hb;exact (I7.Bu (b,o) (zaG _ (zaG _ (kW hb e)))).2.1
  cases f with
  |next=>obtain⟨MR,H7,I7,n7⟩:=q7;exact again I7 n7
  |cont=>obtain⟨MR,H7,I7,n7⟩:=q7;exact again I7 n7
  |brk=>obtain⟨MR,H7,I7,q7⟩:=q7;exact⟨MR,H7,I7.pK,q7⟩
  |ret v=>obtain⟨x7,MR,H7,I7,r7,q7⟩:=q7;exact⟨x7,MR,H7,I7.pK,r7,q7⟩
noncomputable abbrev R2:=V->V->Hp->VK->Prop
noncomputable def kQ (X:Cx)(f:Value->Value->Sem Value)(r:R2):Prop:=
 ∀(ah:List (Addr×Obj)) (s:Shared) (σ:St) (H:Hp) (x y:V) (v u:Value) (Q:VK),aK X ah σ H s->bI x v->bI y u->r x y H Q ->
  wpAny (model X.prog X.w) X.A (f v u) (EP X ah σ Q) X.xe s
noncomputable def UnR (X:Cx)(f:Value->Sem Value)(r:V->Hp->VK->Prop):Prop:=
 ∀(ah:List (Addr×Obj)) (s:Shared) (σ:St) (H:Hp) (x:V) (v:Value) (Q:VK),aK X ah σ H s->bI x v->r x H Q ->
  wpAny (model X.prog X.w) X.A (f v) (EP X ah σ Q) X.xe s
noncomputable def jD (X:Cx)(f:Value)(r:List V->Hp->VK->Prop):Prop:=
 ∀(ah:List (Addr×Obj)) (s:Shared) (σ:St) (H:Hp) (xs:List V) (us:List Value) (Q:VK),aK X ah σ H s->bO xs us->r xs H Q ->
  wpAny (model X.prog X.w) X.A (call f us) (EP X ah σ Q) X.xe s
noncomputable def tOp (r:R2)(ta tb:TE):TE:=λσ H Q=>ta σ H λx H1=>tb σ H1 λy H2=>r x y H2 Q
noncomputable def tUn (r:V->Hp->VK->Prop)(ta:TE):TE:=λσ H Q=>ta σ H λx H1=>r x H1 Q
noncomputable def rI (C:Int->Int->Prop)(g:Int->Int->V):R2:=λx y H Q=>∃i j,x = .int i/\y = .int j/\C i j/\Q (g i j) H
noncomputable def SS (g:Int->Int->V):R2:=λx y H Q=>∃i j,x = .int i/\y = .int j/\Q (g i j) H
noncomputable def rU (g:Int->V):V->Hp->VK->Prop:=λx H Q=>∃i,x = .int i/\Q (g i) H
theorem aa4 (ha:PE X a ta)(hb:PE X b tb){ah:List (Addr×Obj)}{s:Shared}{σ:St}{H:Hp}{R:V->V->Hp->Prop}(I:aK X ah σ H s)
  (h:ta σ H λx H1=>tb σ H1 λy H2=>R x y H2) {Q:Value->Shared->Prop} {f:Value->Value->Sem Value}
  (hf:∀v u s2 x y H2,aK X ah σ H2 s2->bI x v->bI y u->R x y H2->wpAny (model X.prog X.w) X.A (f v u) Q X.xe s2):
  wpAny (model X.prog X.w) X.A (eval a X.env) (λv cN=>wpAny (model X.prog X.w) X.A (eval b X.env) (λu mQ=>wpAny (model X.prog X.w) X.A (f v u) Q X.xe mQ) X.xe cN) X.xe s:=by
 refine cQ (ha ah s σ H _ I h) λv s1 ⟨x,H1,I1,r1,q1⟩=>?_
 refine cQ (hb ah s1 σ H1 _ I1 q1) λu s2 ⟨y,H2,I2,r2,q2⟩=>?_
 exact hf v u s2 x y H2 I2 r1 r2 q2
theorem ahn {op:Operator}{r:R2}(ho:kQ X (binaryOp op) r)(ha:PE X a ta)(hb:PE X b tb):PE X (.BinOp a op b pos) (tOp r ta tb):=by
 intro ah s σ H Q I h;exact wpAny_BinOp (aa4 ha hb I h λv u s2 x y H2 I2 rx ry q=>ho ah s2 σ H2 x y v u Q I2 rx ry q)
theorem aho (ho:UnR X (unaryOp op) r)(ha:PE X a ta):PE X (.UnaryOp op a pos) (tUn r ta):=by
 intro ah s σ H Q I h;exact UnaryOp_ (cQ (ha ah s σ H _ I h) λv s1 ⟨x,H1,I1,r1,q1⟩=>ho ah s1 σ H1 x v Q I1 r1 q1)
theorem opI {f:Value->Value->Sem Value}{C:Int->Int->Prop}{g:Int->Int->Int}
  (rule:∀(i j:Int) (t u:Tok) (s:Shared) (Q:Value->Shared->Prop) (E:Value->Shared->Prop),C i j->Q (.int (g i j) s.toks) {s with toks:=s.toks+1}->wpAny (model X.prog X.w) X.A (f (.int i t) (.int j u)) Q E s):
  kQ X f (rI C λi j=>.int (g i j)):=by
 intro ah s σ H x y v u Q I rx ry h;obtain⟨i,j,rfl,rfl,hc,q⟩:=h;obtain⟨t,rfl⟩:=rx;obtain⟨t',rfl⟩:=ry;exact rule i j t t' s _ _ hc ⟨.int (g i j),H,I.oJ _,⟨_,rfl⟩,q⟩
theorem ahp {f:Value->Value->Sem Value}{g:Int->Int->Int}
  (rule:∀(i j:Int) (t u:Tok) (s:Shared) (Q:Value->Shared->Prop) (E:Value->Shared->Prop),Q (.int (g i j) s.toks) {s with toks:=s.toks+1}->wpAny (model X.prog X.w) X.A (f (.int i t) (.int j u)) Q E s):
  kQ X f (SS λi j=>.int (g i j)):=by
 intro ah s σ H x y v u Q I rx ry h;obtain⟨i,j,rfl,rfl,q⟩:=h;obtain⟨t,rfl⟩:=rx;obtain⟨t',rfl⟩:=ry;exact rule i j t t' s _ _ ⟨.int (g i j),H,I.oJ _,⟨_,rfl⟩,q⟩
theorem SV {f:Value->Value->Sem Value}{g:Int->Int->Bool}
  (rule:∀(i j:Int) (t u:Tok) (s:Shared) (Q:Value->Shared->Prop) (E:Value->Shared->Prop),Q (.bool (g i j)) s->wpAny (model X.prog X.w) X.A (f (.int i t) (.int j u)) Q E s):
  kQ X f (SS λi j=>.bl (g i j)):=by
 intro ah s σ H x y v u Q I rx ry h;obtain⟨i,j,rfl,rfl,q⟩:=h;obtain⟨t,rfl⟩:=rx;obtain⟨t',rfl⟩:=ry;exact rule i j t t' s _ _ ⟨.bl (g i j),H,I,rfl,q⟩
noncomputable def amU (i j:Int):Prop:=0<j/\j<1073741824
noncomputable def amV (i j:Int):Prop:=0<=j/\j<=1000000/\i.natAbs<2 ^ 64
noncomputable def aa5 (i j:Int):Prop:=(-(2 ^ 64)<i/\i<2 ^ 64)\/(-(2 ^ 64)<j/\j<2 ^ 64)
theorem aa5.ok (h:aa5 i j):IntMulOk i j:=by
 rcases h with⟨h1,h2⟩|⟨h1,h2⟩
 ·exact .of_left (intBits_le_64 h1 h2)
 ·exact .of_right (intBits_le_64 h1 h2)
theorem aa6:kQ X (binaryOp .Add) (SS λi j=>.int (i+j)):=ahp λ_ _ _ _ _ _ _ q=>add_int q
theorem aa7:kQ X (binaryOp .Sub) (SS λi j=>.int (i - j)):=ahp λ_ _ _ _ _ _ _ q=>sub_int q
theorem aa8:kQ X (binaryOp .Mult) (rI aa5 λi j=>.int (i * j)):=opI λ_ _ _ _ _ _ _ hc q=>mul_int q hc.ok
theorem SW:kQ X (binaryOp .FloorDiv) (rI amU λi j=>.int (i / j)):=opI λi j _ _ _ _ _ hc q=>by
 have h1:(0:Int)<j:=hc.1
 have h2:j<1073741824:=hc.2
 exact floordiv_int (by omega) (by rw[Int.fdiv_eq_ediv_of_nonneg i (by omega)];exact q) (.inl (PyProof.noPylong_small (by omega)))
theorem aa9:kQ X (binaryOp .Mod) (rI (λ_ j=>0<j) λi j=>.int (i % j)):=opI λi j _ _ _ _ _ hc q=>by
 have h1:(0:Int)<j:=hc
 exact mod_int' (by omega) (by rw[Int.fmod_eq_emod_of_nonneg i (by omega)];exact q)
theorem aba:kQ X (binaryOp .Pow) (rI amV λi j=>.int (i ^ j.toNat)):=opI λ_ _ _ _ _ _ _ hc q=>pow_int_small hc.1 hc.2.1 hc.2.2 q
theorem unI {f:Value->Sem Value}{g:Int->Int}
  (rule:∀(i:Int) (t:Tok) (s:Shared) (Q:Value->Shared->Prop) (E:Value->Shared->Prop),Q (.int (g i) s.toks) {s with toks:=s.toks+1}->wpAny (model X.prog X.w) X.A (f (.int i t)) Q E s):
  UnR X f (rU λi=>.int (g i)):=by
 intro ah s σ H x v Q I rx h;obtain⟨i,rfl,q⟩:=h;obtain⟨t,rfl⟩:=rx;exact rule i t s _ _ ⟨.int (g i),H,I.oJ _,⟨_,rfl⟩,q⟩
theorem abb:UnR X (unaryOp .USub) (rU λi=>.int (-i)):=unI λ_ _ _ _ _ q=>neg_int q
noncomputable def abc:V->V->Bool
 |.bz,.bz=>true|.bz,.int _=>true|.int _,.bz=>true|.bz,.bl _=>true|.bl _,.bz=>true|.bz,.str _=>true|.str _,.bz=>true
 |.int _,.int _=>true|.bl _,.bl _=>true|.str _,.str _=>true|.Mp _,.Mp _=>true
 |.int _,.str _=>true|.str _,.int _=>true|.bl _,.str _=>true|.str _,.bl _=>true
 |_,_=>false
noncomputable def rEq:R2:=λx y H Q=>abc x y=true/\Q (.bl (decide (x=y))) H
noncomputable def rNe:R2:=λx y H Q=>abc x y=true/\Q (.bl (!decide (x=y))) H
theorem Hw:decide (V.int i=V.int j)=(i == j):=by
 rw[zbe];simp
theorem EA:decide (V.bl i=V.bl j)=(i == j):=by
 rw[zbe];simp
theorem Hx:decide (V.str i=V.str j)=(i == j):=by
 rw[zbe];simp
theorem Hy:decide (V.Mp i=V.Mp j)=(i.toList == j.toList):=by
 rw[zbe];cases i;cases j;simp
theorem bV (I:aK X ah σ H s)(q:Q (.bl k) H)(e:k=k'):EP X ah σ Q (.bool k') s:=by
 subst e;exact⟨.bl k,H,I,rfl,q⟩
theorem ahq:kQ X (compareOp .Eq) rEq:=by
 intro ah s σ H x y v u Q I rx ry h;obtain⟨hs,q⟩:=h;cases x with
 |bz =>
  cases rx;cases y with
  |bz=>cases ry;exact PySem.EqNone.eq_none_none (bV I q (by simp))
  |bl j=>cases ry;exact PySem.EqNone.eq_none_bool (bV I q (by simp))
  |int j=>obtain⟨t',rfl⟩:=ry;exact PySem.EqNone.eq_none_int (bV I q (by simp))
  |str j=>obtain⟨t',rfl⟩:=ry;exact PySem.EqNone.eq_none_str (bV I q (by simp))
  |_=>exact absurd (show false=true from hs) zal
 |bl i =>
  cases rx;cases y with
  |bz=>cases ry;exact PySem.EqNone.eq_bool_none (bV I q (by simp))
  |bl j=>cases ry;exact eq_bool (bV I q EA)
  |str j=>obtain⟨t',rfl⟩:=ry;exact PySem.EqMixed.eq_bool_str (bV I q (by simp))
  |_=>exact absurd (show false=true from hs) zal
 |int i =>
  obtain⟨t,rfl⟩:=rx;cases y with
  |bz=>cases ry;exact PySem.EqNone.eq_int_none (bV I q (by simp))
  |int j=>obtain⟨t',rfl⟩:=ry;exact eq_int (bV I q Hw)
  |str j=>obtain⟨t',rfl⟩:=ry;exact PySem.EqMixed.eq_int_str (bV I q (by simp))
  |_=>exact absurd (show false=true from hs) zal
 |str i =>
  obtain⟨t,rfl⟩:=rx;cases y with
  |bz=>cases ry;exact PySem.EqNone.eq_str_none (bV I q (by simp))
  |bl j=>cases ry;exact PySem.EqMixed.eq_str_bool (bV I q (by simp))
  |int j=>obtain⟨t',rfl⟩:=ry;exact PySem.EqMixed.eq_str_int (bV I q (by simp))
  |str j=>obtain⟨t',rfl⟩:=ry;exact eq_str (bV I q Hx)
  |_=>exact absurd (show false=true from hs) zal
 |Mp i =>
  obtain⟨t,rfl⟩:=rx;cases y with
  |Mp j=>obtain⟨t',rfl⟩:=ry;exact PySem.W.eq_bytes (bV I q Hy)
  |_=>exact absurd (show false=true from hs) zal
 |_=>cases y<;>exact absurd (show false=true from hs) zal
theorem ahr:kQ X (compareOp .NotEq) rNe:=by
 intro ah s σ H x y v u Q I rx ry h;obtain⟨hs,q⟩:=h;cases x with
 |bz =>
  cases rx;cases y with
  |bz=>cases ry;exact PySem.EqNone.ne_none_none (bV I q (by simp))
  |bl j=>cases ry;exact PySem.EqNone.ne_none_bool (bV I q (by simp))
  |int j=>obtain⟨t',rfl⟩:=ry;exact PySem.EqNone.ne_none_int (bV I q (by simp))
  |str j=>obtain⟨t',rfl⟩:=ry;exact PySem.EqNone.ne_none_str (bV I q (by simp))
  |_=>exact absurd (show false=true from hs) zal
 |bl i =>
  cases rx;cases y with
  |bz=>cases ry;exact PySem.EqNone.ne_bool_none (bV I q (by simp))
  |bl j=>cases ry;exact ne_bool (bV I q (congrArg not EA))
  |str j=>obtain⟨t',rfl⟩:=ry;exact PySem.EqMixed.ne_bool_str (bV I q (by simp))
  |_=>exact absurd (show false=true from hs) zal
 |int i =>
  obtain⟨t,rfl⟩:=rx;cases y with
  |bz=>cases ry;exact PySem.EqNone.ne_int_none (bV I q (by simp))
  |int j=>obtain⟨t',rfl⟩:=ry;exact ne_int (bV I q (congrArg not Hw))
  |str j=>obtain⟨t',rfl⟩:=ry;exact PySem.EqMixed.ne_int_str (bV I q (by simp))
  |_=>exact absurd (show false=true from hs) zal
 |str i =>
  obtain⟨t,rfl⟩:=rx;cases y with
  |bz=>cases ry;exact PySem.EqNone.ne_str_none (bV I q (by simp))
  |bl j=>cases ry;exact PySem.EqMixed.ne_str_bool (bV I q (by simp))
  |int j=>obtain⟨t',rfl⟩:=ry;exact PySem.EqMixed.ne_str_int (bV I q (by simp))
  |str j=>obtain⟨t',rfl⟩:=ry;exact ne_str (bV I q (congrArg not Hx))
  |_=>exact absurd (show false=true from hs) zal
 |Mp i =>
  obtain⟨t,rfl⟩:=rx;cases y with
  |Mp j=>obtain⟨t',rfl⟩:=ry;exact PySem.W.ne_bytes (bV I q (congrArg not Hy))
  |_=>exact absurd (show false=true from hs) zal
 |_=>cases y<;>exact absurd (show false=true from hs) zal
theorem ahs:kQ X (compareOp .Lt) (SS λi j=>.bl (decide (i<j))):=SV λ_ _ _ _ _ _ _ q=>lt_int q
theorem aht:kQ X (compareOp .LtE) (SS λi j=>.bl (decide (i<=j))):=SV λ_ _ _ _ _ _ _ q=>le_int q
theorem ahu:kQ X (compareOp .Gt) (SS λi j=>.bl (decide (j<i))):=SV λ_ _ _ _ _ _ _ q=>gt_int q
theorem ahv:kQ X (compareOp .GtE) (SS λi j=>.bl (decide (j<=i))):=SV λ_ _ _ _ _ _ _ q=>ge_int q
theorem J2:kQ X (compareOp .In) (λx y H Q=>∃i j,x = .str i/\y = .str j/\Q (.bl (!(Builtin.Str.occurrences j i 0 j.length 1).isEmpty)) H):=by
 intro ah s σ H x y v u Q I rx ry h;obtain⟨i,j,rfl,rfl,q⟩:=h;obtain⟨t,rfl⟩:=rx;obtain⟨t',rfl⟩:=ry;exact in_str (bV I q rfl)
theorem abd:kQ X (compareOp .Is) (λx y H Q=>y = .bz/\Q (.bl (decide (x = .bz))) H):=by
 intro ah s σ H x y v u Q I rx ry h;obtain⟨rfl,q⟩:=h;cases ry;refine is_none_gen (bV I q ?_)
 cases x<;>first
  | (cases rx;rfl)
  | (obtain⟨t,rfl⟩:=rx;rfl)
theorem SX:kQ X (compareOp .IsNot) (λx y H Q=>y = .bz/\Q (.bl (!decide (x = .bz))) H):=by
 intro ah s σ H x y v u Q I rx ry h;obtain⟨rfl,q⟩:=h;cases ry;refine isnot_none_gen (bV I q ?_)
 cases x<;>first
  | (cases rx;rfl)
  | (obtain⟨t,rfl⟩:=rx;rfl)
theorem tV (b:Expr)(h:autoParam (op ≠ .In) zp_1)(h2:autoParam (op ≠ .NotIn) zp_1):behindInMarks op b=false:=by
 have e1:(op == CmpOp.In)=false:=by cases op<;>first|rfl|exact absurd rfl h
 have e2:(op == CmpOp.NotIn)=false:=by cases op<;>first|rfl|exact absurd rfl h2
 cases b<;>simp[behindInMarks,e1,e2]
theorem SY (ho:kQ X (compareOp op) r)(ha:PE X a ta)(hb:PE X b tb)(hm:behindInMarks op b=false):PE X (.Compare a [op] [b] pos) (tOp r ta tb):=by
 intro ah s σ H Q I h;exact wpAny_Compare1 (aa4 ha hb I h λv u s2 x y H2 I2 rx ry q=>ho ah s2 σ H2 x y v u Q I2 rx ry q) hm
noncomputable def W5 (t:TE):TT:=λσ H Q=>t σ H λx H'=>∃k,x = .bl k/\Q k H'
theorem S8 (ho:kQ X (compareOp op) r)(ha:PE X a ta)(hb:PE X b tb)(hm:behindInMarks op b=false):PT X (.Compare a [op] [b] pos) (W5 (tOp r ta tb)):=by
 intro ah s σ H Q I h;refine wpAny_isTrue_Compare1 (cQ (ha ah s σ H _ I h) λv s1 ⟨x,H1,I1,r1,q1⟩=>cQ (hb ah s1 σ H1 _ I1 q1) λu s2 ⟨y,H2,I2,r2,q2⟩ =>
  cQ (ho ah s2 σ H2 x y v u _ I2 r1 r2 q2) λc s3 ⟨z,H3,I3,r3,k,e,q3⟩=>?_) hm
 subst e;cases r3;exact zaZ ⟨H3,I3,q3⟩
noncomputable def EE (r r':R2)(ta tb tc:TE):TE:=λσ H Q=>ta σ H λx H1=>tb σ H1 λy H2=>r x y H2 λz H3=>∃k,z = .bl k /\
 (if k=true then tc σ H3 λw' H4=>r' y w' H4 Q else Q (.bl false) H3)
theorem MS (ho:kQ X (compareOp op) r)(xj:kQ X (compareOp MT) r')(ha:PE X a ta)(hb:PE X b tb)(hc:PE X c tc)
  (hm:autoParam (lastMarks [op,MT] [b,c]=false) zp_5):PE X (.Compare a [op,MT] [b,c] pos) (EE r r' ta tb tc):=by
 intro ah s σ H Q I h;refine Compare_chain (cQ (ha ah s σ H _ I h) λv s1 ⟨x,H1,I1,r1,q1⟩=>chain_link (cQ (hb ah s1 σ H1 _ I1 q1) λu s2 ⟨y,H2,I2,r2,q2⟩ =>
  cQ (ho ah s2 σ H2 x y v u _ I2 r1 r2 q2) λd s3 ⟨z,H3,I3,r3,k,e,q3⟩=>?_)) hm
 subst e;cases r3;refine zaZ ?_
 cases k with
 |false=>exact ite_ff ⟨.bl false,H3,I3,rfl,q3⟩
 |true=>exact ite_tt (chain_last (cQ (hc ah s3 σ H3 _ I3 q3) λw' s4 ⟨z',H4,I4,r4,q4⟩=>xj ah s4 σ H4 y z' u w' Q I4 r2 r4 q4))
theorem MU (ho:kQ X (compareOp op) r)(xj:kQ X (compareOp MT) r')(ha:PE X a ta)(hb:PE X b tb)(hc:PE X c tc)
  (hm:autoParam (lastMarks [op,MT] [b,c]=false) zp_5):PT X (.Compare a [op,MT] [b,c] pos) (W5 (EE r r' ta tb tc)):=by
 intro ah s σ H Q I h;refine isTrue_chain (cQ (ha ah s σ H _ I h) λv s1 ⟨x,H1,I1,r1,q1⟩=>test_link (cQ (hb ah s1 σ H1 _ I1 q1) λu s2 ⟨y,H2,I2,r2,q2⟩ =>
  cQ (ho ah s2 σ H2 x y v u _ I2 r1 r2 q2) λd s3 ⟨z,H3,I3,r3,k,e,q3⟩=>?_)) hm
 subst e;cases r3;refine zaZ ?_
 cases k with
 |false =>
  obtain⟨k',e',q'⟩:=q3;cases e';exact ite_ff ⟨H3,I3,q'⟩
 |true =>
  refine ite_tt (test_last (cQ (hc ah s3 σ H3 _ I3 q3) λw' s4 ⟨z',H4,I4,r4,q4⟩=>cQ (xj ah s4 σ H4 y z' u w' _ I4 r2 r4 q4) λd' s5 ⟨z2,H5,I5,r5,k2,e2,q5⟩=>?_))
  subst e2;cases r5;exact zaZ ⟨H5,I5,q5⟩
theorem qM:(sizeLine:Nat)<2 ^ 63:=by rw[zdV];decide
theorem EF:kQ X (binaryOp .Add) (λx y H Q=>∃i j,x = .str i/\y = .str j/\i.length+j.length<=sizeLine/\Q (.str (i++j)) H):=by
 intro ah s σ H x y v u Q I rx ry h;obtain⟨i,j,rfl,rfl,hz,q⟩:=h;obtain⟨t,rfl⟩:=rx;obtain⟨t',rfl⟩:=ry;exact add_str (λt' tk=>⟨.str (i++j),H,I.oJ _,⟨_,rfl⟩,q⟩) hz
theorem tW (r:bO [x] us):∃u,us=[u]/\bI x u:=by
 cases r with
 |cons r1 r2=>cases r2;exact⟨_,rfl,r1⟩
theorem ahw (r:bO [x,y] us):∃u w',us=[u,w']/\bI x u/\bI y w':=by
 cases r with
 |cons r1 r2 =>
  cases r2 with
  |cons r3 r4=>cases r4;exact⟨_,_,rfl,r1,r3⟩
theorem J3 (hc:X.e_=true):jD X (.builtin "min") (λxs H Q=>∃i j,xs=[.int i,.int j]/\Q (.int (if j<i then j else i)) H):=by
 intro ah s σ H xs us Q I r h;obtain⟨i,j,rfl,q⟩:=h;obtain⟨u,w',rfl,⟨t,rfl⟩,⟨t',rfl⟩⟩:=ahw r
 refine min_two_ints (I.ok.hd hc) λh' tk k=>⟨_,H,I.iA k,?_,q⟩
 by_cases hj:j<i
 ·rw[if_pos hj,if_pos hj];exact⟨_,rfl⟩
 ·rw[if_neg hj,if_neg hj];exact⟨_,rfl⟩
structure EG (h:Heap) (x dx C:Addr) (mA:Str->Option Value):Prop where
 kU:h.get? x=some (PySem.W.instObj C dx)
 ns:h.Ns1 dx mA
 ne:dx≠x
theorem ki {h:Heap}{dx:Addr}{mA:Str->Option Value}(n:h.Ns1 dx mA):∃od,h.get? dx=some od/\∀name,PySem.W.lookIn name od=some (mA name):=by
 obtain⟨o,es,ep,ho,hd,hk,_,hm⟩:=n;refine⟨o,ho,λname=>?_⟩
 have e:=hm name;unfold nsFind findBy at e;rw[<-Array.find?_toList] at e;unfold PySem.W.lookIn;rw[hd];dsimp only;split
 ·rename_i y q
  rw[q] at e;exact congrArg some e
 ·rename_i q
  rw[q] at e;have a:es.toList.any (·.refKey)=false:=by
   rw[List.any_eq_false];intro y hy;obtain⟨z,t,MV⟩:=hk y (Array.mem_toList_iff.mp hy)
   simp[DictEntry.refKey,MV]
  have a':¬ es.toList.any (·.refKey)=true:=by rw[a];exact zal
  rw[if_neg a'];exact congrArg some e
theorem EG.abe (I:EG h x dx C mA):∃od,PySem.W.InstAt h x (PySem.W.instObj C dx) C (some od)/\∀name,PySem.W.lookIn name od=some (mA name):=
 let ⟨od,ho,hl⟩:=ki I.ns
 ⟨od,⟨I.kU,rfl,rfl,ho⟩,hl⟩
section
variable {prog:Program}{w:World}{A:Around}{E:Value->Shared->Prop}{s:Shared}{K:PySem.W.Frag}{x dx C f:Addr}{mA:Str->Option Value}{name:Str}{v:Value}
theorem S9 (X:K.In s.heap)(I:EG s.heap x dx C mA)(hg:PySem.W.plainGet K C name=true)(hh:PySem.W.hasDictIn K C=true)
  (ha:PySem.W.findIn K (.ref C) name=some none) (hv:mA name=some v) (hv':PySem.W.handedIn v=true) (h:Q v {s with toks:=s.toks+1}):
  wpAny (model prog w) A (getAttr (.ref x) name MW) Q E s:=by
 obtain⟨od,J,hl⟩:=I.abe;exact PySem.W.get_value X J (zdd hg).1 (PySem.W.findObj_own hh ha rfl (by rw[hl,hv])) hv' h
theorem MX (X:K.In s.heap)(I:EG s.heap x dx C mA)(hg:PySem.W.plainGet K C name=true)
  (hf:PySem.W.findIn K (.ref C) name=some (some (.ref f))) (ht:PySem.W.isFn K (.ref f)=true) (hv:mA name=none) (h:Q (.ref f,[.ref x]) s):
  wpAny (model prog w) A (getMethod (.ref x) name pl) Q E s:=by
 obtain⟨od,J,hl⟩:=I.abe;exact PySem.W.method_fn X J (zdd hg).1 (zdd hg).2 hf (beq_iff_eq.mp ht) (by show (PySem.W.lookIn name od).map (·.isSome)=some false;rw[hl,hv];rfl) h
theorem S_ (X:K.In s.heap)(I:EG s.heap x dx C mA)
  (hs:PySem.W.findIn K (.ref C) "__setattr__"=some (some (.builtin "object.__setattr__"))) (hp:PySem.W.plainOver K C=true) (ht:PySem.W.takerIn K C name=some none) (hh:PySem.W.hasDictIn K C=true)
  (hw:PySem.Within mA ns) (hsz:ns.length<=sizeLine)
  (h:∀h',EG h' x dx C (λy=>if y=name then some v else mA y)->Heap.SameBut dx s.heap h'->Q () {s with heap:=h',toks:=s.toks+2}):
  wpAny (model prog w) A (setAttr (.ref x) name v) Q E s:=by
 obtain⟨od,J,hl⟩:=I.abe;refine zeK X J hs (PySem.W.osa_open (s:={s with toks:=s.toks+1}) (r:=none) X J hp ht λb=>?_)
 obtain⟨cd,hc,Si⟩:=PySem.W.any_some hh;have hx:s.heap.get? x=some ⟨.ref C,some dx,.plain,#[]⟩:=I.kU
 refine zaa (zad (zaa (zaa (zdi hx (zaa (zbA (s:={s with toks:=s.toks+1}) (zcu X hc) ?_))))))
 rw[Si];refine zad (a:=some dx) (zaa (zad (zaa ?_)))
 refine wpAny_nsSet1 (s:={s with toks:=s.toks+1}) I.ns λh' Mq hs2=>?_
 obtain⟨oD,esD,epD,Mr,hdD,hcD⟩:=Mq.count (PySem.Within.cons name v hw)
 refine zaa (zdH Mr (by rw[hdD];exact zdI (zag hcD (by rw[zaF];omega))) ?_)
 exact zad (h _ ⟨(hs2.2 _ (zbg I.ne)).trans I.kU,Mq,I.ne⟩ hs2)
theorem MY (X:K.In s.heap)(hm:PySem.W.makesIn K C=true)
  (hi:PySem.W.findIn K (.ref C) "__init__"=some (some (.ref f))) (hf:PySem.W.typeIn K (.ref f)=some (.type "function"))
  (h:codeAny (model prog w) (A.under (.builtin "type.__call__" ⟨.ref C::vs,kw⟩)) (.call (.ref f) ⟨.ref (s.heap.objs.size+1)::vs,kw⟩) (PySem.W.InitBack (s.heap.objs.size+1) R)
   {s with heap:=(s.heap.push PySem.W.emptyDict).push (PySem.W.instObj C s.heap.objs.size)}):
  codeAny (model prog w) A (.call (.ref C) ⟨vs,kw⟩) R s:=by
 obtain⟨hh,g,d,t,os⟩:=s;exact PySem.W.make_core (PySem.W.makes_of X hm) (zbQ X hi) (λself=>PySem.W.bind_fn X self hf) (.inl rfl) h
end
noncomputable def gH (f:Str)(v:V):List (Str×V)->List (Str×V)
 |[]=>[(f,v)]
 | (g,x)::r=>if g=f then (g,v)::r else (g,x)::gH f v r
theorem mR (f g:Str)(v:V):∀fs:List (Str×V),(gH f v fs).lookup g=if g=f then some v else fs.lookup g
 |[]=>by
  show List.lookup g [(f,v)]=_
  by_cases h:g=f
  ·have hb:(g == f)=true:=beq_iff_eq.mpr h
   simp only[List.lookup,hb,if_pos h]
  ·have hb:(g == f)=false:=beq_eq_false_iff_ne.mpr h
   simp only[List.lookup,hb,if_neg h]
 | (k,x)::r=>by
  have ih:=mR f g v r;rw[show gH f v ((k,x)::r)=(if k=f then (k,v)::r else (k,x)::gH f v r) from rfl];by_cases hk:k=f
  ·rw[if_pos hk]
   by_cases h:g=k
   ·have hb:(g == k)=true:=beq_iff_eq.mpr h
    simp only[List.lookup,hb,if_pos (h.trans hk)]
   ·have hb:(g == k)=false:=beq_eq_false_iff_ne.mpr h
    simp only[List.lookup,hb,if_neg (λe:g=f=>h (e.trans hk.symm))]
  ·rw[if_neg hk]
   by_cases h:g=k
   ·have hb:(g == k)=true:=beq_iff_eq.mpr h
    simp only[List.lookup,hb,if_neg (λe:g=f=>hk (h.symm.trans e))]
   ·have hb:(g == k)=false:=beq_eq_false_iff_ne.mpr h
    simp only[List.lookup,hb];exact ih
theorem kj (f:Str)(v:V):∀fs:List (Str×V),f∈(gH f v fs).map (·.1)/\∀g,g∈fs.map (·.1)->g∈(gH f v fs).map (·.1)
 |[]=>⟨by simp[gH],λg h=>by simp at h⟩
 | (k,x)::r=>by
  obtain⟨i1,i2⟩:=kj f v r;rw[show gH f v ((k,x)::r)=(if k=f then (k,v)::r else (k,x)::gH f v r) from rfl];by_cases hk:k=f
  ·rw[if_pos hk]
   subst hk;exact⟨by simp,λg h=>by simpa using h⟩
  ·rw[if_neg hk]
   refine⟨?_,λg h=>?_⟩
   ·rw[zas]
    exact zaE _ i1
   ·rw[zas] at h ⊢
    rcases zam.mp h with e|e
    ·exact zam.mpr (.inl e)
    ·exact zaE _ (i2 g e)
theorem rL (f:Str)(v:V):∀fs:List (Str×V),(gH f v fs).length<=fs.length+1
 |[]=>by simp[gH]
 | (k,x)::r=>by
  have ih:=rL f v r;rw[show gH f v ((k,x)::r)=(if k=f then (k,v)::r else (k,x)::gH f v r) from rfl];by_cases hk:k=f
  ·rw[if_pos hk,zaF,zaF];omega
  ·rw[if_neg hk,zaF,zaF];omega
theorem iW.sU (r:iW (some v) o):∃u,o=some u/\bI v u:=by
 cases o with
 |none=>exact (show False from r).elim
 |some u=>exact⟨u,rfl,r⟩
theorem iW.Tc (r:iW none o):o=none:=by
 cases o with
 |none=>rfl
 |some u=>exact (show False from r).elim
theorem xO (r:bI v u):PySem.W.handedIn u=true:=by
 cases v with
 |bz=>cases (show u=Value.none from r);rfl
 |bl b=>cases (show u=Value.bool b from r);rfl
 |int i=>obtain⟨t,e⟩:=(show ∃t,u=Value.int i t from r);cases e;rfl
 |str x=>obtain⟨t,e⟩:=(show ∃t,u=Value.str x t from r);cases e;rfl
 |Mp b=>obtain⟨t,e⟩:=(show ∃t,u=Value.bytes b t from r);cases e;rfl
 |flt b=>obtain⟨t,e⟩:=(show ∃t,u=Value.float b t from r);cases e;rfl
 |ref a=>cases (show u=Value.ref a from r);rfl
 |ty n=>cases (show u=Value.type n from r);rfl
theorem zZ (cF:nH P w H h)(e:H a=some (.e9 C dx fs)):∃mA,EG h a dx C mA/\(∀f,iW (fs.lookup f) (mA f))/\PySem.Within mA (fs.map (·.1))/\fs.length<=1000/\H dx=some (.tM a):=by
 obtain⟨d,z,ne,ob,mA,n,r,q⟩:=(show cP P w H h a (.e9 C dx fs) from cF a _ e)
 exact⟨mA,⟨ob,n,ne⟩,r,q,z,d⟩
structure sj (K:PySem.W.Frag) (C:Addr):Prop where
 pg:PySem.W.plainGet K C Str.empty=true
 hd:PySem.W.hasDictIn K C=true
 po:PySem.W.plainOver K C=true
 sa:PySem.W.findIn K (.ref C) "__setattr__"=some (some (.builtin "object.__setattr__"))
theorem sj.get {K:PySem.W.Frag}{C:Addr}(c:sj K C)(f:Str):PySem.W.plainGet K C f=true:=c.pg
noncomputable def bW (K:PySem.W.Frag)(C:Addr)(f:Str):Prop:=PySem.W.findIn K (.ref C) f=some none
theorem bW.ahA {K:PySem.W.Frag}{C:Addr}{f:Str}(n:bW K C f):PySem.W.takerIn K C f=some none:=by
 unfold PySem.W.takerIn;rw[show PySem.W.findIn K (.ref C) f=some none from n];rfl
structure cL (K:PySem.W.Frag) (C:Addr) (m:Str) (f:Addr):Prop where
 sr:PySem.W.findIn K (.ref C) m=some (some (.ref f))
 fn:PySem.W.isFn K (.ref f)=true
 kp:PySem.W.keepIn K (.ref f)=true
theorem tX (I:aK X ah σ H s)(e:H a=some (.e9 C dx fs))(c:sj X.K C)(n:bW X.K C f)(l:fs.lookup f=some v)
  (h:∀u s',aK X ah σ H s'->bI v u->Q u s'):wpAny (model X.prog X.w) A (getAttr (.ref a) f b) Q E s:=by
 obtain⟨mA,O,r,_,_,_⟩:=zZ I.cF e;obtain⟨u,hu,ru⟩:=iW.sU (v:=v) (o:=mA f) (by rw[<-l];exact r f)
 exact S9 I.nI O (c.get f) c.hd n hu (xO ru) (h u _ (I.oJ _) ru)
theorem kX (I:aK X ah σ H s)(e:H a=some (.e9 C dx fs))(c:sj X.K C)(k:cL X.K C m g)(l:fs.lookup m=none)
  (h:Q (.ref g,[.ref a]) s):wpAny (model X.prog X.w) A (getMethod (.ref a) m pl) Q E s:=by
 obtain⟨mA,O,r,_,_,_⟩:=zZ I.cF e;have hn:mA m=none:=iW.Tc (by rw[<-l];exact r m)
 exact MX I.nI O (c.get m) k.sr k.fn hn h
theorem tY (I:aK X ah σ H s)(e:H a=some (.e9 C dx fs))(c:sj X.K C)(n:bW X.K C f)(hl:fs.length<1000)(ry:bI y u)
  (h:∀s',aK X ah σ (bG H a (.e9 C dx (gH f y fs))) s'->Q () s'):wpAny (model X.prog X.w) A (setAttr (.ref a) f u) Q E s:=by
 obtain⟨mA,O,r,wi,_,ho⟩:=zZ I.cF e;have hz:(fs.map (·.1)).length<=sizeLine:=by rw[zae,zdV];omega
 refine S_ I.nI O c.sa c.po n.ahA c.hd wi hz λh' O' sb=>h _ ?_
 have hd:∃o,h'.get? dx=some o:=let ⟨o,_,_,e',_⟩:=O'.ns;⟨o,e'⟩
 refine I.jB (x:=a) (e:=dx) (by rw[e];exact True.intro) (.inr ho) (λb q hb z=>(sb.2 b hb).trans z) hd ?_
 refine⟨by rw[au O.ne];exact ho,?_,O.ne,O'.kU,_,O'.ns,λg=>?_,λg hg=>?_⟩
 ·have:=rL f y fs;omega
 ·show iW ((gH f y fs).lookup g) (if g=f then some u else mA g)
  rw[mR];by_cases q:g=f
  ·rw[if_pos q,if_pos q];exact ry
  ·rw[if_neg q,if_neg q];exact r g
 ·by_cases q:g=f
  ·rw[q];exact (kj f y fs).1
  ·refine (kj f y fs).2 g (wi g λz=>hg ?_)
   show (if g=f then some u else mA g)=none
   rw[if_neg q];exact z
theorem aK.made (I:aK X ah σ H s):aK X ah σ (bG (bG H s.heap.objs.size (.tM (s.heap.objs.size+1))) (s.heap.objs.size+1) (.e9 C s.heap.objs.size []))
  {s with heap:=(s.heap.push PySem.W.emptyDict).push (PySem.W.instObj C s.heap.objs.size)}:=by
 have e1:(s.heap.push PySem.W.emptyDict).get? s.heap.objs.size=some PySem.W.emptyDict:=zap s.heap rfl
 have e2:((s.heap.push PySem.W.emptyDict).push (PySem.W.instObj C s.heap.objs.size)).get? (s.heap.objs.size+1)=some (PySem.W.instObj C s.heap.objs.size):=by
  have:=zap (s.heap.push PySem.W.emptyDict) (o:=PySem.W.instObj C s.heap.objs.size) rfl
  rwa[zdj] at this
 have e3:(s.heap.push PySem.W.emptyDict).Ns s.heap.objs.size (λ_=>none):=⟨PySem.W.emptyDict,#[],_,e1,rfl,(λe he=>absurd he (by simp)),λ_=>rfl⟩
 have I1:=I.j_ (a:=s.heap.objs.size) (o:=.tM (s.heap.objs.size+1)) (h':=s.heap.push PySem.W.emptyDict) (t':=s.toks) (λb u q=>zac _ q) (zah _) ⟨_,e1⟩
 refine I1.j_ (a:=s.heap.objs.size+1) (o:=.e9 C s.heap.objs.size []) (t':=s.toks) (λb u q=>zac _ q) (Nat.le_of_eq (zdj _ _)) ?_
 have ne:s.heap.objs.size≠s.heap.objs.size+1:=zar (zbo _)
 refine⟨by rw[au ne,av],zcL _,ne,e2,λ_=>none,(Heap.Ns1.of_empty e3).at λo q=>zac _ q,λ_=>True.intro,λy hy=>absurd rfl hy⟩
theorem Hz (hb:attributeBase e f env (eval e env)=eval e env)
  (h:wpAny (model prog w) A (eval e env) (λo cN=>wpAny (model prog w) A (getAttr o f true) Q E cN) E s):wpAny (model prog w) A (eval (.Attribute e f pos) env) Q E s:=
 Attribute_any_ h (by rw[arm_eval_Attribute,hb])
noncomputable def amW (K:PySem.W.Frag)(ta:TE)(f:Str):TE:=λσ H Q=>ta σ H λx H1=>∃a C dx fs v,x = .ref a/\H1 a=some (.e9 C dx fs)/\sj K C/\bW K C f/\fs.lookup f=some v/\Q v H1
noncomputable def amX (K:PySem.W.Frag)(ta tv:TE)(f:Str):TS:=λD σ H=>tv σ H λy H1=>ta σ H1 λx H2=>∃a C dx fs,x = .ref a/\H2 a=some (.e9 C dx fs)/\sj K C/\bW K C f/\fs.length<1000 /\
 D.nx σ (bG H2 a (.e9 C dx (gH f y fs)))
noncomputable def Td (X:Cx)(op:Operator)(rd:V->V->Hp->VK->Prop):Prop:=
 ∀(ah:List (Addr×Obj)) (s:Shared) (σ:St) (H:Hp) (x y:V) (u v:Value) (Q:VK),aK X ah σ H s->bI x u->bI y v->rd x y H Q->wpAny (model X.prog X.w) X.A (inplaceOp op u v) (EP X ah σ Q) X.xe s
noncomputable def Te (K:PySem.W.Frag)(ta tv:TE)(rd:V->V->Hp->VK->Prop)(f:Str):TS:=λD σ H=>ta σ H λx H1=>∃a C dx fs v,x = .ref a/\H1 a=some (.e9 C dx fs)/\sj K C/\bW K C f/\fs.lookup f=some v /\
 tv σ H1 λy H2=>rd v y H2 λz H3=>∃dx' Ms,H3 a=some (.e9 C dx' Ms)/\Ms.length<1000/\D.nx σ (bG H3 a (.e9 C dx' (gH f z Ms)))
theorem abf (he:PE X e ta)(hb:attributeBase e f X.env (eval e X.env)=eval e X.env):PE X (.Attribute e f pos) (amW X.K ta f):=by
 intro ah s σ H Q I h;refine Hz hb (cQ (he ah s σ H _ I h) λu s1 ⟨x,H1,I1,rx,a,C,dx,fs,v,ex,ea,c,n,l,q⟩=>?_)
 subst ex;obtain rfl:u=Value.ref a:=rx
 exact tX I1 ea c n l λu' s2 I2 ru=>⟨v,H1,I2,ru,q⟩
theorem abg (ha:PE X o ta)(hv:PE X value tv)(hs:swapsWith value (some (.Attribute o f kh)) pos.line X.env=pure false):PS X (.Assign [.Attribute o f kh] value pos) (amX X.K ta tv f):=by
 intro ah s σ H D I h;refine zca (cQ (hv ah s σ H _ I h) λu s1 ⟨y,H1,I1,ry,q⟩=>cQ (ha ah s1 σ H1 _ I1 q) λov s2 ⟨x,H2,I2,rx,a,C,dx,fs,ex,ea,c,n,l,q2⟩=>?_) hs
 subst ex;obtain rfl:ov=Value.ref a:=rx
 exact tY I2 ea c n l ry λs3 I3=>⟨σ,_,I3,q2⟩
theorem J4 (ha:PE X o ta)(hv:PE X value tv)(hop:Td X op rd):PS X (.AugAssign (.Attribute o f arx) op value pos) (Te X.K ta tv rd f):=by
 intro ah s σ H D I h;refine wpAny_AugAssign_AttributeAny (cQ (ha ah s σ H _ I h) λov s1 ⟨x,H1,I1,rx,a,C,dx,fs,v,ex,ea,c,n,l,q⟩=>?_)
 subst ex;obtain rfl:ov=Value.ref a:=rx
 refine tX I1 ea c n l λu s2 I2 ru=>cQ (hv ah s2 σ H1 _ I2 q) λw3 s3 ⟨y,H2,I3,ry,q3⟩=>cQ (hop ah s3 σ H2 v y u w3 _ I3 ru ry q3) λw4 s4 ⟨z,H3,I4,rz,dx',Ms,ea',l',q4⟩=>?_
 exact tY I4 ea' c n l' rz λs5 I5=>⟨σ,_,I5,q4⟩
noncomputable def amZ:V->V->Hp->VK->Prop:=λx y H Q=>∃i j,x = .int i/\y = .int j/\Q (.int (i+j)) H
theorem abh:Td X .Add amZ:=by
 rintro ah s σ H x y u v Q I rx ry ⟨i,j,rfl,rfl,q⟩
 obtain⟨t,rfl⟩:=(show ∃t,u=Value.int i t from rx)
 obtain⟨t',rfl⟩:=(show ∃t',v=Value.int j t' from ry)
 exact PyProof.Rows.iadd_int ⟨.int (i+j),H,I.oJ _,⟨_,rfl⟩,q⟩
section
variable {X:Cx}{ah:List (Addr×Obj)}{σ:St}{H:Hp}{s:Shared}{A:Around}{E:Value->Shared->Prop}{Q:Value->Shared->Prop}{c:Value}{b:Bool}
end
structure gJ (k:Nat) (A:Around):Prop where
 hd:A.handled=none
 dp:A.depth+3 * k+5<recursionLimit
 un:A.units+16 * k+200<cLine
theorem gJ.mono (r:gJ k A)(h:j<=k):gJ j A:=⟨r.hd,by have:=r.dp;omega,by have:=r.un;omega⟩
theorem gJ.deeper (r:gJ (k+1) A)(env:Env):gJ k (A.deeper env):=
 ⟨r.hd,by have:=r.dp;show A.depth+1+3 * k+5<_;omega,by have:=r.un;show A.units+3+16 * k+200<_;omega⟩
theorem EH {A:Around}{C:Addr}{us:List Value}{kw:List (Str×Value)}:(A.under (.builtin "type.__call__" ⟨.ref C::us,kw⟩)).depth=A.depth+1:=by
 first|rfl|simp[Around.under,Code.weight,Code.isCreation,Code.isGuard,Code.isCaller,Code.frames,Code.isFrame,ahB]
theorem EI {A:Around}{C:Addr}{us:List Value}{kw:List (Str×Value)}:(A.under (.builtin "type.__call__" ⟨.ref C::us,kw⟩)).units=A.units+1:=by
 first|rfl|simp[Around.under,Code.cUnits,Code.frames,Code.isFrame]
theorem gJ.MZ (r:gJ (k+1) A)(C:Addr)(us:List Value)(kw:List (Str×Value)):gJ k (A.under (.builtin "type.__call__" ⟨.ref C::us,kw⟩)):=
 ⟨r.hd,by have:=r.dp;rw[EH];omega,by have:=r.un;rw[EI];omega⟩
theorem gJ.depth (r:gJ k A):A.depth<recursionLimit:=by have:=r.dp;omega
noncomputable def ahC:TA:=λ_ H Q=>Q [] H
noncomputable def ahD (ta:TE)(tr:TA):TA:=λσ H Q=>ta σ H λx H1=>tr σ H1 λxs H2=>Q (x::xs) H2
theorem oX:PA X [] ahC:=λ_ _ _ _ H Q I h=>Calls.spliced_nil ⟨[],H,I,.nil,h⟩
theorem gn (ha:PE X e te)(hr:PA X es t)(hs:autoParam (starEach (e::es) X.env=(false,eval e X.env)::starEach es X.env) zp_0):PA X (e::es) (ahD te t):=by
 intro pos ah s σ H Q I h;rw[hs];show wpAny _ _ (spliced ((false,eval e X.env)::backTo pos (starEach es X.env))) _ _ s
 refine zdm (cQ (ha ah s σ H _ I h) λu s1 ⟨x,H1,I1,r1,q1⟩=>?_)
 exact cQ (hr pos ah s1 σ H1 _ I1 q1) λus s2 ⟨xs,H2,I2,r2,q2⟩=>⟨x::xs,H2,I2,.cons r1 r2,q2⟩
noncomputable def am0 (t:TA):TE:=λσ H Q=>t σ H λxs H1=>xs.length<=sizeLine/\∀p,H1 p=none->Q (.ref p) (bG H1 p (.gV xs))
noncomputable def am1 (t:TA):TE:=λσ H Q=>t σ H λxs H1=>xs.length<=sizeLine/\∀p,H1 p=none->Q (.ref p) (bG H1 p (.bS xs))
theorem M0 {x1}(h:PA X es t):PE X (.Tuple es x1 pos) (am0 t):=by
 intro ah s σ H Q I hq;refine wpAny_Tuple_spliced (cQ (h pos ah s σ H _ I hq) λus s1 ⟨xs,H1,I1,r,z,q⟩=>⟨by rw[<-r.length];exact z,?_⟩)
 have hf:H1 s1.heap.objs.size=none:=I1.cF.fresh (zah _)
 refine⟨.ref s1.heap.objs.size,bG H1 s1.heap.objs.size (.gV xs),I1.j_ (t':=s1.toks) (λb u e=>zac _ e) (zah _) ?_,rfl,q _ hf⟩
 exact⟨z,us,r,⟨_,zap _ rfl,rfl,_,rfl⟩⟩
theorem M3 (h:PA X es t):PE X (.List es pos) (am1 t):=by
 intro ah s σ H Q I hq;refine wpAny_List_spliced (cQ (h pos ah s σ H _ I hq) λus s1 ⟨xs,H1,I1,r,z,q⟩=>⟨by rw[<-r.length];exact z,?_⟩)
 have hf:H1 s1.heap.objs.size=none:=I1.cF.fresh (zah _)
 refine⟨.ref s1.heap.objs.size,bG H1 s1.heap.objs.size (.bS xs),I1.j_ (t':=s1.toks) (λb u e=>zac _ e) (zah _) ?_,rfl,q _ hf⟩
 exact⟨z,us,0,r,zap _ rfl⟩
noncomputable abbrev Sp:=List V->Hp->VK->XK->Prop
noncomputable abbrev BE:=List Env->Hp->Shared->XK->Value->Shared->Prop
structure EJ (P:Program) (w:World) (K:PySem.W.Frag) (mg:Str->Option Value) (base:Heap) (A:Around) (outer:List Env) (s:Shared) (H:Hp):Prop where
 frames:A.frames=some outer
 sR:Mod K mg base
 bs:∀b o,base.get? b=some o->s.heap.get? b=some o/\H b=none
 Sh:base.objs.size<=s.heap.objs.size
 kR:s.heap.FunFrames base outer
 MF:∀b∈sQ outer,H b=none
 cF:nH P w H s.heap
 iC:AllBare s.gens
noncomputable def CE (outer:List Env)(P:Program)(w:World)(H:Hp)(s:Shared)(Q:VK)(u:Value)(s':Shared):Prop:=
 ∃v H',s'.os=s.os/\AllBare s'.gens/\Un (sQ outer) [] H H' s.heap s'.heap/\nH P w H' s'.heap/\bI v u/\Q v H'
noncomputable def CR (CX:BE)(outer:List Env)(P:Program)(w:World)(H:Hp)(s:Shared)(Q:VK)(E:XK)(r:Result)(s':Shared):Prop:=
 match r with
 |.ok (.ret u)=>CE outer P w H s Q u s'
 |.ok _=>False
 |.error e=>CX outer H s E e s'
structure aO (P:Program) (w:World) (K:PySem.W.Frag) (mg:Str->Option Value) (base:Heap) (CX:BE) (k:Nat) (f:Addr) (fd:FuncData) (ps:List Str) (sp:Sp):Prop where
 len:∀vs H Q E,sp vs H Q E->vs.length=ps.length
 jE:∀(A:Around) (outer:List Env) (s:Shared) (H:Hp) (args:Args) (us:List Value) (vs:List V) (Q:VK) (E:XK),gJ k A->EJ P w K mg base A outer s H->BindsTo s fd args (ps.zip us)->bO vs us->sp vs H Q E ->
  codeAny (model P w) A (.call (.ref f) args) (CR CX outer P w H s Q E) s
theorem aO.imp {P:Program}{w:World}{K:PySem.W.Frag}{mg:Str->Option Value}{base:Heap}{CX:BE}{k:Nat}{f:Addr}{fd:FuncData}{ps:List Str}{sp sp':Sp}(F:aO P w K mg base CX k f fd ps sp)
  (h:∀vs H Q E,sp' vs H Q E->sp vs H Q E):aO P w K mg base CX k f fd ps sp':=
 ⟨λvs H Q E q=>F.len vs H Q E (h _ _ _ _ q),λA outer s H args us vs Q E hr he hb hv hs=>F.jE A outer s H args us vs Q E hr he hb hv (h _ _ _ _ hs)⟩
theorem EJ.MZ {P:Program}{w:World}{K:PySem.W.Frag}{mg:Str->Option Value}{base:Heap}{A:Around}{outer:List Env}{s:Shared}{H:Hp}(e:EJ P w K mg base A outer s H)(C:Addr)(us:List Value)(kw:List (Str×Value)):
  EJ P w K mg base (A.under (.builtin "type.__call__" ⟨.ref C::us,kw⟩)) outer s H:=⟨by first|exact e.frames | (simpa[Around.under,Code.envs,Code.isFrame,ahE] using e.frames),e.sR,e.bs,e.Sh,e.kR,e.MF,e.cF,e.iC⟩
theorem aK.xr (I:aK X ah σ H s):EJ X.prog X.w X.K X.mg X.base X.A X.cR s H:=
 ⟨I.ok.frames,I.ok.sR,I.bs,zag I.ok.Sh I.sz,I.cR,I.Hs,I.cF,I.iC⟩
theorem aK.after (I:aK X ah σ H s)(h:CE X.cR X.prog X.w H s Q u s'):EP X ah σ Q u s':=by
 obtain⟨v,H',os,iC,un,cF,r,q⟩:=h;obtain⟨hh,g,d,t,os'⟩:=s';obtain rfl:os'=s.os:=os
 exact⟨v,H',I.call (h':=hh) (g':=g) (d':=d) (t':=t) (ch:=[]) un cF iC (λb z=>absurd z (by simp)),r,q⟩
noncomputable def W6 (sp:Sp)(mS:List V)(E:XK)(t:TA):TE:=λσ H Q=>t σ H λvs H1=>sp (vs++mS) H1 Q E
noncomputable def BF (C:Addr)(m:Str)(sp:Sp)(mS:List V)(E:XK)(ta:TE)(t:TA):TE:=λσ H Q=>ta σ H λx H1=>∃a dx fs,x = .ref a/\H1 a=some (.e9 C dx fs)/\fs.lookup m=none /\
 t σ H1 λvs H2=>sp (x::(vs++mS)) H2 Q E
noncomputable def W7 (C:Addr)(sp:Sp)(mS:List V)(E:XK)(t:TA):TE:=λσ H Q=>t σ H λvs H1=>∀x dx,H1 x=none->H1 dx=none->dx≠x ->
 sp (.ref x::(vs++mS)) (bG (bG H1 dx (.tM x)) x (.e9 C dx [])) (λv H2=>v = .bz/\Q (.ref x) H2) E
noncomputable def dQ (K:PySem.W.Frag)(fd:FuncData)(ps:List Str)(ds:List Value):Prop:=
 ∀(s:Shared) (us:List Value),K.In s.heap->(us++ds).length=ps.length->BindsTo s fd ⟨us,[]⟩ (ps.zip (us++ds))
theorem dQ.all {K:PySem.W.Frag}{fd:FuncData}{ps:List Str}(h:∀us:List Value,us.length=ps.length->bindArgs fd ⟨us,[]⟩=pure (ps.zip us)):dQ K fd ps []:=λs us _ hl=>by
 rw[zau] at hl ⊢
 exact .of_eq (h us hl)
noncomputable def fH (CX:BE)(X:Cx)(E:XK):Prop:=∀(ah:List (Addr×Obj)) (σ:St) (H:Hp) (s:Shared) (e:Value) (s':Shared),aK X ah σ H s->CX X.cR H s E e s'->X.xe e s'
section
variable {X:Cx}{CX:BE}{k:Nat}{f C:Addr}{fd:FuncData}{ps:List Str}{sp:Sp}{mS:List V}{ds:List Value}{E:XK}{x m:Str}{p pos fE:Pos}{e o:Expr}{es:List Expr}{ta:TE}{t:TA}
theorem EK (F:aO X.prog X.w X.K X.mg X.base CX k f fd ps sp)(hr:gJ k X.A)(hb:dQ X.K fd ps ds)(hd:bO mS ds)(hx:fH CX X E)
  (I:aK X ah σ H s) (r:bO vs us) (h:sp (vs++mS) H Q E):wpAny (model X.prog X.w) X.A (call (.ref f) us) (EP X ah σ Q) X.xe s:=by
 have r2:bO (vs++mS) (us++ds):=r.mO hd
 have hl:(us++ds).length=ps.length:=by rw[<-r2.length];exact F.len _ _ _ _ h
 refine zcd (zcl (F.jE X.A X.cR s H ⟨us,[]⟩ (us++ds) (vs++mS) Q E hr I.xr (hb s us I.nI hl) r2 h) λr s' hq=>?_)
 cases r with
 |error e=>exact hx ah σ H s e s' I hq
 |ok fl =>
  cases fl with
  |ret u=>exact I.after hq
  |next=>exact False.elim hq
  |brk=>exact False.elim hq
  |cont=>exact False.elim hq
theorem Tf (F:aO X.prog X.w X.K X.mg X.base CX k f fd ps sp)(hr:gJ k X.A)(hg:Gl X x)(hm:X.mg x=some (.ref f))(hk:PySem.W.keepIn X.K (.ref f)=true)(hb:dQ X.K fd ps ds)(hd:bO mS ds)(hx:fH CX X E)
  (ha:PA X (e::es) t) (tZ:autoParam ((x == ("__debug__" : Str))=false) zp_1) (he:autoParam (starEach (e::es) X.env=(false,eval e X.env)::starEach es X.env) zp_0) (hpl:autoParam ((backTo pos (starEach es X.env)).any (·.1)=false) zp_0):
  PE X (.Call (.Name x p) (e::es) [] pos) (W6 sp mS E t):=by
 intro ah s σ H Q I h;refine zce (nJ I hg hm ?_ tZ)
 refine zcB (h₀:= X.base) I.ok.sR.W0 hk (cQ (ha pos ah s σ H _ I h) λus s1 ⟨vs,H1,I1,r,q⟩=>⟨I1.nI,?_⟩) he hpl
 exact EK F hr hb hd hx I1 r q
theorem HA (he:PE X o ta)(c:sj X.K C)(hm:cL X.K C m f)(F:aO X.prog X.w X.K X.mg X.base CX k f fd ps sp)(hr:gJ k X.A)(hb:dQ X.K fd ps ds)(hd:bO mS ds)(hx:fH CX X E)(ha:PA X (e::es) t)
  (oK:autoParam (starEach (e::es) X.env=(false,eval e X.env)::starEach es X.env) zp_0) (hpl:autoParam ((backTo pos (starEach es X.env)).any (·.1)=false) zp_0)
  (ht:autoParam (eval (.Call (.Attribute o m fE) (e::es) [] pos) X.env=(do
   let ov <-eval o X.env
   standAt fE.atName
   let (f,first) <-holding [ov] (getMethod ov m pl)
   callWith pos f first (backTo pos (starEach (e::es) X.env)) (backToKw pos (keywordEach [] X.env)))) zp_0):
  PE X (.Call (.Attribute o m fE) (e::es) [] pos) (BF C m sp mS E ta t):=by
 intro ah s σ H Q I h;refine zcQ (pl:=pl) (cQ (he ah s σ H _ I h) λu s1 ⟨x,H1,I1,rx,a,dx,fs,ex,ea,l,q⟩=>?_) ht
 subst ex;obtain rfl:u=Value.ref a:=rx
 refine kX I1 ea c hm l ?_
 refine zcB (first:=[.ref a]) (h₀:= X.base) I.ok.sR.W0 hm.kp (cQ (ha pos ah s1 σ H1 _ I1 q) λus s2 ⟨vs,H2,I2,r,q2⟩=>⟨I2.nI,?_⟩) oK hpl
 exact EK (us:=.ref a::us) (vs:=.ref a::vs) F hr hb hd hx I2 (.cons rfl r) q2
theorem M4 (he:PE X o ta)(c:sj X.K C)(hm:cL X.K C m f)(F:aO X.prog X.w X.K X.mg X.base CX k f fd ps sp)(hr:gJ k X.A)(hb:dQ X.K fd ps ds)(hd:bO mS ds)(hx:fH CX X E)
  (ht:autoParam (eval (.Call (.Attribute o m fE) [] [] pos) X.env=(do
   let ov <-eval o X.env
   standAt fE.atName
   let (f,first) <-holding [ov] (getMethod ov m pl)
   callWith pos f first (backTo pos (starEach [] X.env)) (backToKw pos (keywordEach [] X.env)))) zp_0):
  PE X (.Call (.Attribute o m fE) [] [] pos) (BF C m sp mS E ta ahC):=by
 intro ah s σ H Q I h;refine zcQ (pl:=pl) (cQ (he ah s σ H _ I h) λu s1 ⟨x,H1,I1,rx,a,dx,fs,ex,ea,l,q⟩=>?_) ht
 subst ex;obtain rfl:u=Value.ref a:=rx
 refine kX I1 ea c hm l ?_
 exact PySem.W.callWith_K0 (first:=[.ref a]) I1.nI hm.kp (EK (us:=[.ref a]) (vs:=[.ref a]) F hr hb hd hx I1 (.cons rfl .nil) q)
structure Mk (K:PySem.W.Frag) (C f:Addr):Prop where
 ahF:PySem.W.makesIn K C=true
 init:PySem.W.findIn K (.ref C) "__init__"=some (some (.ref f))
 fn:PySem.W.isFn K (.ref f)=true
 kp:PySem.W.keepIn K (.ref C)=true
theorem M5 (M:Mk X.K C f)(F:aO X.prog X.w X.K X.mg X.base CX k f fd ps sp)(hr:gJ (k+1) X.A)(hb:dQ X.K fd ps ds)(hd:bO mS ds)
  (hx:fH CX X E) (I:aK X ah σ H s) (r:bO vs us)
  (h:∀x dx,H x=none->H dx=none->dx≠x->sp (.ref x::(vs++mS)) (bG (bG H dx (.tM x)) x (.e9 C dx [])) (λv H2=>v = .bz/\Q (.ref x) H2) E):
  wpAny (model X.prog X.w) X.A (call (.ref C) us) (EP X ah σ Q) X.xe s:=by
 have hq:=h (s.heap.objs.size+1) s.heap.objs.size (I.cF.fresh (zbf _)) (I.cF.fresh (zah _)) (zar (zbo _))
 have I2:=aK.made (C:=C) I
 have r2:bO (V.ref (s.heap.objs.size+1)::(vs++mS)) (Value.ref (s.heap.objs.size+1)::(us++ds)):=.cons rfl (r.mO hd)
 have hl:(Value.ref (s.heap.objs.size+1)::us++ds).length=ps.length:=by
  have e:=r2.length;rw[F.len _ _ _ _ hq] at e;exact e.symm
 refine zcd (MY (f:=f) I.nI M.ahF M.init (beq_iff_eq.mp M.fn) (zcl (F.jE _ X.cR _ _ ⟨Value.ref (s.heap.objs.size+1)::us,[]⟩ (Value.ref (s.heap.objs.size+1)::(us++ds)) _ _ E (hr.MZ C us [])
  (I2.xr.MZ C us []) (hb _ (Value.ref (s.heap.objs.size+1)::us) I2.nI hl) r2 hq) λr s' M6=>?_))
 cases r with
 |error e=>exact hx ah σ _ _ e s' I2 M6
 |ok fl =>
  cases fl with
  |ret u =>
   obtain⟨v,H',I3,rv,ev,q3⟩:=I2.after M6;subst ev;exact⟨rv,⟨V.ref (s.heap.objs.size+1),H',I3,rfl,q3⟩⟩
  |next=>exact False.elim M6
  |brk=>exact False.elim M6
  |cont=>exact False.elim M6
theorem Tg (M:Mk X.K C f)(F:aO X.prog X.w X.K X.mg X.base CX k f fd ps sp)(hr:gJ (k+1) X.A)(hg:Gl X x)(hm:X.mg x=some (.ref C))(hb:dQ X.K fd ps ds)(hd:bO mS ds)(hx:fH CX X E)
  (ha:PA X (e::es) t) (tZ:autoParam ((x == ("__debug__" : Str))=false) zp_1) (he:autoParam (starEach (e::es) X.env=(false,eval e X.env)::starEach es X.env) zp_0) (hpl:autoParam ((backTo pos (starEach es X.env)).any (·.1)=false) zp_0):
  PE X (.Call (.Name x p) (e::es) [] pos) (W7 C sp mS E t):=by
 intro ah s σ H Q I h;refine zce (nJ I hg hm ?_ tZ)
 refine zcB (h₀:= X.base) I.ok.sR.W0 M.kp (cQ (ha pos ah s σ H _ I h) λus s1 ⟨vs,H1,I1,r,q⟩=>⟨I1.nI,?_⟩) he hpl
 exact M5 M F hr hb hd hx I1 r q
end
section
variable {X:Cx}{CX:BE}{k:Nat}{f C:Addr}{fd:FuncData}{ps ks:List Str}{sp:Sp}{E:XK}{x m:Str}{p pos fE arz:Pos}{e o:Expr}{es:List Expr}{kws:List Keyword}{te ta:TE}{t tk:TA}{nm:Option Str}
end
structure aq (N P:List Str) (sc:Scope):Prop where
 kind:sc.kind = .function
 co:sc.isCoroutine=false
 gen:sc.isGenerator=false
 nd:N.Nodup
 pre:N.take P.length=P
 par:∀x∈P,sc.names.lookup x=some .local\/sc.names.lookup x=some .cell
 abi:∀y∈sc.names,y.2 ≠ .free
theorem xP {kindOf:Str->Option NameKind}{x:Str}:∀{rO:List (Str×Value)} {m:Str->Option Value},(∀v,(x,v)∉rO)->bindL kindOf rO m x=m x
 |[],_,_=>rfl
 | (n,v)::r,m,h=>by
  unfold bindL;rw[xP λw hw=>h w (zaE _ hw)]
  split
  ·have:x≠n:=by rintro rfl;exact h v zbn
   simp[this]
  ·rfl
theorem xQ {kindOf:Str->Option NameKind}{x:Str}:∀{rO:List (Str×Value)} {m:Str->Option Value},(∀v,(x,v)∉rO)->bindC kindOf rO m x=m x
 |[],_,_=>rfl
 | (n,v)::r,m,h=>by
  unfold bindC;rw[xQ λw hw=>h w (zaE _ hw)]
  split
  ·rfl
  ·have:x≠n:=by rintro rfl;exact h v zbn
   simp[this]
theorem xR {kindOf:Str->Option NameKind}{x:Str}{v:Value}:∀{P:List Str} {vs:List Value} {i:Nat} {m:Str->Option Value},P.Nodup->P[i]? = some x->vs[i]? = some v->kindOf x=some .local ->
  bindL kindOf (P.zip vs) m x=some v
 |[],_,_,_,_,h,_,_=>by simp at h
 |_::_,[],_,_,_,_,h,_=>by simp at h
 |p::P,w::vs,0,m,nd,h1,h2,hk=>by
  simp at h1 h2;subst h1;subst h2
  show bindL kindOf ((p,w)::P.zip vs) m p=_
  unfold bindL;rw[xP λv hv=>(zbB.mp nd).1 (zdQ hv).1,if_pos hk]
  simp
 |p::P,w::vs,i+1,m,nd,h1,h2,hk=>by
  show bindL kindOf ((p,w)::P.zip vs) m x=_
  unfold bindL;exact xR (i:=i) (zbB.mp nd).2 (by simpa using h1) (by simpa using h2) hk
theorem xS {kindOf:Str->Option NameKind}{x:Str}{v:Value}:∀{P:List Str} {vs:List Value} {i:Nat} {m:Str->Option Value},P.Nodup->P[i]? = some x->vs[i]? = some v->kindOf x≠some .local ->
  bindC kindOf (P.zip vs) m x=some v
 |[],_,_,_,_,h,_,_=>by simp at h
 |_::_,[],_,_,_,_,h,_=>by simp at h
 |p::P,w::vs,0,m,nd,h1,h2,hk=>by
  simp at h1 h2;subst h1;subst h2
  show bindC kindOf ((p,w)::P.zip vs) m p=_
  unfold bindC;rw[xQ λv hv=>(zbB.mp nd).1 (zdQ hv).1,if_neg hk]
  simp
 |p::P,w::vs,i+1,m,nd,h1,h2,hk=>by
  show bindC kindOf ((p,w)::P.zip vs) m x=_
  unfold bindC;exact xS (i:=i) (zbB.mp nd).2 (by simpa using h1) (by simpa using h2) hk
noncomputable def dg (N:List Str)(vs:List V):St:=vs.map some++List.replicate (N.length - vs.length) none
noncomputable def iN (CX:BE)(P:Program)(w:World)(K:PySem.W.Frag)(mg:Str->Option Value)(base:Heap)(N:List Str)(bX:Str)(scope:Scope)(f:Addr)(cd:Value)(A:Around)(outer:List Env)(s:Shared)(H:Hp)(E:XK):Cx where
 prog:=P
 w:=w
 K:=K
 mg:=mg
 base:=base
 A:=A.deeper (envOfC bX scope s.heap.objs.size f cd)
 N:=N
 s₀:= s
 H₀:= H
 env:=envOfC bX scope s.heap.objs.size f cd
 outer:=outer
 cR:=envOfC bX scope s.heap.objs.size f cd::outer
 ex:=[]
 e_:=true
 fn:=λ_=>true
 pn:=[]
 xe:=λe s'=>wpAny (model P w) (A.deeper (envOfC bX scope s.heap.objs.size f cd)) (leaving (envOfC bX scope s.heap.objs.size f cd) e) (λ_ s''=>CX outer H s E e s'') (λe' s''=>CX outer H s E e' s'') s'
theorem BG {sc:Scope}{n:Nat}{x:Str}(h:sc.names.lookup x=some .cell):∃c,(cellsFrom n sc.names []).lookup x=some c:=by
 have q:=zdW sc.names n [] (.inl h)
 exact zbT.mp q
theorem J5 {CX:BE}{P:Program}{w:World}{K:PySem.W.Frag}{mg:Str->Option Value}{base:Heap}{N ps:List Str}{bX:Str}{scope:Scope}{f:Addr}{cd:Value}{A:Around}{outer:List Env}{s s1:Shared}{H:Hp}{E:XK}{us:List Value}{vs:List V}
  (S:aq N ps scope) (hd:A.handled=none) (e0:EJ P w K mg base A outer s H) (hl:vs.length=ps.length) (r:bO vs us)
  (x:InCallC s s.heap.objs.size (bindL (envOfC bX scope s.heap.objs.size f cd).kindOf (ps.zip us) λ_=>none) (cellsFrom (s.heap.objs.size+1) scope.names []) (bindC (envOfC bX scope s.heap.objs.size f cd).kindOf (ps.zip us) λ_=>none) s1):
  aK (iN CX P w K mg base N bX scope f cd A outer s H E) [] (dg N vs) H s1:=by
 have hpl:ps.length<=N.length:=by have:=congrArg List.length S.pre;rw[zbh] at this;omega
 obtain⟨h1,tk,rfl,hk⟩:=x.done;have noA:∀b:Addr,b∉(iN CX P w K mg base N bX scope f cd A outer s H E).ex:=λb z=>absurd (show b∈([]:List Addr) from z) (by simp)
 refine⟨⟨e0.sR,S.kind,rfl,rfl,zah _,λy z c h1 h2=>?_,λy hy=>?_,λy c _ h=>?_,λ_=>hd,Around.frames_deeper e0.frames,.inr ⟨rfl,rfl⟩,λb z=>absurd z (noA b),e0.bs,e0.Sh,λb _ _=>noA b,λb z=>absurd z (noA b),e0.kR,e0.MF⟩,
  rfl,e0.iC,Un.iA hk,⟨_,x.toInCall.ns,λi y v h1 h2 h3=>?_⟩,λy c h=>⟨_,x.cell y c h⟩,e0.cF.fresh (zah _),λy c h=>?_,λp hp=>absurd (show p∈([]:List (Addr×Obj)) from hp) (by simp),e0.cF.iA hk,?_⟩
 ·exact name_of_addr x.apart (zaY h1) (zaY h2)
 ·have hy:scope.names.lookup y=some .cell\/scope.names.lookup y=some .free:=hy
  rcases hy with hy|hy
  ·exact BG hy
  ·exact absurd rfl (S.abi _ (zaY hy))
 ·exact zew (x.above y c (zaY h))
 ·have hi:i<vs.length:=by
   unfold dg at h2;by_cases hi:i<vs.length
   ·exact hi
   ·rw[zaq (by simpa using hi)] at h2
    rw[zcI] at h2;split at h2<;>cases h2
  have ha:vs[i]? = some v:=by
   unfold dg at h2;rw[zai (by simpa using hi),zat] at h2
   cases e:vs[i]? with
   |none=>rw[e] at h2;cases h2
   |some a=>rw[e] at h2;cases h2;rfl
  obtain⟨u,hu,rv⟩:=r.get ha;have hp:ps[i]? = some y:=by
   rw[<-S.pre,zbC (by omega)];exact h1
  have ndP:ps.Nodup:=by rw[<-S.pre];exact S.nd.sublist (List.take_sublist _ _)
  refine⟨u,rv,?_⟩
  rcases S.par y (zax hp) with k|k
  ·exact .inl ⟨k,xR ndP hp hu k⟩
  ·obtain⟨c,e⟩:=BG (n:=s.heap.objs.size+1) k
   refine .inr ⟨.inl k,c,e,?_⟩
   have q:=x.cell y c e;rw[xS ndP hp hu (by show scope.names.lookup y≠_;rw[k];decide)] at q
   exact q
 ·exact e0.cF.fresh (zew (x.above y c (zaY h)))
 ·unfold dg
  show _=N.length
  rw[zaj,zae,List.length_replicate];omega
theorem M7 {CX:BE}{P:Program}{w:World}{K:PySem.W.Frag}{mg:Str->Option Value}{base:Heap}{k:Nat}{f:Addr}{name bX:Str}{params:Arguments}{body:List Stmt}{scope:Scope}{dV kV oY pm fB ct oc:Value}{an od:Option Addr}
  {Ei:Array (Option Value)} {N ps:List Str} {sp:Sp} (lk:K.lookup f=some ⟨oc,od,.func (PySem.W.fnOf name bX params body scope dV kV oY pm an fB ct),Ei⟩) (BA:PySem.W.codeIn K fB bX=true) (S:aq N ps scope)
  (len:∀vs H Q E,sp vs H Q E->vs.length=ps.length)
  (t6:∀(A:Around) (outer:List Env) (s:Shared) (H:Hp) (vs:List V) (Q:VK) (E:XK),gJ k (A.deeper (envOfC bX scope s.heap.objs.size f fB))->sp vs H Q E ->
   ∃t,xq (iN CX P w K mg base N bX scope f fB A outer s H E) body t/\t {nx:=λ_ H'=>Q .bz H',rt:=Q} (dg N vs) H):
  aO P w K mg base CX (k+1) f (PySem.W.fnOf name bX params body scope dV kV oY pm an fB ct) ps sp:=by
 refine⟨len,λA outer s H args us vs Q E hr e0 hb r Mu=>?_⟩
 have hl:=len _ _ _ _ Mu;have KX:K.In s.heap:=e0.sR.W0.keeps λb o e=>(e0.bs b o e).1
 have lim:s.heap.NoLimit:=e0.sR.nolimit.keeps λb o e=>(e0.bs b o e).1
 have HB:∀y∈ps.zip us,scope.names.lookup y.1=some .local\/(scope.names.lookup y.1=some .cell/\((cellsFrom (s.heap.objs.size+1) scope.names []).lookup y.1).isSome=true):=λ⟨n,v⟩ hy=>by
  rcases S.par n (zdQ hy).1 with q|q
  ·exact .inl q
  ·exact .inr ⟨q,zdW _ _ _ (.inl q)⟩
 refine codeAny_call_function hr.depth (KX _ _ lk) rfl S.co S.gen rfl (PySem.W.codeRec_of KX BA) (hb _ _ _ _ ?_)
 refine wpAny_newFunctionEnv_cells S.kind HB λenv he s1 x=>?_
 subst he;refine⟨lim.keeps x.toInCall.keep,codeAny_func ?_⟩
 obtain⟨t,ht,hq⟩:=t6 A outer s H vs Q E (hr.deeper _) Mu
 have I:aK (iN CX P w K mg base N bX scope f fB A outer s H E) [] (dg N vs) H s1:=J5 S hr.hd e0 hl r x
 refine zaA (ht [] s1 (dg N vs) H _ I hq) (λfl s' hs=>?_) λe s' hs=>hs
 have fu:∀{dX:St} {H':Hp} {v:V} {u:Value},aK (iN CX P w K mg base N bX scope f fB A outer s H E) [] dX H' s'->bI v u->Q v H'->CE outer P w H s Q u s':=
  λ{dX H' v u} J rv q=>⟨v,H',J.os,J.iC,J.base,J.cF,rv,q⟩
 cases fl with
 |ret u =>
  obtain⟨v,dX,H',J,rv,q⟩:=hs;exact fu J rv q
 |next =>
  obtain⟨dX,H',J,q⟩:=hs;exact fu (v:=V.bz) (u:=Value.none) J rfl q
 |brk =>
  obtain⟨_,_,_,q⟩:=hs;exact False.elim q
 |cont =>
  obtain⟨_,_,_,q⟩:=hs;exact False.elim q
section
variable {X:Cx}{x:Str}{p pos:Pos}{e:Expr}{es:List Expr}{t:TA}{id T:String}{r:List V->Hp->VK->Prop}
noncomputable def tCB (r:List V->Hp->VK->Prop)(t:TA):TE:=λσ H Q=>t σ H λvs H1=>r vs H1 Q
theorem pL (hc:jD X (.builtin id) r)(hg:Gl X x)(hm:X.mg x=none)(hv:bootBuiltins x=some (.builtin id))(ha:PA X (e::es) t)(hn:autoParam (x ≠ "__name__") zp_1)(tZ:autoParam ((x == ("__debug__" : Str))=false) zp_1)
  (he:autoParam (starEach (e::es) X.env=(false,eval e X.env)::starEach es X.env) zp_0) (hpl:autoParam ((backTo pos (starEach es X.env)).any (·.1)=false) zp_0):PE X (.Call (.Name x p) (e::es) [] pos) (tCB r t):=by
 intro ah s σ H Q I h;refine zce (tT I hg hm hv ?_ hn tZ)
 exact PyProof.Rows.callWith_builtin1 (cQ (ha pos ah s σ H _ I h) λus s1 ⟨vs,H1,I1,r1,q1⟩=>hc ah s1 σ H1 vs us Q I1 r1 q1) he hpl
theorem J6 (hc:jD X (.type T) r)(hg:Gl X x)(hm:X.mg x=none)(hv:bootBuiltins x=some (.type T))(ha:PA X (e::es) t)(hn:autoParam (x ≠ "__name__") zp_1)(tZ:autoParam ((x == ("__debug__" : Str))=false) zp_1)
  (he:autoParam (starEach (e::es) X.env=(false,eval e X.env)::starEach es X.env) zp_0) (hpl:autoParam ((backTo pos (starEach es X.env)).any (·.1)=false) zp_0):PE X (.Call (.Name x p) (e::es) [] pos) (tCB r t):=by
 intro ah s σ H Q I h;refine zce (tT I hg hm hv ?_ hn tZ)
 exact zcp (cQ (ha pos ah s σ H _ I h) λus s1 ⟨vs,H1,I1,r1,q1⟩=>hc ah s1 σ H1 vs us Q I1 r1 q1) he hpl
end
section
variable {κ:Type}[DecidableEq κ]
noncomputable def mq (aU:List (κ × V))(k:κ):Option V:=(aU.find? λkv=>decide (kv.1=k)).map (·.2)
noncomputable def kY (aU:List (κ × V))(k:κ)(v:V):List (κ × V):=
 if (aU.any λkv=>decide (kv.1=k))=true then aU.map (λkv=>if kv.1=k then (kv.1,v) else kv) else aU++[(k,v)]
theorem pM {p:κ × V}{r:List (κ × V)}{k:κ}(e:p.1=k):mq (p::r) k=some p.2:=by simp[mq,zcf,e]
theorem pN {p:κ × V}{r:List (κ × V)}{k:κ}(e:¬ p.1=k):mq (p::r) k=mq r k:=by simp[mq,zcf,e]
theorem BH (k:κ):∀aU:List (κ × V),(aU.any λkv=>decide (kv.1=k))=(mq aU k).isSome
 |[]=>rfl
 |p::r=>by
  rw[zcc];by_cases e:p.1=k
  ·simp only[pM e,decide_eq_true e,Bool.true_or,zez]
  ·rw[pN e,decide_eq_false e,Bool.false_or];exact BH k r
theorem mT (aU:List (κ × V))(k:κ)(v:V):(kY aU k v).length<=aU.length+1:=by
 unfold kY;split
 ·rw[zae];omega
 ·rw[zaj,zaF,zaI];omega
theorem iW.ko (r:iW o u):o.isSome=u.isSome:=by
 cases o with
 |none=>cases u with
  |none=>rfl
  |some _=>exact (show False from r).elim
 |some _=>cases u with
  |none=>exact (show False from r).elim
  |some _=>rfl
theorem iW.getD (r:iW o u)(rd:bI d d'):bI (o.getD d) (u.getD d'):=by
 cases o with
 |none=>cases u with
  |none=>exact rd
  |some _=>exact (show False from r).elim
 |some _=>cases u with
  |none=>exact (show False from r).elim
  |some _=>exact r
theorem KV.val {aU:List (κ × V)}{vs:List (κ × Value)}(r:KV aU vs)(k:κ):iW (mq aU k) (valueAt vs k):=by
 unfold KV at r;induction r with
 |nil=>exact True.intro
 | @cons p q ps qs h t ih =>
  obtain⟨h1,h2⟩:=h;by_cases e:p.1=k
  ·have e':q.1=k:=h1.symm.trans e
   have b:valueAt (q::qs) k=some q.2:=by simp[valueAt,zcf,e']
   rw[pM e,b];exact h2
  ·have e':¬ q.1=k:=λz=>e (h1.trans z)
   have b:valueAt (q::qs) k=valueAt qs k:=by simp[valueAt,zcf,e']
   rw[pN e,b];exact ih
theorem KV.any (r:KV aU vs)(k:κ):(aU.any λkv=>decide (kv.1=k))=vs.any λkv=>decide (kv.1=k):=by
 unfold KV at r;induction r with
 |nil=>rfl
 |cons h t ih=>rw[zcc,zcc,ih,h.1]
theorem KV.abj (r:KV aU vs)(k:κ)(ry:bI y u):
  KV (aU.map λkv=>if kv.1=k then (kv.1,y) else kv) (vs.map λkv=>if kv.1=k then (kv.1,u) else kv):=by
 unfold KV at r ⊢
 induction r with
 |nil=>exact .nil
 | @cons p q ps qs h t ih =>
  rw[zas,zas];refine .cons ?_ ih
  obtain⟨h1,h2⟩:=h;by_cases e:p.1=k
  ·rw[if_pos e,if_pos (h1.symm.trans e)];exact⟨h1,ry⟩
  ·rw[if_neg e,if_neg (λz=>e (h1.trans z))];exact⟨h1,h2⟩
theorem KV.EL (r:KV aU vs)(k:κ)(ry:bI y u):KV (kY aU k y) (stored vs k u):=by
 unfold kY stored;rw[r.any k];by_cases e:(vs.any λkv=>decide (kv.1=k))=true
 ·rw[if_pos e,if_pos e];exact r.abj k ry
 ·rw[if_neg e,if_neg e];exact Paired.snoc r ⟨rfl,ry⟩
theorem KV.qJ {aU:List (κ × V)}{vs:List (κ × Value)}(r:KV aU vs):aU.map (·.1)=vs.map (·.1):=by
 unfold KV at r;induction r with
 |nil=>rfl
 |cons h t ih=>rw[zas,zas,ih,h.1]
theorem KV.length (r:KV aU vs):aU.length=vs.length:=Paired.length r
end
theorem rP (r:bI (kV k) u):(b9 P w).is k u=true:=by
 cases k with
 |inl i=>obtain⟨t,e⟩:=(show ∃t,u=Value.int i t from r);subst e;exact Br P w i t
 |inr x=>obtain⟨t,e⟩:=(show ∃t,u=Value.str x t from r);subst e;exact Bt P w x t
theorem xT:∀{ks:List d_} {us:List Value},bO (ks.map kV) us->ItemsAre (b9 P w) ks us
 |[],_,r=>by rw[zbM] at r;cases r;exact .nil
 |k::ks,_,r=>by
  rw[zas] at r;cases r with
  |cons h t=>exact .cons (rP h) (xT t)
noncomputable abbrev KT (H:Hp):List (List d_×V)->List (List d_×Addr×Value)->Prop:=Paired λp q=>p.1=q.1/\H q.2.1=some (.gV (p.1.map kV))/\bI p.2 q.2.2
theorem KT.val (r:KT H aU xs)(k:List d_):iW (mq aU k) ((atKey xs k).map (·.2)):=by
 induction r with
 |nil=>exact True.intro
 | @cons p q ps qs h t ih =>
  obtain⟨h1,_,h2⟩:=h;by_cases e:p.1=k
  ·have e':q.1=k:=h1.symm.trans e
   have b:atKey (q::qs) k=some q.2:=by simp[atKey,zcf,e']
   rw[pM e,b];exact h2
  ·have e':¬ q.1=k:=λz=>e (h1.trans z)
   have b:atKey (q::qs) k=atKey qs k:=by simp[atKey,zcf,e']
   rw[pN e,b];exact ih
theorem KT.abj (r:KT H aU xs)(k:List d_)(ry:bI y u):
  KT H (aU.map λkv=>if kv.1=k then (kv.1,y) else kv) (xs.map (putAt k u)):=by
 induction r with
 |nil=>exact .nil
 | @cons p q ps qs h t ih =>
  rw[zas,zas];refine .cons ?_ ih
  obtain⟨h1,h2,h3⟩:=h;unfold putAt;by_cases e:p.1=k
  ·rw[if_pos e,if_pos (h1.symm.trans e)];exact⟨h1,h2,ry⟩
  ·rw[if_neg e,if_neg (λz=>e (h1.trans z))];exact⟨h1,h2,h3⟩
theorem KT.EL (r:KT H aU xs)(k:List d_)(hb:H b=some (.gV (k.map kV)))(ry:bI y u):
  KT H (kY aU k y) (storedH xs k b u):=by
 have e:(aU.any λkv=>decide (kv.1=k))=(atKey xs k).isSome:=by
  rw[BH,(r.val k).ko,zdA]
 unfold kY storedH;rw[e];by_cases q:(atKey xs k).isSome=true
 ·rw[if_pos q,if_pos q];exact r.abj k ry
 ·rw[if_neg q,if_neg q];exact Paired.snoc r ⟨rfl,hb,ry⟩
theorem KT.keeps (r:KT H aU xs)(ht:∀b ys,H b=some (.gV ys)->H' b=some (.gV ys)):KT H' aU xs:=
 Paired.aaG r λ_ _ z=>⟨z.1,ht _ _ z.2.1,z.2.2⟩
theorem W8 (ok:nH P w H h)(e:Rd H a u):cP P w H h a u:=e.ok ok
theorem rQ (ok:nH P w H h)(e:Rd H a (.dK aU)):aU.length<=sizeLine/\(a == sysModules)=false/\∃vs,KV aU vs/\h.DictOf (b9 P w) a vs:=
 show cP P w H h a (.dK aU) from W8 ok e
theorem W9 (ok:nH P w H h)(e:H a=some (.dK aU)):aU.length<=sizeLine/\(a == sysModules)=false/\∃vs,KV aU vs/\h.DictOf (b9 P w) a vs:=rQ ok (.inl e)
theorem qN (ok:nH P w H h)(e:H a=some (.gV (ks.map kV))):(tupleKind (b9 P w)).is h ks a:=by
 obtain⟨_,bw,r,o,h1,h2,n,h3⟩:=(show cP P w H h a (.gV (ks.map kV)) from ok a _ e)
 exact⟨o,bw.toArray,n,h1,h2,h3,by simpa using xT r⟩
theorem t7 (ok:nH P w H h)(e:Rd H a (.dT aU)):aU.length<=sizeLine/\(a == sysModules)=false /\
  ∃xs,KT H aU xs/\h.DictOfH (tupleKind (b9 P w)) a xs:=by
 obtain⟨z,y,xs,r,o,es,ep,h1,h2,h3,h4,h5⟩:=(show cP P w H h a (.dT aU) from W8 ok e)
 refine⟨z,y,xs,r,o,es,ep,h1,h2,h3,h4,λx hx=>?_,h5⟩
 have all:∀{l:List (List d_×V)} {m:List (List d_×Addr×Value)},KT H l m->∀x∈m,(tupleKind (b9 P w)).is h x.1 x.2.1:=by
  intro l m q;induction q with
  |nil=>intro x hx;exact nomatch hx
  | @cons p q ps qs hq t ih =>
   intro x hx;rcases zam.mp hx with e|hx
   ·subst e
    exact qN ok (by rw[<-hq.1];exact hq.2.1)
   ·exact ih x hx
 exact all r x hx
theorem ahI (ok:nH P w H h)(e:H a=some (.dT aU)):aU.length<=sizeLine/\(a == sysModules)=false /\
  ∃xs,KT H aU xs/\h.DictOfH (tupleKind (b9 P w)) a xs:=t7 ok (.inl e)
noncomputable def oZ (H:Hp)(a:Addr)(y:V)(r:Option V):Prop:=
 (∃aU k,Rd H a (.dK aU)/\y=kV k/\r=mq aU k)\/∃aU k b,Rd H a (.dT aU)/\y = .ref b/\H b=some (.gV (k.map kV))/\r=mq aU k
noncomputable def J7 (H:Hp)(a:Addr)(y v:V)(H':Hp):Prop:=
 (∃aU k,H a=some (.dK aU)/\y=kV k/\aU.length<sizeLine/\H'=bG H a (.dK (kY aU k v))) \/
 ∃aU k b,H a=some (.dT aU)/\y = .ref b/\H b=some (.gV (k.map kV))/\aU.length<sizeLine/\H'=bG H a (.dT (kY aU k v))
theorem oZ.k {H:Hp}{a:Addr}{aU:List (d_×V)}{k:d_}(e:H a=some (.dK aU)):oZ H a (kV k) (mq aU k):=.inl ⟨aU,k,.inl e,rfl,rfl⟩
theorem J7.k {H:Hp}{a:Addr}{aU:List (d_×V)}{k:d_}{v:V}(e:H a=some (.dK aU))(hl:aU.length<sizeLine):J7 H a (kV k) v (bG H a (.dK (kY aU k v))):=.inl ⟨aU,k,e,rfl,hl,rfl⟩
theorem aK.big (I:aK X ah σ H s):sysModules<s.heap.objs.size:=by
 have h:mainGlobals<s.heap.objs.size:=(I.sR.tP.keeps I.bk).lt
 exact zdJ (by decide) h
theorem J8 (hu:A.units+1<cLine)(I:aK X ah σ H s)(g:oZ H a y (some v))(ry:bI y u)(h:∀w' s',aK X ah σ H s'->bI v w'->Q w' s'):
  wpAny (model X.prog X.w) A (getItem (.ref a) u) Q E s:=by
 rcases g with⟨aU,k,e,ey,l⟩|⟨aU,k,b,e,ey,eb,l⟩
 ·subst ey
  obtain⟨z,hd,vs,jF,dd⟩:=rQ I.cF e;obtain⟨w',hw,EM⟩:=iW.sU (v:=v) (o:=valueAt vs k) (by rw[l];exact jF.val k)
  exact wpAny_getItem_of (rP ry) dd.mapOf hw (h w' _ (I.oJ _) EM)
 ·subst ey
  cases (show u=Value.ref b from ry)
  obtain⟨z,hd,xs,jF,dd⟩:=t7 I.cF e;obtain⟨w',hw,EM⟩:=iW.sU (v:=v) (o:=(atKey xs k).map (·.2)) (by rw[l];exact jF.val k)
  obtain⟨p,hp,hp2⟩:=zbK.mp hw;refine wpAny_getItem_heap (zcg hu) (qN I.cF eb) dd hp ?_
  rw[hp2];exact h w' _ (I.oJ _) EM
theorem am5 (hu:A.units+1<cLine)(I:aK X ah σ H s)(g:oZ H a y o)(ry:bI y u)(h:∀s',aK X ah σ H s'->Q (.bool o.isSome) s'):
  wpAny (model X.prog X.w) A (compareOp .In u (.ref a)) Q E s:=by
 rcases g with⟨aU,k,e,ey,l⟩|⟨aU,k,b,e,ey,eb,l⟩
 ·subst ey
  obtain⟨z,hd,vs,jF,dd⟩:=rQ I.cF e;refine wpAny_in_of (rP ry) hd dd.mapOf ?_
  rw[<-(jF.val k).ko,<-l];exact h _ (I.oJ _)
 ·subst ey
  cases (show u=Value.ref b from ry)
  obtain⟨z,hd,xs,jF,dd⟩:=t7 I.cF e;refine wpAny_in_heap (zcg hu) (qN I.cF eb) hd dd ?_
  have q:=(jF.val k).ko
  rw[zdA] at q;rw[<-q,<-l];exact h _ (I.oJ _)
theorem Th (hu:A.units+1<cLine)(I:aK X ah σ H s)(g:oZ H a y o)(ry:bI y u)(h:∀s',aK X ah σ H s'->Q (.bool (!o.isSome)) s'):
  wpAny (model X.prog X.w) A (compareOp .NotIn u (.ref a)) Q E s:=by
 rcases g with⟨aU,k,e,ey,l⟩|⟨aU,k,b,e,ey,eb,l⟩
 ·subst ey
  obtain⟨z,hd,vs,jF,dd⟩:=rQ I.cF e;refine wpAny_notIn_of (rP ry) hd dd.mapOf ?_
  rw[<-(jF.val k).ko,<-l];exact h _ (I.oJ _)
 ·subst ey
  cases (show u=Value.ref b from ry)
  obtain⟨z,hd,xs,jF,dd⟩:=t7 I.cF e;refine wpAny_notIn_heap (zcg hu) (qN I.cF eb) hd dd ?_
  have q:=(jF.val k).ko
  rw[zdA] at q;rw[<-q,<-l];exact h _ (I.oJ _)
theorem z6 (I:aK X ah σ H s)(mu:Mut (H a))(hs:Heap.SameBut a s.heap h')(he:∃q,h'.get? a=some q)(new:cP X.prog X.w (bG H a ob) h' a ob):
  aK X ah σ (bG H a ob) {s with heap:=h',toks:=t' }:=
 I.jB (x:=a) (e:=a) mu (.inl rfl) (λb q hb z=>(hs.2 b hb).trans z) he new
theorem M8 (z:aU.length<=sizeLine)(hd:(a == sysModules)=false)(jF:KV aU vs)(dd:h'.DictOf (b9 P w) a vs):
  cP P w H' h' a (.dK aU):=⟨z,hd,vs,jF,dd⟩
theorem J9 (hu:A.units+1<cLine)(I:aK X ah σ H s)(g:J7 H a y v H')(ry:bI y u)(rv:bI v r)(h:∀s',aK X ah σ H' s'->Q () s'):
  wpAny (model X.prog X.w) A (setItem (.ref a) u r) Q E s:=by
 rcases g with⟨aU,k,e,ey,l,eH⟩|⟨aU,k,b,e,ey,eb,l,eH⟩
 ·subst ey eH
  obtain⟨z,hd,vs,jF,dd⟩:=W9 I.cF e;have hz:vs.length<=sizeLine:=by rw[<-jF.length];exact z
  have hl:(kY aU k v).length<=sizeLine:=by have:=mT aU k v;omega
  refine wpAny_setItem_pairs (hsz:=hz) (rP ry) dd λh' xU hs=>h _ ?_
  have he:∃q,h'.get? a=some q:=let ⟨q,_,_,hq,_⟩:=xU;⟨q,hq⟩
  exact z6 I (by rw[e];exact True.intro) hs he (M8 hl hd (jF.EL k rv) xU)
 ·subst ey eH
  cases (show u=Value.ref b from ry)
  obtain⟨z,hd,xs,jF,dd⟩:=ahI I.cF e;have hz:xs.length<=sizeLine:=by rw[<-Paired.length jF];exact z
  have hl:(kY aU k v).length<=sizeLine:=by have:=mT aU k v;omega
  refine wpAny_setItem_heap (hsz:=hz) (zcg hu) (qN I.cF eb) dd λh' xU hs=>h _ ?_
  obtain⟨q,es,ep,hq,h2,h3,h4,_,h5⟩:=xU;refine z6 I (by rw[e];exact True.intro) hs ⟨q,hq⟩ ⟨hl,hd,_,(jF.EL k eb rv).keeps λc ys ec=>?_,q,es,ep,hq,h2,h3,h4,h5⟩
  rw[au (agZ ec e (λz=>nomatch z))]
  exact ec
theorem ahJ (I:aK X ah σ H s)(e:Rd H a (.dK aU))(h:∀t s',aK X ah σ H s'->Q (.int aU.length t) s'):wpAny (model X.prog X.w) A (call (.builtin "len") [.ref a]) Q E s:=by
 obtain⟨z,hd,vs,jF,dd⟩:=rQ I.cF e;refine call_len_dict hd dd (by rw[<-jF.length];rw[zdV] at z;omega) ?_
 rw[<-jF.length];exact h _ _ (I.oJ _)
noncomputable def abk (i:Expr):Prop:=∀ov iv,subscripted i false ov iv=operate [ov,iv] (getItem ov iv)
theorem Ti {prog:Program}{w:World}{A:Around}{E:Value->Shared->Prop}{s:Shared}{env:Env}{value slice:Expr}{pos:Pos}{T id:String}{Q:Value->Shared->Prop}
  (hl:typeLookup (.type T) "__getitem__"=pure (some (.builtin id))) (hs:abk slice)
  (h:wpAny (model prog w) A (eval value env) (λo cN=>wpAny (model prog w) A (eval slice env) (λi mQ=>mQ.TypeIs o T/\wpAny (model prog w) A (getItem o i) Q E mQ) E cN) E s):
  wpAny (model prog w) A (eval (.Subscript value slice pos) env) Q E s:=by
 refine Subscript_ (zaA h (λo cN Tj=>zaA Tj (λi mQ M9=>?_) λ_ _ x=>x) λ_ _ x=>x)
 obtain⟨hT,M9⟩:=M9;unfold subscriptTail;refine zaa ?_
 rw[getitemInPython_of_ne hT.not_modules];refine zaa (wpAny_specialOf hT hl ?_)
 have fu:wpAny (model prog w) A (subscripted slice false o i) (λr xu=>wpAny (model prog w) A (letTemporaryGo value o r >>= λ_=>pure r) Q E xu) E mQ:=by
  rw[hs o i];exact wpAny_operating (zaA M9 (λr xu Tn=>zaa (wpAny_letTemporaryGo (zad Tn))) λ_ _ x=>x)
 first
  |exact zad (zaa fu)
  |exact zaa (zad (zaa fu))
  |exact zaa fu
theorem BI (I:aK X ah σ H s)(g:oZ H a y o):s.TypeIs (.ref a) "dict" := by
 rcases g with⟨aU,k,e,_,_⟩|⟨aU,k,b,e,_,_,_⟩
 ·obtain⟨_,_,vs,_,dd⟩:=rQ I.cF e
  exact dd.typeIs
 ·obtain⟨_,_,xs,_,dd⟩:=t7 I.cF e
  exact dd.typeIs
noncomputable def ahK (td ty:TE):TE:=λσ H Q=>td σ H λx H1=>ty σ H1 λy H2=>∃a v,x = .ref a/\oZ H2 a y (some v)/\Q v H2
noncomputable def ahL (ty td:TE):TE:=λσ H Q=>ty σ H λy H1=>td σ H1 λx H2=>∃a o,x = .ref a/\oZ H2 a y o/\Q (.bl o.isSome) H2
noncomputable def HC (ty td:TE):TE:=λσ H Q=>ty σ H λy H1=>td σ H1 λx H2=>∃a o,x = .ref a/\oZ H2 a y o/\Q (.bl (!o.isSome)) H2
noncomputable def ahM (td ty tv:TE):TS:=λD σ H=>tv σ H λv H1=>td σ H1 λx H2=>ty σ H2 λy H3=>∃a H4,x = .ref a/\J7 H3 a y v H4/\D.nx σ H4
theorem To (hu:X.A.units+1<cLine)(ho:PE X o td)(hi:PE X i ty)(hs:abk i):PE X (.Subscript o i pos) (ahK td ty):=by
 intro ah s σ H Q I h;refine Ti PySem.F.slot_dict_getitem.lookup hs (cQ (ho ah s σ H _ I h) λu s1 ⟨x,H1,I1,rx,q1⟩=>cQ (hi ah s1 σ H1 _ I1 q1) λiv s2 ⟨y,H2,I2,ry,a,v,ex,g,q2⟩=>?_)
 subst ex;obtain rfl:u=Value.ref a:=rx
 exact⟨BI I2 g,J8 hu I2 g ry λw' s3 I3 EM=>⟨v,H2,I3,EM,q2⟩⟩
theorem abl (hu:X.A.units+1<cLine)(hi:PE X i ty)(ho:PE X o td):PC X .In i o (ahL ty td):=by
 intro ah s σ H Q I h;refine cQ (hi ah s σ H _ I h) λiv s1 ⟨y,H1,I1,ry,q1⟩=>cQ (ho ah s1 σ H1 _ I1 q1) λu s2 ⟨x,H2,I2,rx,a,ov,ex,g,q2⟩=>?_
 subst ex;obtain rfl:u=Value.ref a:=rx
 exact am5 hu I2 g ry λs3 I3=>⟨.bl ov.isSome,H2,I3,rfl,q2⟩
theorem J_ (hu:X.A.units+1<cLine)(hi:PE X i ty)(ho:PE X o td):PC X .NotIn i o (HC ty td):=by
 intro ah s σ H Q I h;refine cQ (hi ah s σ H _ I h) λiv s1 ⟨y,H1,I1,ry,q1⟩=>cQ (ho ah s1 σ H1 _ I1 q1) λu s2 ⟨x,H2,I2,rx,a,ov,ex,g,q2⟩=>?_
 subst ex;obtain rfl:u=Value.ref a:=rx
 exact Th hu I2 g ry λs3 I3=>⟨.bl (!ov.isSome),H2,I3,rfl,q2⟩
theorem Tp (hu:X.A.units+1<cLine)(ho:PE X o td)(hi:PE X i ty)(hv:PE X value tv)(hs:swapsWith value (some (.Subscript o i kh)) pos.line X.env=pure false):
  PS X (.Assign [.Subscript o i kh] value pos) (ahM td ty tv):=by
 intro ah s σ H D I h;refine wpAny_Assign_Subscript (cQ (hv ah s σ H _ I h) λr s1 ⟨v,H1,I1,rv,q1⟩=>cQ (ho ah s1 σ H1 _ I1 q1) λu s2 ⟨x,H2,I2,rx,q2⟩=>cQ (hi ah s2 σ H2 _ I2 q2) λiv s3 ⟨y,H3,I3,ry,a,H4,ex,g,q3⟩=>?_) hs
 subst ex;obtain rfl:u=Value.ref a:=rx
 exact J9 hu I3 g ry rv λs4 I4=>⟨σ,H4,I4,q3⟩
theorem BJ (h:Heap)(hb:sysModules<h.objs.size):cP P w H (h.push { cls:=.type "dict",data:=.dict #[]}) h.objs.size (.dK []):=
 ⟨zcL _,beq_eq_false_iff_ne.mpr (zbg (zar hb)),[],.nil,Heap.DictOf.new h⟩
noncomputable def abm:TE:=λ_ H Q=>∀p,H p=none->Q (.ref p) (bG H p (.dK []))
theorem M_:PE X (.Dict [] [] pos) abm:=λah s σ H Q I h =>
 wpAny_Dict_empty ⟨.ref s.heap.objs.size,_,I.j_ (a:=s.heap.objs.size) (o:=.dK []) (t':=s.toks) (λ_ _ q=>zac _ q) (zah _) (BJ s.heap I.big),rfl,h _ (I.cF.fresh (zah _))⟩
noncomputable def z7:List (TE×TE)->St->Hp->(List (V×V)->Hp->Prop)->Prop
 |[],_,H,Q=>Q [] H
 | (tk,tv)::r,σ,H,Q=>tk σ H λx H1=>tv σ H1 λy H2=>z7 r σ H2 λps H3=>Q ((x,y)::ps) H3
noncomputable abbrev VV:List (V×V)->List (Value×Value)->Prop:=Paired λp q=>bI p.1 q.1/\bI p.2 q.2
noncomputable def PPs (X:Cx)(pos:Pos)(qJ:List (Option Expr))(qO:List Expr)(W_:List (TE×TE)):Prop:=
 ∀(ah:List (Addr×Obj)) (s:Shared) (σ:St) (H:Hp) (Q:List (V×V)->Hp->Prop),aK X ah σ H s->z7 W_ σ H Q ->
  wpAny (model X.prog X.w) X.A (evalPairs (pairTrees qJ qO X.env pos)) (λvs s'=>∃ps H',aK X ah σ H' s'/\VV ps vs/\Q ps H') X.xe s
theorem Tq:PPs X pos [] [] []:=λah s σ H Q I h=>pairTrees_nil_walk ⟨[],H,I,.nil,h⟩
theorem Na (hk:PE X k tk)(hv:PE X v tv)(hr:PPs X pos ks vs W_):
  PPs X pos (some k::ks) (v::vs) ((tk,tv)::W_):=λah s σ H Q I h =>
 pairTrees_cons_walk (cQ (hk ah s σ H _ I h) λu s1 ⟨x,H1,I1,rx,q1⟩=>cQ (hv ah s1 σ H1 _ I1 q1) λw2 s2 ⟨y,H2,I2,ry,q2⟩ =>
  cQ (hr ah s2 σ H2 _ I2 q2) λws s3 ⟨ps,H3,I3,jF,q3⟩=>⟨(x,y)::ps,H3,I3,.cons ⟨rx,ry⟩ jF,q3⟩)
noncomputable def gB (aU jT:List (d_×V)):List (d_×V):=jT.foldl (λbY kv=>kY bY kv.1 kv.2) aU
theorem KV.BK:∀{jT:List (d_×V)} {rs:List (d_×Value)} {aU:List (d_×V)} {vs:List (d_×Value)},KV jT rs->KV aU vs->KV (gB aU jT) (merged vs rs):=by
 intro jT rs aU vs r;unfold KV at r;induction r generalizing aU vs with
 |nil=>intro q;exact q
 | @cons p q ps qs h t ih =>
  intro r0;have e:KV (kY aU p.1 p.2) (stored vs q.1 q.2):=by
   have:=r0.EL p.1 h.2
   rw[<-h.1];exact this
  exact ih e
theorem oM:∀(jT aU:List (d_×V)),(gB aU jT).length<=aU.length+jT.length
 |[],aU=>by show aU.length<=aU.length+0;omega
 |p::r,aU=>by
  have h1:=oM r (kY aU p.1 p.2)
  have h2:=mT aU p.1 p.2;show (gB (kY aU p.1 p.2) r).length<=_
  rw[zaF];omega
theorem t8:∀{aU:List (d_×V)} {ws:List (Value×Value)},VV (aU.map λkv=>(kV kv.1,kv.2)) ws->∃rs,Carries (b9 P w) ws rs/\KV aU rs
 |[],_,r=>by rw[zbM] at r;cases r;exact⟨[],True.intro,.nil⟩
 |p::aU,_,r=>by
  rw[zas] at r;cases r with
  | @cons a b as bs h t =>
   obtain⟨rs,c,q⟩:=t8 (P:=P) (w:=w) t
   obtain⟨b1,b2⟩:=b;exact⟨(p.1,b2)::rs,⟨rP h.1,rfl,c⟩,.cons ⟨rfl,h.2⟩ q⟩
noncomputable def ahN (W_:List (TE×TE)):TE:=λσ H Q=>∀p,H p=none->z7 W_ σ (bG H p (.dK [])) λps H2=>H2 p=some (.dK [])/\∃aU:List (d_×V),ps=aU.map (λkv=>(kV kv.1,kv.2))/\aU.length<=15/\Q (.ref p) (bG H2 p (.dK (gB [] aU)))
theorem Tt {X:Cx}{pos:Pos}{qJ:List (Option Expr)}{qO:List Expr}{W_:List (TE×TE)}(h:PPs X pos qJ qO W_)(Nb:qJ.all (·.isSome)=true)(hl:qJ.length=qO.length)(h0:qJ≠[])
  (h15:qJ.length<=15):PE X (.Dict qJ qO pos) (ahN W_):=by
 intro ah s σ H Q I q;have hn:=I.cF.fresh (zah s.heap.objs.size)
 have I1:=I.j_ (a:=s.heap.objs.size) (o:=.dK []) (h':=s.heap.push { cls:=.type "dict",data:=.dict #[]}) (t':=s.toks) (λ_ _ q=>zac _ q) (zah _) (BJ s.heap I.big)
 refine wpAny_Dict_walk (knd:=b9 X.prog X.w) Nb hl h0 h15 (cQ (h ah _ σ _ _ I1 (q _ hn)) λws s2 ⟨ps,H2,I2,jF,e,aU,ep,lk,q2⟩=>?_)
 subst ep;obtain⟨rs,c,rk⟩:=t8 (P:=X.prog) (w:=X.w) jF
 obtain⟨z,hd,vs0,r0,dd⟩:=W9 I2.cF e;cases r0;refine⟨rs,c,dd,λh' xU hs=>⟨.ref s.heap.objs.size,_,?_,rfl,q2⟩⟩
 have hz:(gB [] aU).length<=sizeLine:=by
  have h1:=oM aU []
  rw[zaI] at h1;rw[zdV];omega
 have he:∃q,h'.get? s.heap.objs.size=some q:=let ⟨q,_,_,hq,_⟩:=xU;⟨q,hq⟩
 exact z6 I2 (by rw[e];exact True.intro) hs he (M8 hz hd (rk.BK .nil) xU)
structure M2 (X:Cx) (o:Expr) (m:Str) (fE:Pos) (e f:Expr) (iE:Pos):Prop where
 base:attributeBase o m X.env (eval o X.env)=eval o X.env
 few:((backTo iE (starEach [e,f] X.env)).all (λx=>!x.1) && (backToKw iE (keywordEach [] X.env)).all (λx=>x.1.isSome)
  && decide (([e,f]:List Expr).length+([]:List Keyword).length+(if ([]:List Keyword).isEmpty then 0 else 1)<30))=true
 line:(fE.endLine == iE.line)=true
 ahP:backTo iE (starEach [e,f] X.env)=[(false,eval e X.env),(false,eval f X.env)]
noncomputable def IsD (H:Hp)(a:Addr):Prop:=(∃aU,Rd H a (.dK aU))\/∃aU,Rd H a (.dT aU)
theorem abn (I:aK X ah σ H s)(d:IsD H a):
  s.TypeIs (.ref a) "dict" /\ (∀b,Value.ref a = .ref b->∃ob,s.heap.get? b=some ob/\ob.dict=none)/\(a == sysModules)=false:=by
 rcases d with⟨aU,e⟩|⟨aU,e⟩
 ·obtain⟨_,hd,vs,_,dd⟩:=rQ I.cF e
  refine⟨dd.typeIs,λb q=>?_,hd⟩
  cases q;obtain⟨ob,_,_,h1,h2,_⟩:=dd;exact⟨ob,h1,h2.2.1⟩
 ·obtain⟨_,hd,xs,_,dd⟩:=t7 I.cF e
  refine⟨dd.typeIs,λb q=>?_,hd⟩
  cases q;obtain⟨ob,_,_,h1,h2,_⟩:=dd;exact⟨ob,h1,h2.2.1⟩
theorem abo (hu:A.units+1<cLine)(I:aK X ah σ H s)(g:oZ H a y o)(ry:bI y u)(rd:bI d r)(h:∀w' s',aK X ah σ H s'->bI (o.getD d) w'->Q w' s'):
  wpAny (model X.prog X.w) A (call (.builtin "dict.get") [.ref a,u,r]) Q E s:=by
 rcases g with⟨aU,k,e,ey,l⟩|⟨aU,k,b,e,ey,eb,l⟩
 ·subst ey
  obtain⟨z,hd,vs,jF,dd⟩:=rQ I.cF e;refine call_meetsIn zcR dd.typeIs zdX (zdN _ _ _) (meets_dict_get_default (b9 X.prog X.w) a (rP ry) hd r) ⟨_,dd.mapOf,h _ _ (I.oJ _) ?_⟩
  rw[l];exact (jF.val k).getD rd
 ·subst ey
  cases (show u=Value.ref b from ry)
  obtain⟨z,hd,xs,jF,dd⟩:=t7 I.cF e;refine call_meetsIn zcR dd.typeIs zdX (zdN _ _ _) (meetsH_dict_get_default (tupleKind (b9 X.prog X.w)) a b hd r) ⟨zcg hu,k,xs,qN I.cF eb,dd,h _ _ (I.oJ _) ?_⟩
  rw[l];exact (jF.val k).getD rd
noncomputable def abp (td ty tx:TE):TE:=λσ H Q=>td σ H λx H1=>∃a,x = .ref a/\IsD H1 a/\ty σ H1 λy H2=>tx σ H2 λz H3=>∃o,oZ H3 a y o/\Q (o.getD z) H3
theorem Nc (hu:X.A.units+1<cLine)(ho:PE X o td)(he:PE X e ty)(hf:PE X f tx)(m:M2 X o "get" fE e f iE):PE X (.Call (.Attribute o "get" fE) [e,f] [] iE) (abp td ty tx):=by
 intro ah s σ H Q I h;refine wpAny_Call_method m.base m.few m.line PySem.F.plainAttrs_dict zcR PySem.F.type_dict_get (cQ (ho ah s σ H _ I h) λu s1 ⟨x,H1,I1,rx,a,ex,d,q1⟩=>?_)
 subst ex;obtain rfl:u=Value.ref a:=rx
 obtain⟨t1,t2,_⟩:=abn I1 d;refine⟨t1,t2,?_⟩
 rw[m.ahP];refine zcM rfl (zcT (zdm (cQ (he ah s1 σ H1 _ I1 q1) λiv s2 ⟨y,H2,I2,ry,q2⟩ =>
  zdm (cQ (hf ah s2 σ H2 _ I2 q2) λfv s3 ⟨z,H3,I3,rz,ov,g,q3⟩=>Calls.spliced_nil ?_))))
 exact abo hu I3 g ry rz λw' s4 I4 EM=>⟨_,H3,I4,EM,q3⟩
end L2
namespace HT
open PySem PyProof.Rows
section
open PySem.SeqAt
open PySem.AutoSeq1 (wpAny_loadPart')
open PySem.MeetsSeq PySem.MeetsSeq2 PySem.MeetsSeq3
end
theorem Tu (ht:IsTup s.heap t vs.toArray)(hb:IsTup s.heap b ws.toArray)(hv:vs≠[])
  (h1:ws=[]->Q (.ref t) s) (h2:ws≠[]->Q (.ref s.heap.objs.size) { s with heap:=s.heap.push { cls:=.type "tuple",data:=.seq (vs++ws).toArray} })
  (hsz:vs.length+ws.length<=sizeLine):wpAny (model prog w) A (binaryOp .Add (.ref t) (.ref b)) Q E s:=by
 obtain⟨⟨cls,dd,data,sl⟩,ho,hc,n,hd⟩:=id ht
 obtain⟨⟨arD,dd2,ap3,Nd⟩,ho2,hc2,n2,hd2⟩:=id hb
 simp only at hc hd hc2 hd2
 subst hc hd hc2 hd2;have e:vs.toArray++ws.toArray=(vs++ws).toArray:=by simp
 by_cases hw:ws=[]
 ·exact concat_meets ⟨_,ho,rfl⟩ ⟨_,ho2,rfl⟩ noFill_tuple_add seq_tuple_add zdY zdO (zdK _ _)
   (tuple_addW1 t b vs.toArray ws.toArray n n2 dd dd2 sl Nd (by simpa using hv) (by simp[hw])) ⟨ho,ho2,h1 hw⟩
 ·refine concat_meets ⟨_,ho,rfl⟩ ⟨_,ho2,rfl⟩ noFill_tuple_add seq_tuple_add zdY zdO (zdK _ _)
   (tuple_addW2 t b vs.toArray ws.toArray n n2 dd dd2 sl Nd (by simpa using hv) (by simpa using hw) (by rw[zao,zao];exact hsz)) ⟨ho,ho2,?_⟩
  rw[e];exact h2 hw
noncomputable def gK (n d:Nat):Option Int->Nat
 |none=>d
 |some v=>if v<0 then (v+(n:Int)).toNat else min v.toNat n
theorem BL (n d:Nat):gK n d none=d:=rfl
theorem z8 (n d k:Nat):gK n d (some (k:Int))=min k n:=by
 show (if (k:Int)<0 then ((k:Int)+(n:Int)).toNat else min (k:Int).toNat n)=min k n
 rw[if_neg (by omega),zbt]
theorem abq (n d:Nat)(hd:d<=n)(o:Option Int):gK n d o<=n:=by
 cases o with
 |none=>exact hd
 |some v =>
  show (if v<0 then (v+(n:Int)).toNat else min v.toNat n)<=n
  by_cases hv:v<0
  ·rw[if_pos hv];omega
  ·rw[if_neg hv];exact Nat.min_le_right _ _
theorem HD (v:Int)(n d:Nat):(if v<0 then max (v+(n:Int)) 0 else min v (n:Int))=((gK n d (some v):Nat):Int):=by
 show (if v<0 then max (v+(n:Int)) 0 else min v (n:Int))=(((if v<0 then (v+(n:Int)).toNat else min v.toNat n):Nat):Int)
 by_cases hv:v<0
 ·simp only[if_pos hv];omega
 ·simp only[if_neg hv];omega
theorem EN (lo hi:Option Int)(n:Nat):Builtin.Slice.sliceAdjust lo hi 1 (n:Int)=(((gK n 0 lo:Nat):Int),((gK n n hi:Nat):Int)):=by
 have h1:¬ ((1:Int)<0):=by omega
 unfold Builtin.Slice.sliceAdjust;simp only[h1,if_false];refine Prod.ext ?_ ?_
 ·cases lo with
  |none=>rfl
  |some v=>exact HD v n 0
 ·cases hi with
  |none=>rfl
  |some v=>exact HD v n n
theorem ER (i j:Nat):Builtin.Slice.slicePlaces (i:Int) (j:Int) 1=j - i:=by
 unfold Builtin.Slice.slicePlaces;have h1:(1:Int) > 0:=by omega
 simp only[h1,if_true,Int.ediv_one];split<;>omega
theorem t9 (p:IsPart v o)(h:Q o s):wpAny (model prog w) A (Builtin.Slice.slicePartIndex v) Q E s:=by
 cases p with
 |none=>exact slicePart_none h
 |int i t=>exact slicePart_int h
theorem qP {sl:Addr}{vl vu:Value}{lo hi:Option Int}{n:Nat}{Q:Int×Int×Nat->Shared->Prop}(hs:s.heap.IsSliceOf sl vl vu .none)(pl:IsPart vl lo)(pu:IsPart vu hi)
  (h:Q (((gK n 0 lo:Nat):Int),1,gK n n hi - gK n 0 lo) s):wpAny (model prog w) A (Builtin.Slice.sliceApplied (.ref sl) (pure (n:Int))) Q E s:=by
 obtain⟨os,Tv,hcs,hds⟩:=id hs;unfold Builtin.Slice.sliceApplied Builtin.Slice.sliceFields;refine zaa (zaa (zbx Tv hds (x:=vl) rfl (zaa (zbx Tv hds (x:=vu) rfl (zaa (zbx Tv hds (x:=.none) rfl (zad ?_)))))))
 refine zaa (slicePart_none ?_)
 show wpAny _ _ (if ((1:Int) == 0)=true then _ else _) _ _ s
 rw[if_neg (by decide)]
 refine zaa (t9 pl (zaa (t9 pu (zaa (zad ?_)))))
 show wpAny _ _ (match Builtin.Slice.sliceAdjust lo hi 1 (n:Int) with | (lo,hi)=>pure (lo,(1:Int),Builtin.Slice.slicePlaces lo hi 1)) _ _ s
 rw[EN lo hi n];show wpAny _ _ (pure (((gK n 0 lo:Nat):Int),(1:Int),Builtin.Slice.slicePlaces ((gK n 0 lo:Nat):Int) ((gK n n hi:Nat):Int) 1)) _ _ s
 rw[ER];exact zad h
theorem Nf (xs:Array Value)(i k:Nat):((List.range k).filterMap λ(m:Nat)=>xs[((i:Int)+(m:Int) * 1).toNat]?).toArray=((xs.toList.drop i).take k).toArray:=by
 have e:(λ(m:Nat)=>xs[((i:Int)+(m:Int) * 1).toNat]?)=λm=>xs[i+m]?:= by
  funext m
  have:((i:Int)+(m:Int) * 1).toNat=i+m:=by omega
  rw[this]
 rw[e]
 have:=pick_run xs i k
 rw[List.filterMap_map] at this;have e2:((λx=>xs[x]?) ∘ λx=>i+x)=λm=>xs[i+m]?:= rfl
 rw[e2] at this;rw[this]
theorem pO {t sl:Addr}{items:Array Value}{vl vu:Value}{lo hi:Option Int}{Q:Value->Shared->Prop}(ht:IsTup s.heap t items)(hs:s.heap.IsSliceOf sl vl vu .none)(pl:IsPart vl lo)(pu:IsPart vu hi)
  (hw:¬ (gK items.size 0 lo=0/\gK items.size items.size hi=items.size))
  (h:Q (.ref s.heap.objs.size) { s with heap:=s.heap.push { cls:=.type "tuple",data:=.seq ((items.toList.drop (gK items.size 0 lo)).take (gK items.size items.size hi - gK items.size 0 lo)).toArray} })
  (hsz:items.size<=sizeLine):wpAny (model prog w) A (getItem (.ref t) (.ref sl)) Q E s:=by
 have HE:sizeOk (.seq ((items.toList.drop (gK items.size 0 lo)).take (gK items.size items.size hi - gK items.size 0 lo)).toArray):=by
  show ((items.toList.drop (gK items.size 0 lo)).take (gK items.size items.size hi - gK items.size 0 lo)).toArray.size<=sizeLine
  rw[zao,zbh,zdL,zdc];omega
 have hj:gK items.size items.size hi<=items.size:=abq _ _ (zah _) hi
 obtain⟨os,Tv,hcs,hds⟩:=id hs;have hTs:s.TypeIs (.ref sl) "slice" := ⟨os,Tv,hcs⟩
 unfold getItem;try with_reducible refine zbr ?_
 first|refine zaa (zad ?_)|skip
 refine zaa (wpAny_sequenceKey ht.typeIs (by decide) ?_)
 refine zaa (zbH (name:=Str.ofString "__getitem__") ht.typeIs zcb
  (zbU zcb ht.typeIs entry_tuple_getitem ?_ (args_tuple_getitem _ _)))
 show wpAny _ _ (Builtin.Tuple.tupleItemsOf (.ref t) >>= _) _ _ s
 refine zaa (tupleItemsOf_ ht ?_)
 refine zaa (wpAny_typeOf hTs ?_)
 rw[if_pos (by decide)]
 refine zaa (qP hs pl pu ?_)
 have hno:¬ ((((gK items.size 0 lo:Nat):Int) == 0 && (1:Int) == 1 && (gK items.size items.size hi - gK items.size 0 lo) == items.size)=true):=by
  intro q;rw[zbz,zbz] at q;have q1:((gK items.size 0 lo:Nat):Int)=0:=eq_of_beq q.1.1
  have q2:gK items.size items.size hi - gK items.size 0 lo=items.size:=eq_of_beq q.2
  exact hw ⟨by omega,by omega⟩
 show wpAny _ _ (if (((gK items.size 0 lo:Nat):Int) == 0 && (1:Int) == 1 && (gK items.size items.size hi - gK items.size 0 lo) == items.size)=true then _ else _) _ _ s
 rw[if_neg hno,Nf];first
  |exact zaa (m:=Builtin.Tuple.tupleExact _) (zaS (zad ⟨_,rfl,zad h⟩) HE)
  |exact zaa (m:=Builtin.Tuple.tupleExact _) (zaS (zaa (zad (zad ⟨_,rfl,zad h⟩))) HE)
  |exact zaa (zaa (m:=Builtin.Tuple.tupleExact _) (zaS (zad (zad ⟨_,rfl,zad h⟩)) HE))
  |exact zaa (zaa (m:=Builtin.Tuple.tupleExact _) (zaS (zad ⟨_,rfl,zad h⟩) HE))
end HT
namespace L2
open PySem PySem.Spec PyProof.Rows
noncomputable abbrev TO:=St->Hp->(Option Int->Hp->Prop)->Prop
noncomputable def PO (X:Cx)(e:Option Expr)(t:TO):Prop:=
 ∀(ah:List (Addr×Obj)) (s:Shared) (σ:St) (H:Hp) (Q:Option Int->Hp->Prop),aK X ah σ H s->t σ H Q ->
  wpAny (model X.prog X.w) X.A (evalPart e X.env) (λu s'=>∃o H',aK X ah σ H' s'/\IsPart u o/\Q o H') X.xe s
noncomputable def Tw:TO:=λ_ H Q=>Q none H
noncomputable def ahQ (t:TE):TO:=λσ H Q=>t σ H λx H1=>∃i,x = .int i/\Q (some i) H1
theorem ES:∀{us:List Value},bO (ns.map V.int) us->IntsAre us ns:=by
 induction ns with
 |nil=>intro us r;rw[zbM] at r;cases r;exact .nil
 |cons n ns ih =>
  intro us r;rw[zas] at r;cases r with
  |cons r1 r2 =>
   obtain⟨t,e⟩:=r1;subst e;exact .cons n t (ih r2)
section
variable {X:Cx}{e:Expr}{te:TE}{lo hi:Option Expr}{tl th:TO}{pos p2:Pos}
theorem Tz:PO X none Tw:=by
 intro ah s σ H Q I h;rw[evalPart_none];exact zad ⟨none,H,I,.none,h⟩
theorem TH (h:PE X e te):PO X (some e) (ahQ te):=by
 intro ah s σ H Q I hw;rw[evalPart_some];refine cQ (h ah s σ H _ I hw) λu s1 ⟨x,H1,I1,r1,q1⟩=>?_
 obtain⟨i,rfl,q⟩:=q1;obtain⟨t,rfl⟩:=r1;exact⟨some i,H1,I1,.int i t,q⟩
noncomputable def SlR (X:Cx)(r:V->Option Int->Option Int->Hp->VK->Prop):Prop:=
 ∀(ah:List (Addr×Obj)) (s:Shared) (σ:St) (H:Hp) (x:V) (v vl vu:Value) (lo hi:Option Int) (sl:Addr) (Q:VK),aK X ah σ H s->bI x v->s.heap.IsSliceOf sl vl vu .none->IsPart vl lo->IsPart vu hi->r x lo hi H Q ->
  ∃T id,typeLookup (.type T) "__getitem__"=pure (some (.builtin id))/\s.TypeIs v T/\wpAny (model X.prog X.w) X.A (getItem v (.ref sl)) (EP X ah σ Q) X.xe s
noncomputable def tSl (r:V->Option Int->Option Int->Hp->VK->Prop)(te:TE)(tl th:TO):TE:=λσ H Q=>te σ H λx H1=>tl σ H1 λl H2=>th σ H2 λu H3=>r x l u H3 Q
theorem Ng (hr:SlR X r)(he:PE X e te)(hl:PO X lo tl)(hu:PO X hi th):PE X (.Subscript e (.Slice lo hi none p2) pos) (tSl r te tl th):=by
 intro ah s σ H Q I h;refine Subscript_ (cQ (he ah s σ H _ I h) λv s1 ⟨x,H1,I1,r1,q1⟩=>?_)
 refine wpAny_Slice (cQ (hl ah s1 σ H1 _ I1 q1) λvl s2 ⟨l,H2,I2,pl,q2⟩=>cQ (hu ah s2 σ H2 _ I2 q2) λvu s3 ⟨u,H3,I3,pu,q3⟩=>?_)
 rw[evalPart_none];refine zad ?_
 have I4:aK X ah σ H3 { s3 with heap:=s3.heap.push { cls:=.type "slice",data:=.fields #[vl,vu,.none]} }:=I3.iA (t':=s3.toks) λb ob q=>zac _ q
 obtain⟨T,id,hT,ht,hg⟩:=hr ah { s3 with heap:=s3.heap.push { cls:=.type "slice",data:=.fields #[vl,vu,.none]} } σ H3 x v vl vu l u s3.heap.objs.size Q I4 r1 (Heap.IsSliceOf.new ..) pl pu q3
 show wpAny (model X.prog X.w) X.A (subscriptTail e (.Slice lo hi none p2) v (.ref s3.heap.objs.size)) (EP X ah σ Q) X.xe { s3 with heap:=s3.heap.push { cls:=.type "slice",data:=.fields #[vl,vu,.none]} }
 exact tail_any (ops:=[.ref s3.heap.objs.size,v]) ht hT hg (by with_unfolding_all rfl)
noncomputable def BN (xs:List V)(lo hi:Option Int):List V:=(xs.drop (HT.gK xs.length 0 lo)).take (HT.gK xs.length xs.length hi - HT.gK xs.length 0 lo)
theorem rR (xs:List V)(lo hi:Option Int):(BN xs lo hi).length<=xs.length:=by
 unfold BN;rw[zbh,zdL];omega
noncomputable def am7 (K:PySem.W.Frag):V->Option Int->Option Int->Hp->VK->Prop:=λx lo hi H Q=>∃a xs,x = .ref a/\oV K H a xs /\
 ¬ (HT.gK xs.length 0 lo=0/\HT.gK xs.length xs.length hi=xs.length)/\∀p,H p=none->Q (.ref p) (bG H p (.gV (BN xs lo hi)))
theorem abr:SlR X (am7 X.K):=by
 intro ah s σ H x v vl vu lo hi sl Q I rx hs pl pu h;obtain⟨a,xs,rfl,hx,hw,q⟩:=h;cases rx;obtain⟨bw,r,ht,hz⟩:=I.fY hx;have dB:bw.toArray.size=xs.length:=by rw[zao];exact r.length.symm
 refine⟨"tuple",_,zcb.lookup,ht.typeIs,?_⟩
 refine HT.pO ht hs pl pu (by rw[dB];exact hw) ?_ (by rw[dB];exact hz)
 rw[dB];refine⟨.ref s.heap.objs.size,_,I.j_ (t':=s.toks) (o:=.gV (BN xs lo hi)) (λb ob q=>zac _ q) (zah _) ?_,rfl,q _ (I.cF.fresh (zah _))⟩
 exact⟨zag (rR xs lo hi) hz,_,(r.drop (HT.gK xs.length 0 lo)).take (HT.gK xs.length xs.length hi - HT.gK xs.length 0 lo),IsTup.new _ _⟩
noncomputable def ahR (K:PySem.W.Frag):R2:=λx y H Q=>∃a b xs ys,x = .ref a/\y = .ref b/\oV K H a xs/\oV K H b ys/\xs≠[]/\xs.length+ys.length<=sizeLine /\
 (ys=[]->Q (.ref a) H)/\(ys≠[]->∀p,H p=none->Q (.ref p) (bG H p (.gV (xs++ys))))
theorem bO.z9 (r:bO xs us):us=[]↔xs=[]:=by
 cases r with
 |nil=>simp
 |cons _ _=>simp
theorem TL:kQ X (binaryOp .Add) (ahR X.K):=by
 intro ah s σ H x y v u Q I rx ry h;obtain⟨a,b,xs,ys,rfl,rfl,ha,hb,hx,hz,q1,q2⟩:=h;cases rx;cases ry;obtain⟨bw,r1,p1,_⟩:=I.fY ha;obtain⟨iO,r2,p2,_⟩:=I.fY hb;refine HT.Tu p1 p2 (λz=>hx (r1.z9.mp z)) (λz=>⟨.ref a,H,I,rfl,q1 (r2.z9.mp z)⟩) (λz=>?_) (by rw[<-r1.length,<-r2.length];exact hz)
 refine⟨.ref s.heap.objs.size,_,I.j_ (t':=s.toks) (o:=.gV (xs++ys)) (λb ob q=>zac _ q) (zah _) ?_,rfl,q2 (λw=>z (r2.z9.mpr w)) _ (I.cF.fresh (zah _))⟩
 exact⟨by rw[zaj];exact hz,_,r1.mO r2,IsTup.new _ _⟩
end
noncomputable def Bk (n:Nat)(i:Int):Option Nat:=if 0<=i then (if i<n then some i.toNat else none) else if -(n:Int)<=i then some (i+n).toNat else none
noncomputable def iX {α:Type}(xs:List α)(i:Int):Option α:= (Bk xs.length i).bind λj=>xs[j]?
theorem HF (h:Bk n i=some j):seqIndex? i n=some j/\j<n /\ -(n:Int)<=i/\i<n:=by
 unfold Bk at h;by_cases h0:0<=i
 ·rw[if_pos h0] at h
  by_cases h1:i<n
  ·rw[if_pos h1] at h
   have e:i.toNat=j:=zaw h
   exact⟨by rw[seqIndex_of h0 h1,e],by omega,by omega,h1⟩
  ·rw[if_neg h1] at h;cases h
 ·rw[if_neg h0] at h
  by_cases h1: -(n:Int)<=i
  ·rw[if_pos h1] at h
   have e:(i+n).toNat=j:=zaw h
   exact⟨by rw[seqIndex_neg (by omega) h1,e],by omega,h1,by omega⟩
  ·rw[if_neg h1] at h;cases h
theorem z_ {α:Type}{xs:List α}{i:Int}{v:α}(h:iX xs i=some v):∃j,seqIndex? i xs.length=some j/\xs[j]? = some v/\j<xs.length /\ -(xs.length:Int)<=i/\i<xs.length:=by
 unfold iX at h;cases e:Bk xs.length i with
 |none=>rw[e] at h;cases h
 |some j =>
  rw[e] at h;obtain⟨h1,h2,h3,h4⟩:=HF e;exact⟨j,h1,h,h2,h3,h4⟩
theorem iw {α:Type}{xs:List α}{j:Nat}{v:α}(h:xs[j]? = some v):iX xs (j:Int)=some v:=by
 have hj:j<xs.length:=(zab.mp h).1
 have e:Bk xs.length (j:Int)=some j:=by
  unfold Bk;rw[if_pos (by omega),if_pos (by omega)];simp
 unfold iX;rw[e];exact h
noncomputable def HG (b:Expr):Prop:=∀o i,subscripted b false o i=operate [o,i] (getItem o i)
noncomputable def TM (X:Cx)(r:R2):Prop:=
 ∀(value slice:Expr) (ah:List (Addr×Obj)) (s:Shared) (σ:St) (H:Hp) (x y:V) (v u:Value) (Q:VK),aK X ah σ H s->bI x v->bI y u->r x y H Q ->
  subscripted slice false v u=operate [v,u] (getItem v u)->wpAny (model X.prog X.w) X.A (subscriptTail value slice v u) (EP X ah σ Q) X.xe s
noncomputable def MtR (X:Cx)(id:String)(r:V->List V->Hp->VK->Prop):Prop:=
 ∀(ah:List (Addr×Obj)) (s:Shared) (σ:St) (H:Hp) (x:V) (xs:List V) (v:Value) (us:List Value) (Q:VK),aK X ah σ H s->bI x v->bO xs us->r x xs H Q ->
  wpAny (model X.prog X.w) X.A (call (.builtin id) (v::us)) (EP X ah σ Q) X.xe s
section
variable {X:Cx}{a b:Expr}{ta tb:TE}{pos:Pos}
theorem TM.or (h:TM X r)(h':TM X r'):TM X (λx y H Q=>r x y H Q\/r' x y H Q):=by
 intro value slice ah s σ H x y v u Q I rx ry q hs;rcases q with q|q
 ·exact h value slice ah s σ H x y v u Q I rx ry q hs
 ·exact h' value slice ah s σ H x y v u Q I rx ry q hs
theorem ahS (hr:TM X r)(ha:PE X a ta)(hb:PE X b tb)(hs:HG b):PE X (.Subscript a b pos) (tOp r ta tb):=by
 intro ah s σ H Q I h;exact Subscript_ (aa4 ha hb I h λv u s2 x y H2 I2 rx ry q=>hr a b ah s2 σ H2 x y v u Q I2 rx ry q (hs _ _))
noncomputable def ahT (K:PySem.W.Frag):R2:=λx y H Q=>∃p xs i v,x = .ref p/\y = .int i/\jC K H p xs/\iX xs i=some v/\Q v H
noncomputable def ahU (K:PySem.W.Frag):R2:=λx y H Q=>∃p xs i v,x = .ref p/\y = .int i/\oV K H p xs/\iX xs i=some v/\Q v H
noncomputable def ahV:R2:=λx y H Q=>∃z i c,x = .str z/\y = .int i/\z.length<=sizeLine/\iX z.cps.toList i=some c/\Q (.str ⟨#[c]⟩) H
theorem TN:TM X (ahT X.K):=by
 intro value slice ah s σ H x y v u Q I rx ry h hs;obtain⟨p,xs,i,z,rfl,rfl,hq,he,q⟩:=h;cases rx;obtain⟨t,rfl⟩:=ry;obtain⟨bw,r,pl,hz⟩:=I.list hq;obtain⟨j,h1,h2,h3,h4,h5⟩:=z_ he;obtain⟨w,ew,EM⟩:=r.get h2;have hl:=r.length;have hn:=qM;have fu:EP X ah σ Q w s:=⟨z,H,I,EM,q⟩
 by_cases h0:0<=i
 ·have hj:i.toNat=j:=by
   rw[seqIndex_of h0 h5] at h1;exact zaw h1
  exact item_listR pl.isList h0 (by omega) (by rw[hj];simpa using ew) fu hs
 ·have hj:(i+(bw.toArray.size:Int)).toNat=j:=by
   rw[seqIndex_neg (by omega) h4] at h1
   rw[zao,<-hl];exact zaw h1
  exact subscriptTail_builtinR (x:=w) pl.isList.typeIs slot_list_getitem.lookup
   (wpAny_getItem_list_neg (Q:=λr s'=>r=w/\EP X ah σ Q r s') pl.isList (by omega) (by rw[zao]<;>omega) (by omega) (by rw[hj];simpa using ew) ⟨rfl,fu⟩) hs
theorem abt:TM X (ahU X.K):=by
 intro value slice ah s σ H x y v u Q I rx ry h hs;obtain⟨p,xs,i,z,rfl,rfl,hq,he,q⟩:=h;cases rx;obtain⟨t,rfl⟩:=ry;obtain⟨bw,r,pl,hz⟩:=I.fY hq;obtain⟨j,h1,h2,h3,h4,h5⟩:=z_ he;obtain⟨w,ew,EM⟩:=r.get h2;have hl:=r.length;have hn:=qM;have fu:EP X ah σ Q w s:=⟨z,H,I,EM,q⟩
 exact subscriptTail_builtinR (x:=w) pl.typeIs slot_tuple_getitem.lookup
  (getItem_tuple (j:=j) (Q:=λr s'=>r=w/\EP X ah σ Q r s') pl (by omega) (by omega) (by rw[zao,<-hl];exact h1) (by simpa using ew) ⟨rfl,fu⟩) hs
theorem abu:TM X ahV:=by
 intro value slice ah s σ H x y v u Q I rx ry h hs;obtain⟨z,i,c,rfl,rfl,hz,he,q⟩:=h;obtain⟨t,rfl⟩:=rx;obtain⟨t',rfl⟩:=ry;obtain⟨j,h1,h2,h3,h4,h5⟩:=z_ he;have hl:z.cps.toList.length=z.length:=by simp[Str.length]
 rw[hl] at h1 h4 h5;have hn:=qM;exact tail_any (typeIs_str s z t) slot_str_getitem.lookup (getItem_str (c:=c) (by
  have e1:decide (i < -(2 ^ 63:Int))=false:=decide_eq_false (by omega)
  have e2:decide (i ≥ 2 ^ 63)=false:=decide_eq_false (by omega)
  rw[e1,e2,zds]) (by rw[h1];simpa using h2) ⟨.str ⟨#[c]⟩,H,I.oJ _,⟨_,rfl⟩,q⟩) hs
noncomputable def rIx (K:PySem.W.Frag):R2:=λx y H Q=>ahT K x y H Q\/ahU K x y H Q\/ahV x y H Q
theorem abv:TM X (rIx X.K):=TN.or (abt.or abu)
theorem ET (bw:List Value)(n j:Nat)(u:Value):Obj.mapSeq (·.setIfInBounds j u) { cls:=.type "list",data:=.seq bw.toArray n} = { cls:=.type "list",data:=.seq (bw.set j u).toArray n}:=by
 simp[Obj.mapSeq]
theorem aK.bS (I:aK X ah σ H s)(h:H p=some (.bS xs)):
  ∃(bw:List Value) (n:Nat),bO xs bw/\s.heap.get? p=some { cls:=.type "list",data:=.seq bw.toArray n}/\xs.length<=sizeLine:=by
 obtain⟨z,bw,n,r,e⟩:=I.cF p _ h;exact⟨bw,n,r,e,z⟩
theorem aK.abw {ah:List (Addr×Obj)}{σ:St}{H:Hp}{s:Shared}{p:Addr}{xs ys:List V}{bw its':List Value}{n n':Nat}{f:Obj->Obj}(I:aK X ah σ H s)(h:H p=some (.bS xs))
  (ho:s.heap.get? p=some { cls:=.type "list",data:=.seq bw.toArray n}) (hf:f { cls:=.type "list",data:=.seq bw.toArray n} = { cls:=.type "list",data:=.seq its'.toArray n' }) (r:bO ys its') (hz:ys.length<=sizeLine) (t:Nat):
  aK X ah σ (bG H p (.bS ys)) {s with heap:=s.heap.update p f,toks:=t}:=by
 have e:(s.heap.update p f).get? p=some { cls:=.type "list",data:=.seq its'.toArray n' }:=by
  rw[zaR f ho (by rw[hf]<;>rfl),hf]
 refine I.jB (x:=p) (e:=p) (by rw[h];trivial) (.inl rfl) (λb u hb q=>(zaD _ _ (zbg hb)).trans q) ⟨_,e⟩ ?_
 exact⟨hz,its',n',r,e⟩
noncomputable def ahW:V->V->V->Hp->(Hp->Prop)->Prop:=λo i v H Q=>∃p xs k j,o = .ref p/\i = .int k/\H p=some (.bS xs)/\Bk xs.length k=some j/\Q (bG H p (.bS (xs.set j v)))
theorem Nh:aaW X ahW:=by
 intro ah s σ H o i v ov iv u Q I ro ri rv h;obtain⟨p,xs,k,j,rfl,rfl,hp,hj,q⟩:=h;cases ro;obtain⟨t,rfl⟩:=ri;obtain⟨bw,n,r,ho,hz⟩:=I.bS hp;obtain⟨h1,h2,h3,h4⟩:=HF hj;have hl:=r.length;have hn:=qM;have I':aK X ah σ (bG H p (.bS (xs.set j v))) {s with heap:=s.heap.update p (Obj.mapSeq (·.setIfInBounds j u))}:=
  I.abw hp ho (ET bw n j u) (r.set rv j) (by rw[zcU];exact hz) s.toks
 by_cases h0:0<=k
 ·have hk:k.toNat=j:=by
   rw[seqIndex_of h0 h4] at h1;exact zaw h1
  exact PySem.W.ki_setAt ho h0 (by omega) (by rw[zao,<-hl];exact h4) (by rw[hk];exact⟨_,I',q⟩)
 ·have hk:(k+(bw.toArray.size:Int)).toNat=j:=by
   rw[seqIndex_neg (by omega) h3] at h1
   rw[zao,<-hl];exact zaw h1
  exact PySem.W.ki_setBack ho (by omega) (by rw[zao,<-hl];exact h3) (by omega) (by rw[hk];exact⟨_,I',q⟩)
theorem Aa (lo hi:Option Int)(n:Nat):(sliceBounds lo hi none n).1=((HT.gK n 0 lo:Nat):Int)/\(sliceBounds lo hi none n).2.1=((HT.gK n n hi:Nat):Int)/\(sliceBounds lo hi none n).2.2=1:=by
 refine⟨?_,?_,rfl⟩
 ·cases lo with
  |none=>simp[sliceBounds,HT.gK]
  |some i =>
   simp only[sliceBounds,HT.gK,zbV,show (1:Int) > 0 by decide,if_true]
   by_cases h:i<0
   ·simp only[h,if_true]<;>omega
   ·simp only[h,if_false]<;>omega
 ·cases hi with
  |none=>simp[sliceBounds,HT.gK]
  |some i =>
   simp only[sliceBounds,HT.gK,zbV,show (1:Int) > 0 by decide,if_true]
   by_cases h:i<0
   ·simp only[h,if_true]<;>omega
   ·simp only[h,if_false]<;>omega
theorem xw (bw:List Value)(lo hi:Option Int):slicePick bw.toArray lo hi none=((bw.drop (HT.gK bw.length 0 lo)).take (HT.gK bw.length bw.length hi - HT.gK bw.length 0 lo)).toArray:=by
 obtain⟨h1,h2,h3⟩:=Aa lo hi bw.toArray.size;unfold slicePick;rw[h1,h2,h3];simp only[sliceRange_one,pick_run,zao]<;>rfl
noncomputable def am9 (K:PySem.W.Frag):V->Option Int->Option Int->Hp->VK->Prop:=λx lo hi H Q=>∃a xs,x = .ref a/\jC K H a xs/\∀p,H p=none->Q (.ref p) (bG H p (.bS (BN xs lo hi)))
theorem TQ:SlR X (am9 X.K):=by
 intro ah s σ H x v vl vu lo hi sl Q I rx hs pl pu h;obtain⟨a,xs,rfl,hx,q⟩:=h;cases rx;obtain⟨bw,r,ht,hz⟩:=I.list hx;have dB:=r.length;refine⟨"list",_,slot_list_getitem.lookup,ht.isList.typeIs,?_⟩
 refine wpAny_getItem_list_slice ht.isList hs pl pu .none (by simp) ?_ (by rw[zao]<;>omega)
 rw[xw,<-dB];refine⟨.ref s.heap.objs.size,_,I.j_ (t':=s.toks) (o:=.bS (BN xs lo hi)) (λb ob q=>zac _ q) (zah _) ?_,rfl,q _ (I.cF.fresh (zah _))⟩
 exact⟨zag (rR xs lo hi) hz,_,0,(r.drop (HT.gK xs.length 0 lo)).take (HT.gK xs.length xs.length hi - HT.gK xs.length 0 lo),zap _ rfl⟩
noncomputable def iU:V->Bool
 |.bz=>true
 |.bl _=>true
 |.int _=>true
 |.str _=>true
 |_=>false
noncomputable def Ab:V->V->Bool
 |.bz,.bz=>true
 |.bl a,.bl b=>a == b
 |.bl a,.int b=>(if a then 1 else 0) == b
 |.int a,.bl b=>a == (if b then 1 else 0)
 |.int a,.int b=>a == b
 |.str a,.str b=>a == b
 |_,_=>false
theorem Ni (ry:bI y u)(rx:bI x v)(fy:iU y=true)(fx:iU x=true):SeqAt.EqAt A s u v (Ab y x):=by
 cases y with
 |bz =>
  cases ry;cases x with
  |bz=>cases rx;exact zdR _
  |bl b=>cases rx;exact SeqAt.EqAt.none_bool b
  |int b=>obtain⟨t,rfl⟩:=rx;exact SeqAt.EqAt.none_int b t
  |str b=>obtain⟨t,rfl⟩:=rx;exact SeqAt.EqAt.none_str b t
  |_=>exact absurd (show false=true from fx) zal
 |bl a =>
  cases ry;cases x with
  |bz=>cases rx;exact SeqAt.EqAt.bool_none a
  |bl b=>cases rx;exact SeqAt.EqAt.bool_bool a b
  |int b=>obtain⟨t,rfl⟩:=rx;exact SeqAt.EqAt.bool_int a b t
  |str b=>obtain⟨t,rfl⟩:=rx;exact SeqAt.EqAt.bool_str a b t
  |_=>exact absurd (show false=true from fx) zal
 |int a =>
  obtain⟨t',rfl⟩:=ry;cases x with
  |bz=>cases rx;exact SeqAt.EqAt.int_none a t'
  |bl b=>cases rx;exact SeqAt.EqAt.int_bool a t' b
  |int b=>obtain⟨t,rfl⟩:=rx;exact SeqAt.EqAt.int_int a t' b t
  |str b=>obtain⟨t,rfl⟩:=rx;exact zeu a t' b t
  |_=>exact absurd (show false=true from fx) zal
 |str a =>
  obtain⟨t',rfl⟩:=ry;cases x with
  |bz=>cases rx;exact SeqAt.EqAt.str_none a t'
  |bl b=>cases rx;exact SeqAt.EqAt.str_bool a t' b
  |int b=>obtain⟨t,rfl⟩:=rx;exact zev a t' b t
  |str b=>obtain⟨t,rfl⟩:=rx;exact SeqAt.EqAt.str_str a t' b t
  |_=>exact absurd (show false=true from fx) zal
 |_=>exact absurd (show false=true from fy) zal
noncomputable def BO (x:V)(u:Value):Bool:=match u with
 |.none=>Ab .bz x
 |.bool b=>Ab (.bl b) x
 |.int i _=>Ab (.int i) x
 |.str z _=>Ab (.str z) x
 |_=>false
theorem EU (r:bI y u)(f:iU y=true):BO x u=Ab y x:=by
 cases y with
 |bz=>cases r;rfl
 |bl b=>cases r;rfl
 |int i=>obtain⟨t,rfl⟩:=r;rfl
 |str z=>obtain⟨t,rfl⟩:=r;rfl
 |_=>exact absurd (show false=true from f) zal
theorem pP:∀{xs:List V} {us:List Value},bO xs us->xs.all iU=true->us.any (BO x)=xs.any λy=>Ab y x
 |_,_,.nil,_=>rfl
 |y::xs,u::us,.cons r t,f=>by
  rw[zaC,zbz] at f;rw[zcc,zcc,EU r f.1,pP t f.2]
theorem kr (rx:bI x v)(fx:iU x=true):∀{xs:List V} {us:List Value},bO xs us->xs.all iU=true->∀u∈us,SeqAt.EqAt A s u v (BO x u)
 |_,_,.nil,_=>λu hu=>by cases hu
 |y::xs,u::us,.cons r t,f=>λu' hu=>by
  rw[zaC,zbz] at f;rcases zam.mp hu with rfl|hu
  ·rw[EU r f.1];exact Ni r rx f.1 fx
  ·exact kr rx fx t f.2 u' hu
noncomputable def inV (x:V)(xs:List V):Bool:=xs.any λy=>Ab y x
noncomputable def rIn (K:PySem.W.Frag)(neg:Bool):R2:=λx y H Q=>∃p xs,y = .ref p/\(jC K H p xs\/oV K H p xs)/\iU x=true/\xs.all iU=true/\Q (.bl (if neg then !inV x xs else inV x xs)) H
theorem Ka:kQ X (compareOp .In) (rIn X.K false):=by
 intro ah s σ H x y v u Q I rx ry h;obtain⟨p,xs,rfl,hq,fx,fs,q⟩:=h;cases ry;rcases hq with hq|hq
 ·obtain⟨bw,r,pl,hz⟩:=I.list hq
  refine SeqAt.in_listAt (BO x) pl.isList (λw hw=>kr rx fx r fs w (by simpa using hw)) ⟨.bl _,H,I,rfl,?_⟩
  rw[show bw.toArray.any (BO x)=bw.any (BO x) by simp,pP r fs]
  exact q
 ·obtain⟨bw,r,pl,hz⟩:=I.fY hq
  refine SeqAt.in_tupleAt (BO x) pl (λw hw=>kr rx fx r fs w (by simpa using hw)) ⟨.bl _,H,I,rfl,?_⟩
  rw[show bw.toArray.any (BO x)=bw.any (BO x) by simp,pP r fs]
  exact q
theorem Ac:kQ X (compareOp .NotIn) (rIn X.K true):=by
 intro ah s σ H x y v u Q I rx ry h;obtain⟨p,xs,rfl,hq,fx,fs,q⟩:=h;cases ry;rcases hq with hq|hq
 ·obtain⟨bw,r,pl,hz⟩:=I.list hq
  refine SeqAt.notIn_listAt (BO x) pl.isList (λw hw=>kr rx fx r fs w (by simpa using hw)) ⟨.bl _,H,I,rfl,?_⟩
  rw[show bw.toArray.any (BO x)=bw.any (BO x) by simp,pP r fs]
  exact q
 ·obtain⟨bw,r,pl,hz⟩:=I.fY hq
  refine SeqAt.notIn_tupleAt (BO x) pl (λw hw=>kr rx fx r fs w (by simpa using hw)) ⟨.bl _,H,I,rfl,?_⟩
  rw[show bw.toArray.any (BO x)=bw.any (BO x) by simp,pP r fs]
  exact q
theorem Ae:kQ X (compareOp .NotIn) (λx y H Q=>∃i j,x = .str i/\y = .str j/\Q (.bl (!(!(Builtin.Str.occurrences j i 0 j.length 1).isEmpty))) H):=by
 intro ah s σ H x y v u Q I rx ry h;obtain⟨i,j,rfl,rfl,q⟩:=h;obtain⟨t,rfl⟩:=rx;obtain⟨t',rfl⟩:=ry;exact notIn_str ⟨.bl _,H,I,rfl,q⟩
theorem Af:jD X (.builtin "len") (λxs H Q=>∃p ys,xs=[.ref p]/\(jC X.K H p ys\/oV X.K H p ys)/\Q (.int ys.length) H):=by
 intro ah s σ H xs us Q I r h;obtain⟨p,ys,rfl,hq,q⟩:=h;obtain⟨u,rfl,rx⟩:=tW r;cases rx;have hn:=qM;rcases hq with hq|hq
 ·obtain⟨bw,r',pl,hz⟩:=I.list hq
  have dB:=r'.length;exact Calls.call_len_list pl.isList (by simp only[zao]<;>omega) ⟨.int ys.length,H,I.oJ _,⟨s.toks+1,by rw[zao,dB]⟩,q⟩
 ·obtain⟨bw,r',pl,hz⟩:=I.fY hq
  have dB:=r'.length;exact len_tuple pl (by simp only[zao]<;>omega) ⟨.int ys.length,H,I.oJ _,⟨s.toks+1,by rw[zao,dB]⟩,q⟩
theorem Ag:jD X (.builtin "len") (λxs H Q=>∃z,xs=[.str z]/\z.length<=sizeLine/\Q (.int z.length) H):=by
 intro ah s σ H xs us Q I r h;obtain⟨z,rfl,hz,q⟩:=h;obtain⟨u,rfl,t,rfl⟩:=tW r;have hn:=qM;exact len_str (by omega) ⟨.int z.length,H,I.oJ _,⟨_,rfl⟩,q⟩
theorem Ah:jD X (.type "list") (λxs H Q=>∃p ys,xs=[.ref p]/\(jC X.K H p ys\/oV X.K H p ys)/\∀l,H l=none->Q (.ref l) (bG H l (.bS ys))):=by
 intro ah s σ H xs us Q I r h;obtain⟨p,ys,rfl,hq,q⟩:=h;obtain⟨u,rfl,rx⟩:=tW r;cases rx;have fu:∀(bw:List Value),bO ys bw->ys.length<=sizeLine->∀(h':Heap) (c':Nat),(∀b o',s.heap.get? b=some o'->h'.get? b=some o') ->
   h'.get? s.heap.objs.size=some { cls:=.type "list",dict:=none,data:=.seq bw.toArray c',slots:=#[]}->EP X ah σ Q (.ref s.heap.objs.size) {s with heap:=h' }:=λbw r' hz h' c' kp e =>
  ⟨.ref s.heap.objs.size,_,I.j_ (t':=s.toks) kp (zah _) (show cP X.prog X.w _ h' _ (.bS ys) from ⟨hz,bw,c',r',e⟩),rfl,q _ (I.cF.fresh (zah _))⟩
 rcases hq with hq|hq
 ·obtain⟨bw,r',pl,hz⟩:=I.list hq
  have dB:=r'.length;obtain⟨o,ho,hc,n,hd⟩:=pl.isList;exact call_list_seq p (.inl rfl) ho hc hd (λh' c' kp e=>fu bw r' hz h' c' kp e) (by simp only[zao]<;>omega)
 ·obtain⟨bw,r',pl,hz⟩:=I.fY hq
  have dB:=r'.length;obtain⟨o,ho,hc,n,hd⟩:=pl;exact call_list_seq p (.inr rfl) ho hc hd (λh' c' kp e=>fu bw r' hz h' c' kp e) (by simp only[zao]<;>omega)
noncomputable def tyV (K:PySem.W.Frag)(T:String)(x:V)(H:Hp):Prop:=match x with
 |.str _=>T="str"
 |.int _=>T="int"
 |.ref p=>(T="list" /\ ∃xs,jC K H p xs)\/(T="tuple" /\ ∃o,K.lookup p=some o/\o.cls = .type "tuple" /\ o.dict=none) \/
   (T="dict" /\ ((∃aU,H p=some (.dK aU))\/∃aU,H p=some (.dT aU)))\/(T="set" /\ ∃S n,H p=some (.set S n))
 |_=>False
theorem abx (I:aK X ah σ H s)(r:bI x v)(ty:tyV X.K T x H):
  s.TypeIs v T/\∀a,v = .ref a->∃ob,s.heap.get? a=some ob/\ob.dict=none:=by
 cases x with
 |str z =>
  obtain⟨t,rfl⟩:=r;cases (show T="str" from ty)
  exact⟨typeIs_str s z t,λ_ e=>nomatch e⟩
 |int i =>
  obtain⟨t,rfl⟩:=r;cases (show T="int" from ty)
  exact⟨typeIs_int s i t,λ_ e=>nomatch e⟩
 |ref p =>
  cases r;rcases ty with⟨rfl,xs,hq⟩|⟨rfl,o,hk,hc,hd⟩|⟨rfl,hk⟩|⟨rfl,S,n,hk⟩
  ·obtain⟨bw,_,pl,_⟩:=I.list hq
   refine⟨pl.isList.typeIs,λa e=>?_⟩
   cases e;obtain⟨o,n,e,c,hd,_⟩:=pl;exact⟨o,e,hd⟩
  ·refine⟨⟨o,I.nI p o hk,hc⟩,λa e=>?_⟩
   cases e;exact⟨o,I.nI _ o hk,hd⟩
  ·have z:∃o,s.heap.get? p=some o/\o.ExactDict:=by
    rcases hk with⟨aU,hk⟩|⟨aU,hk⟩
    ·obtain⟨_,_,_,_,o,_,_,e,ex,_⟩:=I.cF p _ hk
     exact⟨o,e,ex⟩
    ·obtain⟨_,_,_,_,o,_,_,e,ex,_⟩:=I.cF p _ hk
     exact⟨o,e,ex⟩
   obtain⟨o,e,ex⟩:=z;refine⟨⟨o,e,ex.1⟩,λa e2=>?_⟩
   cases e2;exact⟨o,e,ex.2.1⟩
  ·obtain⟨o,_,_,_,e,ex,_⟩:=I.cF p _ hk
   refine⟨⟨o,e,ex.1⟩,λa e2=>?_⟩
   cases e2;exact⟨o,e,ex.2.1⟩
 |_=>exact False.elim ty
noncomputable def tBM (K:PySem.W.Frag)(T:String)(r:V->List V->Hp->VK->Prop)(to:TE)(t:TA):TE:=λσ H Q=>to σ H λx H1=>tyV K T x H1/\t σ H1 λxs H2=>r x xs H2 Q
variable {o e:Expr}{es:List Expr}{to:TE}{t:TA}{name:Str}{fE iE:Pos}{T id:String}{r:V->List V->Hp->VK->Prop}
theorem ahX (pa:PlainAttrs T)(slot:Slot T name id)(hty:typeOf (.builtin id)=pure (.type "method_descriptor"))(hm:MtR X id r)(ho:PE X o to)(ha:PA X (e::es) t)
  (Nj:autoParam (attributeBase o name X.env (eval o X.env)=eval o X.env) zp_0)
  (anc:autoParam (((backTo iE (starEach (e::es) X.env)).all (λx=>!x.1) && (backToKw iE (keywordEach [] X.env)).all (λx=>x.1.isSome)
   && decide ((e::es).length+([]:List Keyword).length+(if ([]:List Keyword).isEmpty then 0 else 1)<30))=true) zp_0)
  (Nk:autoParam ((fE.endLine == iE.line)=true) zp_0) (hs:autoParam (starEach (e::es) X.env=(false,eval e X.env)::starEach es X.env) zp_0) (aby:autoParam ((backTo iE (starEach es X.env)).any (·.1)=false) zp_0):
  PE X (.Call (.Attribute o name fE) (e::es) [] iE) (tBM X.K T r to t):=by
 intro ah s σ H Q I h;refine wpAny_Call_method_late Nj anc Nk rfl (cQ (ho ah s σ H _ I h) λv s1 ⟨x,H1,I1,r1,ty,q1⟩=>?_)
 obtain⟨h1,h2⟩:=abx I1 r1 ty;refine⟨T,id,pa,slot,hty,h1,h2,?_⟩
 have hA:=ha iE ah s1 σ H1 _ I1 q1;rw[hs] at hA ⊢
 refine zcM (by show (false || (backTo iE (starEach es X.env)).any (·.1))=false;rw[aby]<;>rfl) (zcT ?_)
 exact cQ hA λus s2 ⟨vs,H2,I2,r2,q2⟩=>hm ah s2 σ H2 x vs v us Q I2 r1 r2 q2
end
noncomputable def MtM (X:Cx)(id:String)(r:V->List V->Hp->VK->Prop):Prop:=
 ∀(ah:List (Addr×Obj)) (s:Shared) (σ:St) (H:Hp) (x:V) (xs:List V) (v:Value) (us:List Value) (Q:VK),aK X ah σ H s->bI x v->bO xs us->r x xs H Q ->
  wpAny (model X.prog X.w) X.A (call (.builtin id) (v::us)) (EP X ah σ Q) X.xe s
theorem bO.MB:∀{x:V} {us:List Value},bO [x] us->∃u,us=[u]/\bI x u
 |_,_,.cons r .nil=>⟨_,rfl,r⟩
theorem bO.two:∀{x y:V} {us:List Value},bO [x,y] us->∃u v,us=[u,v]/\bI x u/\bI y v
 |_,_,_,.cons r (.cons q .nil)=>⟨_,_,rfl,r,q⟩
theorem aK.ahY {bw its':List Value}{n:Nat}{f:Array Value->Array Value}{t':Nat}(I:aK X ah σ H s)(hH:H l=some (.bS xs))
  (e:s.heap.get? l=some { cls:=.type "list",data:=.seq bw.toArray n}) (hf:f bw.toArray=its'.toArray) (hv:bO ys its') (hz:ys.length<=sizeLine):
  aK X ah σ (bG H l (.bS ys)) {s with heap:=s.heap.update l (Obj.mapSeq f),toks:=t' }:=by
 have q:=PySem.IsL.update e f;rw[hf] at q;refine I.jB (x:=l) (e:=l) (by rw[hH];exact trivial) (.inl rfl) (λb' u hb hu=>(zaD s.heap (Obj.mapSeq f) (zbg hb)).trans hu) ⟨_,q⟩ ?_
 exact⟨hz,its',_,hv,q⟩
theorem aK.anf (I:aK X ah σ H s)(hv:bO ys bw)(hz:ys.length<=sizeLine):
  aK X ah σ (bG H s.heap.objs.size (.bS ys)) { s with heap:=s.heap.push { cls:=.type "list",data:=.seq bw.toArray},toks:=t' }:=
 I.j_ (λ_ _ q=>zac _ q) (zah _) ⟨hz,bw,0,hv,zap _ rfl⟩
theorem aK.fresh (I:aK X ah σ H s):H s.heap.objs.size=none:=I.cF.fresh (zah _)
theorem aK.Kc (I:aK X ah σ H s)(hH:H l=some (.bS xs)):xs.length<=sizeLine/\∃(bw:List Value) (n:Nat),bO xs bw/\xs.length=bw.length/\s.heap.get? l=some { cls:=.type "list",data:=.seq bw.toArray n}:=by
 obtain⟨z,bw,n,r,e⟩:=I.cF l _ hH;exact⟨z,bw,n,r,r.length,e⟩
theorem Nl (h:n<=sizeLine):Builtin.List.listTooLong n=false:=by
 unfold Builtin.List.listTooLong;exact decide_eq_false (by omega)
noncomputable def TR:V->List V->Hp->VK->Prop:=λx vs H Q=>∃l xs y,x = .ref l/\vs=[y]/\H l=some (.bS xs)/\xs.length<sizeLine/\Q .bz (bG H l (.bS (xs++[y])))
theorem xV:MtM X "list.append" TR:=by
 intro ah s σ H x vs v us Q I rx rv h;obtain⟨l,xs,y,rfl,rfl,hH,hz,q⟩:=h;cases rx;obtain⟨u,rfl,ru⟩:=rv.MB;obtain⟨z,bw,n,r,hl,e⟩:=I.Kc hH;refine call_meets F.slot_list_append ⟨_,e,rfl⟩ F.entry_list_append (F.args_list_append_2 _ _) (PySem.list_append l bw.toArray n u (by rw[zao];omega)) ⟨e,?_⟩
 refine⟨.bz,_,I.ahY (its':=bw++[u]) hH e (by simp) (r.mO (.cons ru .nil)) ?_,rfl,q⟩
 rw[zaj,zbm];omega
noncomputable def TU:V->List V->Hp->VK->Prop:=λx vs H Q=>∃l b xs zs,x = .ref l/\vs=[.ref b]/\H l=some (.bS xs)/\H b=some (.bS zs)/\xs.length+zs.length<=sizeLine/\Q .bz (bG H l (.bS (xs++zs)))
theorem Kd:MtM X "list.extend" TU:=by
 intro ah s σ H x vs v us Q I rx rv h;obtain⟨l,b,xs,zs,rfl,rfl,hH,hB,hz,q⟩:=h;cases rx;obtain⟨u,rfl,ru⟩:=rv.MB;cases ru;obtain⟨z,bw,n,r,hl,e⟩:=I.Kc hH;obtain⟨z2,iO,n2,r2,HH,e2⟩:=I.Kc hB;have hsz:bw.toArray.size+iO.toArray.size<=sizeLine:=by rw[zao,zao];omega
 have ahZ:¬ (!bw.toArray.isEmpty && Builtin.List.listTooLong (bw.toArray.size+iO.toArray.size))=true:=by
  rw[Nl hsz,zed];exact zal
 refine call_meets F.slot_list_extend ⟨_,e,rfl⟩ F.entry_list_extend (F.args_list_extend_2 _ _)
  (AutoSeq1.list_extend_list_list_0 l bw.toArray n b iO.toArray n2 ahZ (by rw[zao];omega) (by omega)) ⟨e,e2,?_⟩
 refine⟨.bz,_,I.ahY (its':=bw++iO) hH e (by simp) (r.mO r2) ?_,rfl,q⟩
 rw[zaj];omega
noncomputable def ang:R2:=λx y H Q=>∃l b xs zs,x = .ref l/\y = .ref b/\H l=some (.bS xs)/\H b=some (.bS zs)/\xs.length+zs.length<=sizeLine/\∀p,H p=none->Q (.ref p) (bG H p (.bS (xs++zs)))
theorem Nm:kQ X (binaryOp .Add) ang:=by
 intro ah s σ H x y v u Q I rx ry h;obtain⟨l,b,xs,zs,rfl,rfl,hH,hB,hz,q⟩:=h;cases rx;cases ry;obtain⟨z,bw,n,r,hl,e⟩:=I.Kc hH;obtain⟨z2,iO,n2,r2,HH,e2⟩:=I.Kc hB;refine PySem.P.add_list e e2 ?_ (by rw[zao,zao];omega)
 have ea:bw.toArray++iO.toArray=(bw++iO).toArray:=by simp
 rw[ea];exact⟨.ref _,_,I.anf (t':=s.toks) (r.mO r2) (by rw[zaj];omega),rfl,q _ I.fresh⟩
end L2
namespace Att
open PySem PySem.W PySem.Calls PyProof.Rows
theorem su:∀(ns:List Int) (vs:List Value),WellAll P h vs (ns.map WData.int)->IntsAre vs ns:=by
 intro ns;induction ns with
 |nil =>
  intro vs w;rw[zbM] at w;cases w;exact .nil
 |cons n ns ih =>
  intro vs w;rw[zas] at w;cases w with
  |cons a b =>
   cases a;exact .cons _ _ (ih _ b)
theorem Ke {l:OpenLaw}{n:Nat}(hn:l.most=some n){P:Params}{h:Heap}{args:List WData}{abz:List Value}
  (TX:l.row.toRowW.claim.pre args=true) (hwl:WellAll P h abz args):
  ∃a vs ns,abz=[Value.ref a]/\args=[WData.list (ns.map WData.int)]/\h.get? a=some { cls:=.type "list",data:=.seq vs.toArray}/\IntsAre vs ns/\ns.length<=n:=by
 have hsh:WShape.hasAll [] args [.list .int]=true:=(pre_splitW TX).1
 have hc:l.pre.holds [] {args:=args}=true:=(pre_splitW TX).2
 obtain⟨d,r,rfl,h1,h2⟩:=hasAllW_cons hsh;obtain rfl:=hasAllW_nil h2
 obtain⟨xs,rfl,h3⟩:=hasW_list h1;obtain⟨ns,rfl⟩:=items_int h3;have dB:ns.length<=n:=by
  unfold OpenLaw.pre at hc;have h4:(WTm.not (.lt (.lit (.int (n:Int))) (.len (.arg 0)))).holds [] {args:=[.list (ns.map .int)]}=true:=by
   have h4:=(holds_andW hc).1
   rw[hn] at h4;exact h4
  have h5:=condW_of h4 (w_not (w_lt w_lit (w_len_list (w_arg rfl))))
  rw[zae] at h5;refine Nat.le_of_not_lt λq=>?_
  have q':(n:Int)<((ns.length:Nat):Int):=by omega
  first
   | (rw[decide_eq_true q'] at h5;exact absurd h5 (by decide))
   | (simp at h5;omega)
 cases hwl with
 |cons w1 w2 =>
  cases w2;cases w1 with
  |list ho Nb=>exact⟨_,_,ns,rfl,rfl,ho,su ns _ Nb,dB⟩
theorem Kf (l:OpenLaw)(args:List WData):l.row.toRowW.claim.post args (.bool true) args=true:=
 postW_of (r:=l.row.toRowW) (X:=(true == true))
  (show WShape.has [] (.bool true) .bool=true by first|rfl|decide|simp[WShape.has,WShape.arms,WShape.armsAll])
  (show (WTm.eq .res (.lit (.bool true))).value [] {args:=args,res:=some (.bool true),after:=args}=some (.bool (true == true)) from w_eq_bool (w_res rfl) w_lit) rfl
theorem BP {l:OpenLaw}{n:Nat}{q:Program}{xW:List Str}{XP:(Str->Option Value)->Heap->Prop}{YP:World->Heap->Prop}{d:DefRec}
  (hn:l.most=some n) (hdf:d.params.defaults=[])
  (call:∀(w:World) (s₀ cN:Shared) (mg mb:Str->Option Value) (fa:Addr) (o:Obj) (pm cd oY:Value) (a:Addr) (vs:List Value) (ns:List Int),
   Ground q xW [] XP w s₀ mg mb cN.heap->YP w cN.heap ->
   cN.heap.get? fa=some o->o.data = .func (docDef d.name d.params d.body d.scope pm cd oY)->cN.heap.CodeRec cd d.name->mg d.name=some (.ref fa) ->
   cN.heap.get? a=some { cls:=.type "list",data:=.seq vs.toArray}->IntsAre vs ns->ns.length<=n->cN.gens = #[] ->
   codeAny (model l.prog w) callerA (.call (.ref fa) ⟨[.ref a],[]⟩) (λr s'=>r = .ok (.ret (.bool true))/\OldK cN.heap s'.heap/\s'.os=cN.os/\AllBare s'.gens) cN):
  WalkO q xW XP YP l.row.toRowW d [] (λf vs=>PySem.call f vs):=by
 intro w s₀ cN mg mb G Y fa o pm cd oY dV kV ho hd BA hD hmg hg args abz as TX arI hrd hwl hlo;obtain rfl:dV = .none:=Dflts.none hD hdf
 obtain rfl:kV = .none:=Dflts.noKw hD
 obtain⟨a,vs,ns,rfl,rfl,abA,Nn,dB⟩:=Ke hn TX hwl;refine enter_call (zcl (call w s₀ cN mg mb fa o pm cd oY a vs ns G Y ho (fd_plain hd) BA hmg abA Nn dB hg) λr s' hq=>?_)
 obtain⟨rfl,h2,h3,h4⟩:=hq;exact⟨.inl ⟨.bool true,.bool true,[],rfl,λ_=>rfl,.bool true,Kf l _,λ_=>⟨List.Pairwise.nil,λ_ hm=>(nomatch hm)⟩⟩,h2,h3,h4⟩
section
variable {prog:Program}{w:World}{A:Around}{E:Value->Shared->Prop}{s:Shared}{K:Frag}
end
end Att
namespace L2
open PySem PySem.Spec PyProof.Rows
theorem xX:∀{vs:List Value} {ns:List Int},IntsAre vs ns->bO (ns.map V.int) vs
 |_,_,.nil=>.nil
 |_,_,.cons n t h=>.cons ⟨t,rfl⟩ (xX h)
noncomputable def aP (H:Hp):Prop:=∀b,H b=none\/∃o xs,H b=some (.sP o (.bS xs))
theorem Np {P:Program}{w:World}{K:PySem.W.Frag}{mg mb:Str->Option Value}{CX:BE}{k:Nat}{fa a:Addr}{fd:FuncData}{x:Str}{sp:Sp}{cN:Shared}{vs:List Value}{ns:List Int}
  (KX:K.In cN.heap) (Mv:cN.heap.Ns mainGlobals mg) (hb:cN.heap.Ns builtinsNs mb) (hbb:∀x:Str,x ≠ "__name__" -> mb x=bootBuiltins x) (anj:cN.heap.NoLimit) (hg:cN.gens = #[])
  (ha:cN.heap.get? a=some { cls:=.type "list",data:=.seq vs.toArray}) (hi:IntsAre vs ns) (hl:ns.length<=sizeLine) (hr:gJ k callerA)
  (F:∀base:Heap,K.In base->base.Ns mainGlobals mg->aO P w K mg base CX k fa fd [x] sp) (ah1:∀(s:Shared) (u:Value),BindsTo s fd ⟨[u],[]⟩ [(x,u)])
  (Mu:∀H:Hp,aP H->jC K H a (ns.map V.int)->sp [.ref a] H (λv _=>v = .bl true) λ_ _ _=>False)
  (hCX:∀H e s',CX [] H cN (λ_ _ _=>False) e s'->False):
  codeAny (model P w) callerA (.call (.ref fa) ⟨[.ref a],[]⟩) (λr s'=>r = .ok (.ret (.bool true))/\OldK cN.heap s'.heap/\s'.os=cN.os/\AllBare s'.gens) cN:=by
 have rv:=xX hi;have anl:=hi.length;-- from an abstract heap in ap8 alV but Es MD may be pI
 have Kg:∀H:Hp,aP H->jC K H a (ns.map V.int)->nH P w H cN.heap->(∀b,H b≠none->b=a)->(H a≠none->K.lookup a=none) ->
   codeAny (model P w) callerA (.call (.ref fa) ⟨[.ref a],[]⟩) (λr s'=>r = .ok (.ret (.bool true))/\OldK cN.heap s'.heap/\s'.os=cN.os/\AllBare s'.gens) cN:=by
  intro H hO hS cF hA hK;have HJ:∀{b:Addr} {o:Obj},cN.heap.get? b=some o->H b=none->(zV cN.heap H).get? b=some o:=λe n=>ME e n
  have noA:∀{b:Addr} {o:Obj} {es:Array DictEntry} {ep:Nat},cN.heap.get? b=some o->o.data = .dict es ep->H b=none:=λ{b o es ep} e d=>by
   cases q:H b with
   |none=>rfl
   |some u =>
    have e':b=a:=hA b (by rw[q];simp)
    subst e';rw[ha] at e;cases e
    have d':Data.seq vs.toArray _=Data.dict es ep:=d
    cases d'
  have nsK:∀{b:Addr} {m:Str->Option Value},cN.heap.Ns b m->(zV cN.heap H).Ns b m:=λ{b m} ⟨o,es,ep,e,d,r⟩=>⟨o,es,ep,HJ e (noA e d),d,r⟩
  have hKb:K.In (zV cN.heap H):=λb o e=>HJ (KX b o e) (by
   cases q:H b with
   |none=>rfl
   |some u =>
    have e':b=a:=hA b (by rw[q];simp)
    subst e';rw[hK (by rw[q];simp)] at e;cases e)
  have hM:Mod K mg (zV cN.heap H):=⟨hKb,nsK Mv,⟨mb,nsK hb,hbb⟩,let ⟨mc,h1,h2⟩:=anj;⟨mc,nsK h1,h2⟩⟩
  have e0:EJ P w K mg (zV cN.heap H) callerA [] cN H:=⟨rfl,hM,λb o e=>SD e,Nat.le_of_eq (JX _ _),trivial,λb hb=>absurd (show b∈([]:List Addr) from hb) (by simp),cF,.of_eq hg⟩
  refine zcl ((F _ hKb (nsK Mv)).jE callerA [] cN H ⟨[.ref a],[]⟩ [.ref a] [.ref a] _ _ hr e0 (ah1 cN (.ref a)) (.cons rfl .nil) (Mu H hO hS)) λr s' h=>?_
  cases r with
  |error e=>exact (hCX H e s' h).elim
  |ok fl =>
   cases fl with
   |next=>exact False.elim h
   |brk=>exact False.elim h
   |cont=>exact False.elim h
   |ret u =>
    obtain⟨v,H',os,iC,un,anm,r',q⟩:=h;have q':v = .bl true:=q
    subst q';obtain rfl:u=Value.bool true:=r'
    refine⟨rfl,OldK.of_keep λb o e=>?_,os,iC⟩
    cases q:H b with
    |none=>exact un.keep b o e q (by intro z;exact absurd (show b∈([]:List Addr) from z) (by simp)) (by simp)
    |some u =>
     rcases hO b with z|⟨ob,xs,z⟩
     ·rw[q] at z;cases z
     ·have z2:=un.sf b ob _ z
      obtain⟨e1,_⟩:=cF b _ z;obtain⟨e2,_⟩:=anm b _ z2;rw[e] at e1;cases e1
      exact e2
 cases hk:K.lookup a with
 |some o =>
  -- Es MD is MB of Es ah2 tM SR
  have e:=KX a o hk;rw[ha] at e;cases e;refine Kg (λ_=>none) (λ_=>.inl rfl) (.inr ⟨_,vs.toArray,_,hk,rfl,rfl,rfl,by rw[zao,anl];exact hl,by simpa using rv⟩) (λb u z=>by have z':(none:Option HO)=some u:=z;cases z') (λb z=>absurd rfl z) λz=>absurd rfl z
 |none =>
  refine Kg (λb=>if b=a then some (.sP { cls:=.type "list",data:=.seq vs.toArray} (.bS (ns.map V.int))) else none) (λb=>?_) (.inl (.inr ⟨{ cls:=.type "list",data:=.seq vs.toArray},if_pos rfl⟩)) (λb u z=>?_) (λb z=>?_) λ_=>hk
  ·by_cases hb:b=a
   ·exact .inr ⟨_,_,if_pos hb⟩
   ·exact .inl (if_neg hb)
  ·by_cases hb:b=a
   ·have z':=(if_pos hb).symm.trans z
    cases z';subst hb;exact⟨ha,by rw[zae];exact hl,vs,_,rv,ha⟩
   ·have z':=(if_neg hb).symm.trans z
    cases z'
  ·by_cases hb:b=a
   ·exact hb
   ·exact absurd (if_neg hb) z
theorem TY {l:PySem.W.OpenLaw}{n k:Nat}{q:Program}{xW:List Str}{XP:(Str->Option Value)->Heap->Prop}{YP:World->Heap->Prop}{d:DefRec}{K:Params->PySem.W.Frag}{CX:World->BE}{sp:World->Sp}{x:Str}
  (hn:l.most=some n) (Mq:n<=sizeLine) (hdf:d.params.defaults=[]) (hr:gJ k callerA)
  (hY:∀(w:World) (h:Heap),YP w h->(K w.params).In h)
  (F:∀(w:World) (mg:Str->Option Value) (fa:Addr) (h:Heap),(K w.params).In h->h.Ns mainGlobals mg->mg d.name=some (.ref fa) ->
   ∃fd:FuncData,(∀(s:Shared) (u:Value),BindsTo s fd ⟨[u],[]⟩ [(x,u)]) /\
    ∀base:Heap,(K w.params).In base->base.Ns mainGlobals mg->aO l.prog w (K w.params) mg base (CX w) k fa fd [x] (sp w))
  (Mu:∀(w:World) (H:Hp) (a:Addr) (ns:List Int),ns.length<=n->aP H->jC (K w.params) H a (ns.map V.int)->sp w [.ref a] H (λv _=>v = .bl true) λ_ _ _=>False)
  (hCX:∀(w:World) (H:Hp) (s:Shared) (e:Value) (s':Shared),CX w [] H s (λ_ _ _=>False) e s'->False):
  PySem.W.WalkO q xW XP YP l.row.toRowW d [] (λf vs=>PySem.call f vs):=by
 refine Att.BP hn hdf λw s₀ cN mg mb fa o pm cd oY a vs ns G Y ho hd BA hmg abA Nn dB hg=>?_
 have KX:=hY w _ Y;obtain⟨fd,hb,hF⟩:=F w mg fa _ KX G.T.g hmg;exact Np KX G.T.g G.T.b G.T.builtins G.T.nolimit hg abA Nn (zag dB Mq) hr hF hb (λH hO hS=>Mu w H a ns dB hO hS) λH e s'=>hCX w H cN e s'
noncomputable def aM (s:Stmt)(j:Nat):Stmt:=match s with
 |.ClassDef _ _ _ body _ _ _ _ _ _ _=>body.getD j (.Pass ⟨0,0,0,0⟩)
 |_=>.Pass ⟨0,0,0,0⟩
noncomputable def dJ (s:Stmt):Arguments:=match s with
 |.FunctionDef _ a _ _ _ _ _ _ _ _=>a
 |_=>{posonlyargs:=[],args:=[],vararg:=none,kwonlyargs:=[],kw_defaults:=[],kwarg:=none,defaults:=[]}
noncomputable def cI (s:Stmt):List Stmt:=match s with
 |.FunctionDef _ _ b _ _ _ _ _ _ _=>b
 |_=>[]
noncomputable def aj (s:Stmt):Scope:=match s with
 |.FunctionDef _ _ _ _ _ _ sc _ _ _=>sc
 |_=>{kind:=.function,names:=[],isGenerator:=false,isCoroutine:=false}
noncomputable abbrev eL:BE:=λ_ _ _ _ _ _=>False
noncomputable abbrev E0:XK:=λ_ _ _=>False
structure Nq (K:PySem.W.Frag) (x bX:Str) (st:Stmt) (f:Addr) (fd:FuncData):Prop where
 ex:∃(oc:Value) (od:Option Addr) (kV oY pm:Value) (an:Option Addr) (fB ct:Value) (Ei:Array (Option Value)),
  fd=PySem.W.fnOf x bX (dJ st) (cI st) (aj st) .none kV oY pm an fB ct/\K.lookup f=some ⟨oc,od,.func fd,Ei⟩/\PySem.W.codeIn K fB bX=true
 kp:PySem.W.keepIn K (.ref f)=true
section
variable {P:Program}{w:World}{K:PySem.W.Frag}{mg:Str->Option Value}{base:Heap}
theorem Nq.ok {x bX:Str}{st:Stmt}{f:Addr}{fd:FuncData}{N ps:List Str}{k:Nat}{sp:Sp}(F:Nq K x bX st f fd)(S:aq N ps (aj st))(len:∀vs H Q E,sp vs H Q E->vs.length=ps.length)
  (t6:∀(fB:Value) (A:Around) (outer:List Env) (s:Shared) (H:Hp) (vs:List V) (Q:VK) (E:XK),gJ k (A.deeper (envOfC bX (aj st) s.heap.objs.size f fB))->sp vs H Q E ->
   ∃t,xq (iN eL P w K mg base N bX (aj st) f fB A outer s H E).sS (cI st) t/\t {nx:=λ_ H'=>Q .bz H',rt:=Q} (dg N vs) H):aO P w K mg base eL (k+1) f fd ps sp:=by
 obtain⟨oc,od,kV,oY,pm,an,fB,ct,Ei,rfl,lk,BA⟩:=F.ex;refine M7 lk BA S len λA outer s H vs Q E hr Mu=>?_
 obtain⟨t,h,q⟩:=t6 fB A outer s H vs Q E hr Mu;exact⟨t,h.sS,q⟩
theorem Nq.rO {x bX:Str}{st:Stmt}{f:Addr}{fd:FuncData}{ps:List Str}(F:Nq K x bX st f fd)
  (h:∀(kV oY pm:Value) (an:Option Addr) (fB ct:Value) (us:List Value),us.length=ps.length->bindArgs (PySem.W.fnOf x bX (dJ st) (cI st) (aj st) .none kV oY pm an fB ct) ⟨us,[]⟩=pure (ps.zip us)):dQ K fd ps []:=by
 obtain⟨oc,od,kV,oY,pm,an,fB,ct,Ei,rfl,lk,BA⟩:=F.ex;exact .all (h kV oY pm an fB ct)
theorem Ai {x bX:Str}{st:Stmt}{f:Addr}{oc:Value}{od an:Option Addr}{Ei:Array (Option Value)}{kV oY pm fB ct:Value}(l:K.lookup f=some ⟨oc,od,.func (PySem.W.fnOf x bX (dJ st) (cI st) (aj st) .none kV oY pm an fB ct),Ei⟩)
  (c:PySem.W.codeIn K fB bX=true) (k:PySem.W.keepIn K (.ref f)=true):Nq K x bX st f (PySem.W.fnOf x bX (dJ st) (cI st) (aj st) .none kV oY pm an fB ct):=⟨⟨oc,od,kV,oY,pm,an,fB,ct,Ei,rfl,l,c⟩,k⟩
end
theorem pv (i:Nat)(hN:autoParam (X.N[i]? = some x) zp_0)(hv:autoParam (Vis X.env.scope x) zp_7)(hd:autoParam ((x == ("__debug__" : Str))=false) zp_1)
  (BA:autoParam ((x == ("__classdict__" : Str))=false) zp_1):PE X (.Name x pos) (ag6 i):=MI hN hv hd BA
theorem Kh:jD X (.builtin "len") (λxs H Q=>∃a aU,xs=[V.ref a]/\H a=some (.dK aU)/\Q (.int aU.length) H):=by
 intro ah s σ H xs us Q I r h;obtain⟨a,aU,rfl,ha,q⟩:=h;obtain⟨u,rfl,ru⟩:=tW r;cases ru;exact ahJ I (.inl ha) λt s' I'=>⟨.int aU.length,H,I',⟨t,rfl⟩,q⟩
theorem BQ {A B:Prop}(h:B):if false=true then A else B:=by
 rw[if_neg zal];exact h
theorem BR {A B:Prop}(h:A):if true=true then A else B:=by
 rw[if_pos rfl];exact h
section
variable {κ:Type}[DecidableEq κ]
end
noncomputable def pQ (env:Env):List (Str×NameKind)->List (Str×Addr)->List (Str×Addr)
 |[],cs=>cs
 | (n,k)::r,cs=>pQ env r (if (k == NameKind.free)=true then (match env.cells.lookup n with|some c=>(n,c)::cs|none=>cs) else cs)
theorem EV (h:∀p∈scope.names,p.2 = .free->∃c,env.cells.lookup p.1=some c):closureFor scope env=pure (pQ env scope.names []):=by
 have key:∀(l:List (Str×NameKind)) (cs:List (Str×Addr)),(∀p∈l,p.2 = .free->∃c,env.cells.lookup p.1=some c) ->
   (forIn l cs λ(x:Str×NameKind) (r:List (Str×Addr))=>match x with
    | (name,kind)=>if (kind == NameKind.free)=true then do let a <-cellOf env name;pure (ForInStep.yield ((name,a)::r)) else pure (ForInStep.yield r):Sem (List (Str×Addr)))=pure (pQ env l cs):=by
  intro l;induction l with
  |nil=>intro cs _;rfl
  |cons p r ih =>
   intro cs hl;obtain⟨n,k⟩:=p;rw[List.forIn_cons];have hr:=λcs=>ih cs λq hq=>hl q (zaE _ hq)
   show (_ >>= _)=pure (pQ env r (if (k == NameKind.free)=true then (match env.cells.lookup n with|some c=>(n,c)::cs|none=>cs) else cs))
   by_cases hk:(k == NameKind.free)=true
   ·obtain⟨c,hc⟩:=hl (n,k) zbn (by simpa using hk)
    dsimp only at hc ⊢
    rw[if_pos hk,if_pos hk,hc];have e:cellOf env n=pure c:=by unfold cellOf;rw[hc]
    rw[e,pure_bind,pure_bind];exact hr _
   ·dsimp only
    rw[if_neg hk,if_neg hk,pure_bind];exact hr _
 unfold closureFor;rw[show (pure (pQ env scope.names []):Sem (List (Str×Addr)))=(pure (pQ env scope.names []) >>= λr=>pure r) from (bind_pure _).symm,<-key scope.names [] h]
theorem mU:∀{l:List (Str×NameKind)} {cs:List (Str×Addr)},(pQ env l cs).lookup x=some c->cs.lookup x=some c\/env.cells.lookup x=some c
 |[],_,h=>.inl h
 | (n,k)::r,cs,h=>by
  rcases mU (l:=r) h with q|q
  ·by_cases hk:(k == NameKind.free)=true
   ·rw[if_pos hk] at q
    cases e:env.cells.lookup n with
    |none=>rw[e] at q;exact .inl q
    |some d =>
     rw[e] at q;dsimp only at q
     rw[zaP] at q;cases hx:x == n with
     |true =>
      rw[hx] at q;have:x=n:=by simpa using hx
      subst this;dsimp only at q
      rw[<-q];exact .inr e
     |false=>rw[hx] at q;exact .inl q
   ·rw[if_neg hk] at q;exact .inl q
  ·exact .inr q
theorem t_:∀{l:List (Str×NameKind)} {cs:List (Str×Addr)},((x,NameKind.free)∈l/\(∃c,env.cells.lookup x=some c))\/(∃c,cs.lookup x=some c)->∃c,(pQ env l cs).lookup x=some c
 |[],cs,h=>by
  rcases h with⟨h,_⟩|h
  ·exact absurd h (by simp)
  ·exact h
 | (n,k)::r,cs,h=>by
  refine t_ (l:=r) ?_
  rcases h with⟨h,hc⟩|h
  ·rcases zam.mp h with e|h
   ·have e1:x=n:=congrArg (·.1) e
    have e2:NameKind.free=k:=congrArg (·.2) e
    subst e1 e2;obtain⟨c,hc⟩:=hc;refine .inr ⟨c,?_⟩
    rw[if_pos (by decide),hc]
    simp[zaP]
   ·exact .inl ⟨h,hc⟩
  ·obtain⟨c,hc⟩:=h
   right
   by_cases hk:(k == NameKind.free)=true
   ·rw[if_pos hk]
    cases e:env.cells.lookup n with
    |none=>exact⟨c,hc⟩
    |some d =>
     dsimp only;rw[zaP];cases hx:x == n with
     |true=>exact⟨d,rfl⟩
     |false=>exact⟨c,hc⟩
   ·rw[if_neg hk];exact⟨c,hc⟩
theorem kZ {env:Env}:∀{names:List (Str×NameKind)} {k:NameKind},
  (names.map λ(p:Str×NameKind)=>match p with | (n,k)=>if (k == NameKind.free && env.scope.kind == .function && env.kindOf n == some .cell)=true then (n,NameKind.cell) else (n,k)).lookup x=some k ->
  ∃k',names.lookup x=some k'/\(k'=k\/(k' = .free/\k = .cell))
 |[],_,h=>by simp at h
 | (n,k0)::r,k,h=>by
  rw[zas] at h;by_cases hc:(k0 == NameKind.free && env.scope.kind == .function && env.kindOf n == some .cell)=true
  ·dsimp only at h
   rw[if_pos hc,zaP] at h;rw[zaP];cases hx:x == n with
   |true =>
    rw[hx] at h;have e:NameKind.cell=k:=zaw h
    have e0:k0 = .free:=by
     simp only[zbz,beq_iff_eq] at hc;exact hc.1.1
    exact⟨k0,rfl,.inr ⟨e0,e.symm⟩⟩
   |false=>rw[hx] at h;exact kZ (names:=r) h
  ·dsimp only at h
   rw[if_neg hc,zaP] at h;rw[zaP];cases hx:x == n with
   |true=>rw[hx] at h;exact⟨k0,rfl,.inl (zaw h)⟩
   |false=>rw[hx] at h;exact kZ (names:=r) h
theorem k8 {env:Env}:∀{names:List (Str×NameKind)},names.lookup x=some .free ->
  (names.map λ(p:Str×NameKind)=>match p with | (n,k)=>if (k == NameKind.free && env.scope.kind == .function && env.kindOf n == some .cell)=true then (n,NameKind.cell) else (n,k)).lookup x=some .cell \/
  (names.map λ(p:Str×NameKind)=>match p with | (n,k)=>if (k == NameKind.free && env.scope.kind == .function && env.kindOf n == some .cell)=true then (n,NameKind.cell) else (n,k)).lookup x=some .free
 |[],h=>by simp at h
 | (n,k0)::r,h=>by
  rw[zas];rw[zaP] at h;by_cases hc:(k0 == NameKind.free && env.scope.kind == .function && env.kindOf n == some .cell)=true
  ·dsimp only
   rw[if_pos hc,zaP];cases hx:x == n with
   |true=>exact .inl rfl
   |false=>rw[hx] at h;exact k8 (names:=r) h
  ·dsimp only
   rw[if_neg hc,zaP];cases hx:x == n with
   |true=>rw[hx] at h;exact .inr h
   |false=>rw[hx] at h;exact k8 (names:=r) h
theorem Aj (I:Nat->Shared->Prop)
  (MP:∀n s,I n s->wpAny (model prog w) A (pyNext it) (λr cN=>match r with
   |none=>R (.ok .next) cN
   |some v=>wpAny (model prog w) A (letOwnedTupleGo target it v) (λ_ Xa=>wpAny (model prog w) A (assign target env v) (λ_ mQ =>
     wpAny (model prog w) A (forIn sA true λc r=>if r=true then do let ok <-isTrue c env (eval c env);pure (ForInStep.yield ok) else pure (ForInStep.yield r)) (λok xu =>
      if ok=true then wpAny (model prog w) A (eval xx env) (λx ah3 =>
       wpAny (model prog w) A (call (.builtin "list.append") [bY,x]) (λ_ ah4=>∃m,m<n/\I m ah4) (notedBy (model prog w) A env λe s'=>R (.error e) s') ah3) (notedBy (model prog w) A env λe s'=>R (.error e) s') xu
      else ∃m,m<n/\I m xu) (notedBy (model prog w) A env λe s'=>R (.error e) s') mQ) (notedBy (model prog w) A env λe s'=>R (.error e) s') Xa) (notedBy (model prog w) A env λe s'=>R (.error e) s') cN) (notedBy (model prog w) A env λe s'=>R (.error e) s') s)
  (n:Nat) (h:I n s):
  codeAny (model prog w) A (.compLoop (.ListComp xx [⟨target,eO,sA,0⟩] scope pos) 0 it bY env) R s:=by
 refine codeAny_loop rfl I (λn s hI=>?_) n h
 show wpAny _ A ((compTurn (.ListComp xx [⟨target,eO,sA,0⟩] scope pos) 0 it bY env).onRaise (λx=>do noteFrame x env;theTreesLotGoes x)) _ _ s
 refine wpAny_noted ?_
 rw[compTurn_list];refine zaa (zcN (zaa (zaA (MP n s hI) (λr cN Tj=>?_) λ_ _ h'=>h')))
 cases r with
 |none=>exact zad Tj
 |some v =>
  refine zaa (zaA Tj (λ_ Xa ah5=>?_) λ_ _ h'=>h')
  refine zaa (zaA ah5 (λ_ mQ M9=>zaa (zaA M9 (λok xu Tn=>?_) λ_ _ h'=>h')) λ_ _ h'=>h')
  cases ok with
  |false=>exact zad ⟨rfl,Tn⟩
  |true =>
   exact zaa (zaa (zaA Tn (λx ah3 ano=>zaa (zaA ano (λ_ ah4 anp=>zad (zad ⟨rfl,anp⟩)) λ_ _ h'=>h')) λ_ _ h'=>h'))
noncomputable def rS (X:Cx)(N:List Str)(sc:Scope)(C:Addr)(fp:List Addr)(s:Shared)(H:Hp)(xe:Value->Shared->Prop):Cx:=
 {X with N:=N,s₀:= s,H₀:= H,env:=compEnvC sc (pQ X.env sc.names []) C X.env,outer:=X.cR,ex:=fp,fn:=λ_=>false,pn:=[],xe:=xe}
noncomputable def EW (X:Cx)(sA:List Expr)(t:TT):Prop:=
 ∀(ah:List (Addr×Obj)) (s:Shared) (σ:St) (H:Hp) (Q:Bool->Hp->Prop),aK X ah σ H s->t σ H Q ->
  wpAny (model X.prog X.w) X.A (forIn sA true λc r=>if r=true then do let ok <-isTrue c X.env (eval c X.env);pure (ForInStep.yield ok) else pure (ForInStep.yield r)) (TP X ah σ Q) X.xe s
noncomputable def ah6:TT:=λ_ H Q=>Q true H
theorem TZ:EW X [] ah6:=λah s σ H Q I h=>wpAny_tests_nil ⟨H,I,h⟩
theorem T4 (h:PT X c t):EW X [c] t:=λah s σ H Q I q=>wpAny_tests_one (h ah s σ H Q I q)
structure dO (X:Cx) (F T:List Str) (fr:List Nat) (sc:Scope):Prop where
 kind:sc.kind = .function
 Nr:∀y∈sc.names,y.2 ≠ .cell
 locals:∀y∈sc.names,y.2 = .local->sc.names.lookup y.1=some .local
 Nt:∀y∈sc.names,y.2 = .free->X.env.kindOf y.1=some .cell
 abC:∀x∈F,sc.names.lookup x=some .free
 eqs:fr.map (λj=>X.N[j]?)=F.map some
theorem dO.len (S:dO X F T fr sc):fr.length=F.length:=by
 have:=congrArg List.length S.eqs
 simpa using this
theorem dO.sr (S:dO X F T fr sc)(i:Nat)(x:Str)(h:F[i]? = some x):∃j,fr[i]? = some j/\X.N[j]? = some x:=by
 have e:=congrArg (λl=>l[i]?) S.eqs
 simp only[zat,h,zcy] at e;cases q:fr[i]? with
 |none=>rw[q] at e;cases e
 |some j=>rw[q] at e;exact⟨j,rfl,zaw e⟩
noncomputable def k9 (fr:List Nat)(T:List Str)(σ:St):St:=(fr.map λj=>(σ[j]?).join)++T.map λ_=>none
noncomputable def HK (wi:TI)(fr:List Nat)(T:List Str)(g:TG)(ti:TT)(te:TE):TE:=λσ H Q=>wi σ H λJ H1=>∀D,H1 D=none ->
  ∃W:Nat->Nat->St->List V->Hp->Prop,(∃m,W 0 m (k9 fr T σ) [] (bG H1 D (.bS [])))/\∀i m dX xs H',W i m dX xs H'->H' D=some (.bS xs) /\
    ((J.stop i H'/\Q (.ref D) H')\/(J.go i H'/\∃N:St->List V->Hp->Prop,(∀Bj ys H2,N Bj ys H2->∃m',m' < m/\W (i+1) m' Bj ys H2)/\∀x H2,J.yld i H' x H2->g x dX H2 λBj H3=>ti Bj H3 λb H4 =>
      if b=true then te Bj H4 λv H5=>H5 D=some (.bS xs)/\xs.length<sizeLine/\N Bj (xs++[v]) (bG H5 D (.bS (xs++[v]))) else N Bj xs H4))
theorem abD (S:dO X F T fr sc)(I:aK X ah σ H s)
  (Xb:∀b∈fp,qL X ah H b) (hfo:∀b∈fp,b<s.heap.objs.size):(rS X (F++T) sc s.heap.objs.size fp s H xe).Ok:=by
 have cl:∀x c,(pQ X.env sc.names []).lookup x=some c->X.env.cells.lookup x=some c:=λx c e=>(mU e).resolve_left (by simp)
 refine⟨I.ok.sR,?_,I.ok.tP,I.ok.W2,zah _,λx y c h1 h2=>I.ok.inj x y c (cl _ _ h1) (cl _ _ h2),λx hx=>?_,λ_ _ h=>?_,I.ok.hd,I.ok.frames,.inl rfl,λb hb=>⟨zar (hfo b hb),λx c e=>(Xb b hb).2.2.2.2.1 x c (cl _ _ e)⟩,I.bs,zag I.ok.Sh I.sz,λb o e hb=>?_,λb hb=>?_,I.cR,I.Hs⟩
 ·show (relabel sc X.env).kind=_
  exact S.kind
 ·have Xc:∃k,(relabel sc X.env).names.lookup x=some k/\(k = .cell\/k = .free):=by
   rcases hx with h|h
   ·exact⟨_,h,.inl rfl⟩
   ·exact⟨_,h,.inr rfl⟩
  obtain⟨k,hk,hkk⟩:=Xc;obtain⟨k',h1,h2⟩:=kZ (env:=X.env) hk
  have hf:k' = .free:=by
   rcases h2 with h2|h2
   ·rcases hkk with z|z
    ·exact absurd (by rw[h2,z]) (S.Nr _ (zaY h1))
    ·rw[h2,z]
   ·exact h2.1
  rw[hf] at h1;have hm:=zaY h1;refine t_ (.inl ⟨hm,?_⟩)
  exact I.ok.has x (.inl (S.Nt _ hm rfl))
 ·exact absurd h (by show ¬ (false=true);decide)
 ·rcases (Xb b hb).2.2.2.1 with z|z
  ·exact I.ok.iB b o e z
  ·exact absurd (zak (zan (I.ok.bs b o e).1) z) (zaK _)
 ·intro z
  rcases zam.mp (I.Eu b z) with q|q
  ·exact (Xb b hb).2.1 q
  ·exact (Xb b hb).2.2.1 q
theorem Nu (S:dO X F T fr sc)(I:aK X ah σ H s)
  (Xb:∀b∈fp,qL X ah H b) (hfo:∀b∈fp,b<s.heap.objs.size) (hn:h4.Ns s.heap.objs.size m) (k:∀b o,s.heap.get? b=some o->h4.get? b=some o):
  aK (rS X (F++T) sc s.heap.objs.size fp s H xe) [] (k9 fr T σ) H {s with heap:=h4,toks:=tk}:=by
 have cl:∀x c,(pQ X.env sc.names []).lookup x=some c->X.env.cells.lookup x=some c:=λx c e=>(mU e).resolve_left (by simp)
 refine⟨abD S I Xb hfo,rfl,I.iC,Un.iA k,⟨m,hn,λi x v h1 h2 h3=>?_⟩,λx c e=>?_,I.cF.fresh (zah _),λx c e=>I.kg x c (cl _ _ e),λp hp=>absurd (show p∈([]:List (Addr×Obj)) from hp) (by simp),I.cF.iA k,?_⟩
 ·have hi:i<fr.length:=by
   unfold k9 at h2;by_cases hi:i<fr.length
   ·exact hi
   ·rw[zaq (by simpa using hi),zat] at h2
    cases q:T[i - (fr.map λj=>(σ[j]?).join).length]? with
    |none=>rw[q] at h2;cases h2
    |some y=>rw[q] at h2;cases h2
  have hF:F[i]? = some x:=by
   have h1:(F++T)[i]? = some x:=h1
   rw[zai (by rw[<-S.len];exact hi)] at h1
   exact h1
  obtain⟨j,hj,hx⟩:=S.sr i x hF;have hv:σ[j]? = some (some v):=by
   unfold k9 at h2;rw[zai (by simpa using hi),zat,hj] at h2
   have h2:some (σ[j]?).join=some (some v):=h2
   have h2:=zaw h2;cases q:σ[j]? with
   |none=>rw[q] at h2;cases h2
   |some y=>rw[q] at h2;have h2:y=some v:=h2;rw[h2]
  have anr:x∈F:=zax hF
  have xM:=S.abC x anr;have BB:X.env.kindOf x=some .cell:=S.Nt _ (zaY xM) rfl
  obtain⟨m0,_,hl⟩:=I.Bh;obtain⟨u,ru,lk⟩:=hl j x v hx hv (.inr (.inl BB))
  refine⟨u,ru,.inr ⟨k8 (env:=X.env) xM,?_⟩⟩
  rcases lk with⟨z,_⟩|⟨_,c,hc,hic⟩
  ·rw[BB] at z;cases z
  ·obtain⟨c',SE⟩:=t_ (env:=X.env) (x:=x) (l:=sc.names) (cs:=[]) (.inl ⟨zaY xM,c,hc⟩)
   have e:c'=c:=by have:=cl _ _ SE;rw[hc] at this;exact (zaw this).symm
   subst e;obtain⟨o,ho,hd⟩:=hic;exact⟨c',SE,o,k _ _ ho,hd⟩
 ·obtain⟨v,o,ho,hd⟩:=I.cell x c (cl _ _ e)
  exact⟨v,o,k _ _ ho,hd⟩
 ·show (k9 fr T σ).length=(F++T).length
  unfold k9;rw[zaj,zaj,zae,zae,S.len]
theorem BS (S:dO X F T fr sc)(hc:X.e_=true)(hi:PI X target eO wi)
  (hg:∀C fp s H xe,PG (rS X (F++T) sc C fp s H xe) target g) (T5:∀C fp s H xe,EW (rS X (F++T) sc C fp s H xe) sA ti) (he:∀C fp s H xe,PE (rS X (F++T) sc C fp s H xe) xx te)
  (hs:∀x,foldedSetIterable eO X.env x=pure x) {ah:List (Addr×Obj)} {s:Shared} {σ:St} {H:Hp} {Q:VK} {use:Option (Value->Sem Unit)} {QQ:Value->Shared->Prop} (I:aK X ah σ H s) (h:HK wi fr T g ti te σ H Q)
  (fu:∀(D C:Addr) (fp:List Addr) (s3 s7:Shared) (H3 H6:Hp) (xe:Value->Shared->Prop) (MQ:St),aK X ah σ H3 s3->(∀b∈fp,qL X ah H3 b)->s3.heap.objs.size=C->aK (rS X (F++T) sc C fp s3 H3 xe) [] MQ H6 s7->Q (.ref D) H6->compPost (model X.prog X.w) X.A X.xe use QQ (.ref D) C (.ok .next) s7):
  wpAny (model X.prog X.w) X.A (comprehension (.ListComp xx [⟨target,eO,sA,0⟩] sc pos) sc X.env iE (newList []) false (eval eO X.env) use) QQ X.xe s:=by
 refine wpAny_comprehension_free rfl hs (EV λp hp hf=>?_) S.kind S.locals ?_
 ·exact I.ok.has p.1 (.inl (S.Nt p hp hf))
 refine cQ (hi ah s σ H _ I h) λv s1 h1=>cQ h1 λitv s2 h2=>?_
 obtain⟨it,fp,tn,J,H2,e,I2,T2,st2,f2,hD⟩:=h2;subst e;have hfo:∀b∈fp,b<s2.heap.objs.size:=λb hb=>by
  obtain⟨o,e,_⟩:=T2.kU _ _ st2 b hb;exact zan e
 -- Es new list
 refine zaS ?_
 have hDn:H2 s2.heap.objs.size=none:=I2.cF.fresh (zah _)
 obtain⟨W,⟨m0,w0⟩,MP⟩:=hD s2.heap.objs.size hDn
 have I3:aK X ah σ (bG H2 s2.heap.objs.size (.bS [])) { s2 with heap:=s2.heap.push { cls:=.type "list",dict:=none,data:=.seq ([]:List Value).toArray} }:=
  I2.j_ (t':=s2.toks) (λb u e=>zac _ e) (zah _) ⟨zcL _,[],0,.nil,zap _ rfl⟩
 generalize hs3:({ s2 with heap:=s2.heap.push { cls:=.type "list",dict:=none,data:=.seq ([]:List Value).toArray} }:Shared)=s3 at I3
 have ant:s3.heap.objs.size=s2.heap.objs.size+1:=by rw[<-hs3];exact zdj _ _
 have neD:∀b∈fp,b≠s2.heap.objs.size:=λb hb=>zar (hfo b hb)
 have f3:∀b∈fp,qL X ah (bG H2 s2.heap.objs.size (.bS [])) b:=λb hb=>⟨by rw[au (neD b hb)];exact (f2 b hb).1,(f2 b hb).2⟩
 have anu:∀b∈fp,b<s3.heap.objs.size:=λb hb=>by rw[ant];exact Nat.lt_succ_of_lt (hfo b hb)
 have st3:tn 0 s3.heap:=T2.keep _ _ _ st2 λb hb o e=>by rw[<-hs3];exact zac _ e
 generalize hDD:s2.heap.objs.size=D at *
 -- Es frame
 refine wpAny_newFunctionEnv S.Nr (by intro y hy;simp at hy) (λh4 hn4 anv=>?_) S.kind
 have T6:∀b o,s3.heap.get? b=some o->h4.get? b=some o:=λb o e=>anv.extBut b o (zar (zan e)) (zac _ e)
 generalize T7:s3.heap.objs.size=C at *
 let R:Result->Shared->Prop:=compPost (model X.prog X.w) X.A X.xe use QQ (.ref D) C
 let xe:Value->Shared->Prop:=notedBy (model X.prog X.w) X.A (compEnvC sc (pQ X.env sc.names []) C X.env) λe s'=>R (.error e) s'
 have I4:aK (rS X (F++T) sc C fp s3 (bG H2 D (.bS [])) xe) [] (k9 fr T σ) (bG H2 D (.bS [])) {s3 with heap:=h4,toks:=s3.toks+([]:List (Str×Value)).length}:=by
  subst T7;exact Nu S I3 f3 anu hn4 T6
 have st4:tn 0 h4:=T2.keep _ _ _ st3 λb hb o e=>T6 b o e
 have Ez:∀{H':Hp},(∀b∈fp,H' b=none)->∀b∈fp,qL (rS X (F++T) sc C fp s3 (bG H2 D (.bS [])) xe) [] H' b:=λ{H'} hn b hb=>by
  refine⟨hn b hb,?_,?_,.inl hb,λx c e=>?_,λp hp=>absurd (show p∈([]:List (Addr×Obj)) from hp) (by simp)⟩
  ·exact (I4.ok.exf b hb).1
  ·exact I4.ok.Et b hb
  ·exact (I4.ok.exf b hb).2 x c e
 have SA:∀s5:Shared,s5 = {s3 with heap:=h4,toks:=s3.toks+([]:List (Str×Value)).length} ->
   codeAny (model X.prog X.w) X.A (.compLoop (.ListComp xx [⟨target,eO,sA,0⟩] sc pos) 0 (.ref it) (.ref D) (compEnvC sc (pQ X.env sc.names []) C X.env)) R s5:=by
  rintro s5 rfl
  refine Aj (λn s'=>∃i dX xs H',aK (rS X (F++T) sc C fp s3 (bG H2 D (.bS [])) xe) [] dX H' s'/\tn i s'.heap/\(∀b∈fp,H' b=none)/\W i n dX xs H') ?_ m0 ⟨0,_,[],_,I4,st4,λb hb=>(f3 b hb).1,w0⟩
  rintro n s6 ⟨i,MQ,xs,H6,I6,st6,fr6,w6⟩
  obtain⟨hD6,tt⟩:=MP i n MQ xs H6 w6;rcases tt with⟨stop,qn⟩|⟨go,NN,hNN,Bv⟩
  ·refine cQ (T2.done (rS X (F++T) sc C fp s3 (bG H2 D (.bS [])) xe) rfl rfl rfl hc i [] s6 MQ H6 xe I6 (Ez fr6) st6 stop) λr s7 cA=>?_
   obtain⟨hr,I7⟩:=cA;subst hr;exact fu D C fp s3 s7 _ H6 xe MQ I3 f3 T7 I7 qn
  ·refine cQ (T2.item (rS X (F++T) sc C fp s3 (bG H2 D (.bS [])) xe) rfl rfl rfl hc i [] s6 MQ H6 xe I6 (Ez fr6) st6 go) λr s7 dR=>?_
   obtain⟨u,hr,h7⟩:=dR;subst hr;refine cQ h7 λ_ s8 fj=>?_
   obtain⟨x,H8,I8,r8,y8,st8,fr8⟩:=fj;have I8':=I8.MO (Ez fr8) (T2.kU _ _ st8)
   have ah7:∀{s9:Shared} {T8:St} {H9:Hp},aK (rS X (F++T) sc C fp s3 (bG H2 D (.bS [])) xe) ([]++tU fp s8.heap) T8 H9 s9->aK (rS X (F++T) sc C fp s3 (bG H2 D (.bS [])) xe) [] T8 H9 s9/\tn (i+1) s9.heap/\∀b∈fp,H9 b=none:=λ{s9 T8 H9} I9=>by
    refine⟨I9.pK,T2.keep _ _ _ st8 λb hb o e=>(I9.Bu (b,o) (zaG _ (zaG _ (kW hb e)))).1,λb hb=>?_⟩
    obtain⟨o,e,d⟩:=T2.kU _ _ st8 b hb;exact (I9.Bu (b,o) (zaG _ (zaG _ (kW hb e)))).2.1
   refine cQ (hg C fp s3 _ xe _ s8 MQ H8 x u _ I8' r8 (Bv x H8 y8)) λ_ s9 je=>?_
   obtain⟨T8,H9,I9,q9⟩:=je;refine cQ (T5 C fp s3 _ xe _ s9 T8 H9 _ I9 q9) λok s10 jf=>?_
   obtain⟨H10,I10,q10⟩:=jf;cases ok with
   |false =>
    rw[if_neg zal] at q10 ⊢
    obtain⟨m',hm,w'⟩:=hNN _ _ _ q10;obtain⟨b1,b2,b3⟩:=ah7 I10;exact⟨m',hm,i+1,T8,xs,H10,b1,b2,b3,w'⟩
   |true =>
    rw[if_pos rfl] at q10 ⊢
    refine cQ (he C fp s3 _ xe _ s10 T8 H10 _ I10 q10) λgp s11 ku=>?_
    obtain⟨v11,H11,I11,r11,anA,hz,q11⟩:=ku;obtain⟨m',hm,w'⟩:=hNN _ _ _ q11;refine cQ (xV _ s11 T8 H11 (.ref D) [v11] (.ref D) [gp] (λ_ H'=>H'=bG H11 D (.bS (xs++[v11]))) I11 rfl (.cons r11 .nil) ⟨D,xs,v11,rfl,rfl,anA,hz,rfl⟩) λ_ s12 kC=>?_
    obtain⟨_,H12,I12,_,e12⟩:=kC;subst e12;obtain⟨b1,b2,b3⟩:=ah7 I12;exact⟨m',hm,i+1,T8,_,_,b1,b2,b3,w'⟩
 have st5:codeAny (model X.prog X.w) X.A (.compStart (.ListComp xx [⟨target,eO,sA,0⟩] sc pos) 0 (.ref it) (.ref D) (compEnvC sc (pQ X.env sc.names []) C X.env)) R {s3 with heap:=h4,toks:=s3.toks+([]:List (Str×Value)).length}:=
  codeAny_compStart_list (SA _ rfl) (T2.self _ 0 _ _ _ st4 (SA _ rfl))
 subst hs3;exact st5
theorem T9 (S:dO X F T fr sc)(hc:X.e_=true)(hi:PI X target eO wi)
  (hg:∀C fp s H xe,PG (rS X (F++T) sc C fp s H xe) target g) (T5:∀C fp s H xe,EW (rS X (F++T) sc C fp s H xe) sA ti) (he:∀C fp s H xe,PE (rS X (F++T) sc C fp s H xe) xx te)
  (hs:autoParam (∀x,foldedSetIterable eO X.env x=pure x) zp_3):PE X (.ListComp xx [⟨target,eO,sA,0⟩] sc pos) (HK wi fr T g ti te):=by
 intro ah s σ H Q I h;rw[eval_ListComp];refine BS S hc hi hg T5 he hs I h λD C fp s3 s7 H3 H6 xe MQ I3 f3 T7 I7 qn=>?_
 obtain⟨m7,hn7,_⟩:=I7.Bh;refine⟨m7,hn7,λh8 Xd=>⟨.ref D,H6,?_,rfl,qn⟩⟩
 have hCn:H6 C=none:=I7.free
 have un8:Un (sQ X.cR) fp (H3) H6 s3.heap h8:=by
  have u7:Un (sQ X.cR) fp (H3) H6 s3.heap s7.heap:=I7.base
  have nC:∀b o,s3.heap.get? b=some o->b≠C:=λb o e=>by rw[<-T7];exact zar (zan e)
  refine⟨λb o e n hb hx=>(Xd.2 b (nC b o e)).trans (u7.keep b o e n hb hx),λb o e n hb hx=>?_,u7.free,λb o e hx=>?_,u7.tN,u7.sf,u7.tO⟩
  ·obtain⟨sl,q⟩:=u7.slot b o e n hb hx
   exact⟨sl,(Xd.2 b (nC b o e)).trans q⟩
  ·obtain⟨o',q⟩:=u7.there b o e hx
   exact⟨o',(Xd.2 b (nC b o e)).trans q⟩
 have anC:nH X.prog X.w H6 h8:=λb ob e=>by
  refine (I7.cF b ob e).qK (λc w' hc q=>(Xd.2 c ?_).trans q) (λ_ q=>q) λ_ _ q=>q
  rintro rfl
  rcases hc with rfl|hc
  ·rw[hCn] at e;cases e
  ·rw[hCn] at hc;cases hc
 refine I3.Bx (s':={s7 with heap:=h8}) (H':=H6) (ch:=fp) I7.os un8 anC I7.iC λb hb=>?_
 obtain⟨_,q1,_,q2,q3,q4⟩:=f3 b hb;exact⟨q2,q1,q3,q4⟩
noncomputable def anD:V->Option Int->Option Int->Hp->VK->Prop:=λx lo hi H Q=>∃z,x = .str z/\z.length<=sizeLine/\Q (.str (Txt.slice z lo hi)) H
theorem abE:SlR X anD:=by
 intro ah s σ H x v vl vu lo hi sl Q I rx hs pl pu h;obtain⟨z,rfl,hz,q⟩:=h;obtain⟨t,rfl⟩:=(show ∃t,v=Value.str z t from rx)
 refine⟨"str",_,F.slot_str_getitem.lookup,typeIs_str _ _ _,?_⟩
 have key:∀(l u:Option (Int×Tok)),s.heap.IsSlice sl l u none->l.map (·.1)=lo->u.map (·.1)=hi->wpAny (model X.prog X.w) X.A (getItem (.str z t) (.ref sl)) (EP X ah σ Q) X.xe s:=by
  intro l u hsl e1 e2;subst e1 e2;exact wpAny_getItem_str_slice (st:=none) hsl rfl (post_val_or_str ⟨zag (Txt.slice_le z _ _) hz,λt' k=>⟨.str (Txt.slice z (l.map (·.1)) (u.map (·.1))),H,I.oJ k,⟨t',rfl⟩,q⟩⟩)
 cases pl with
 |none=>cases pu with
  |none=>exact key none none hs rfl rfl
  |int j t'=>exact key none (some (j,t')) hs rfl rfl
 |int i ti=>cases pu with
  |none=>exact key (some (i,ti)) none hs rfl rfl
  |int j t'=>exact key (some (i,ti)) (some (j,t')) hs rfl rfl
noncomputable def ua (z:Str)(n:Nat):Str:=⟨(List.replicate n z.cps).foldl (·++·) #[]⟩
noncomputable def ah8:R2:=λx y H Q=>∃z n,x = .str z/\y = .int n/\0<=n/\n<1000000/\z.length * n.toNat<=1000000/\Q (.str (ua z n.toNat)) H
theorem Nv (z:Str):ua z 1=z:=by
 obtain⟨c⟩:=z;simp[ua]
theorem xy (h:z.length=0)(n:Nat):ua z n=z:=by
 obtain⟨c⟩:=z;have e:c = #[]:=by simpa[Str.length] using h
 subst e;unfold ua;congr 1
 induction n with
 |zero=>rfl
 |succ n ih=>rw[zbw,zbv];simpa using ih
theorem EX:kQ X (binaryOp .Mult) ah8:=by
 intro ah s σ H x y v u Q I rx ry h;obtain⟨z,n,rfl,rfl,h0,h1,h2,q⟩:=h;obtain⟨t,rfl⟩:=(show ∃t,v=Value.str z t from rx)
 obtain⟨t',rfl⟩:=(show ∃t,u=Value.int n t from ry)
 have hz:z.length * n.toNat<=sizeLine:=zag h2 (by decide)
 refine P.mul_str (by
  have e1:¬ n < -(2 ^ 63:Int):=by omega
  have e2:¬ n ≥ 2 ^ 63:=by omega
  rw[decide_eq_false e1,decide_eq_false e2];rfl) (λhn _ hc=>?_) (λ_ _=>?_) ?_
 ·have anE:0<n:=by omega
  have e3:(z.length:Int) * n<=1000000:=by
   have:((z.length * n.toNat:Nat):Int)<=((1000000:Nat):Int):=Int.ofNat_le.mpr h2
   rw[Int.natCast_mul,Int.toNat_of_nonneg h0] at this;exact this
  have e4:(z.length:Int)<=(2 ^ 63 - 1) / n:=by
   rw[Int.le_ediv_iff_mul_le anE];omega
  omega
 ·unfold Builtin.Str.tooLong
  exact decide_eq_false (by omega)
 ·by_cases hn:n<1
  ·rw[if_pos hn]
   have e:n=0:=by omega
   subst e;exact⟨by decide,⟨.str _,H,I.oJ _,⟨_,rfl⟩,q⟩⟩
  ·rw[if_neg hn]
   by_cases hc:(n == 1 || z.length == 0)=true
   ·rw[if_pos hc]
    have e:ua z n.toNat=z:=by
     rcases zcV _ _ ▸ hc with e|e
     ·have e:n=1:=by simpa using e
      subst e;exact Nv z
     ·exact xy (by simpa using e) _
    rw[e] at q;exact⟨.str z,H,I,⟨t,rfl⟩,q⟩
   ·rw[if_neg hc]
    refine⟨?_,⟨.str _,H,I.oJ _,⟨_,rfl⟩,q⟩⟩
    have:∀(k:Nat) (a:Array Nat),((List.replicate k z.cps).foldl (·++·) a).size=a.size+k * z.cps.size:=by
     intro k;induction k with
     |zero=>intro a;simp
     |succ k ih=>intro a;rw[zbw,zbv,ih,Array.size_append,Nat.succ_mul];omega
    show ((List.replicate n.toNat z.cps).foldl (·++·) #[]).size<=sizeLine
    rw[this];have e5:z.cps.size=z.length:=rfl
    rw[e5];simp only[zao,zaI,zbW];rw[Nat.mul_comm];exact hz
noncomputable def lW:List Value:=[.type "ValueError",.type "Exception",.type "BaseException",.type "object"]
theorem Ak:lW.contains (.type "ValueError")=true:=by decide +kernel
noncomputable def k_ (C:Addr)(od:Option Addr)(t:Addr):Obj:={cls:=.ref C,dict:=od,data:=.fields #[.ref t,.none,.none,.none,.bool false,.none]}
noncomputable def EO (a C:Addr)(od:Option Addr):HO:=.ext λh=>∃t:Addr,h.get? a=some (k_ C od t)
noncomputable def ED (d:Addr)(fs:List (Str×V)):HO:=.ext λh=>∃mA,h.Ns1 d mA/\(∀f,iW (fs.lookup f) (mA f))/\PySem.Within mA (fs.map (·.1))
theorem Nx (e:h.get? a=some (k_ C od t)):cP P w H h a (EO a C od):=
 ⟨⟨t,e⟩,⟨_,e⟩,λh1 h2 cA k=>by obtain⟨t,q⟩:=cA;exact⟨t,k _ q⟩⟩
theorem Ny (e:h.Ns1 d mA)(r:∀f,iW (fs.lookup f) (mA f))(wi:PySem.Within mA (fs.map (·.1))):cP P w H h d (ED d fs):=
 ⟨⟨mA,e,r,wi⟩,(let ⟨o,_,_,e',_⟩:=e;⟨o,e'⟩),λh1 h2 dR k=>by obtain⟨mA,q,r,wi⟩:=dR;exact⟨mA,q.at λo z=>k o z,r,wi⟩⟩
section
variable {prog:Program}{w:World}{A:Around}{E:Value->Shared->Prop}{h:Heap}{g:Array GenState}{d:Drawn}{t:Nat}{os:OsState}{K:PySem.W.Frag}
variable {nm q:Str}{C N:Addr}{bs bm:List Value}{sD:Bool}{sn:List Str}{sub:List Value}{ab:Bool}{qQ:Option Bool}{dd:Option Addr}{k0 k1 k2 k3 k5:Option Value}
theorem sE (X:K.In h)(T:OwnTail h lW bm){dz:List Value} 
  (hC:h.get? C=some (excClassObj nm q C N bs bm sD sn sub ab qQ dd k0 k1 k2 k3 k5 "ValueError.__new__"))
  (hi:PySem.W.findIn K (.ref C) "__init__"=some (some (.ref fI))) (hf:PySem.W.typeIn K (.ref fI)=some (.type "function"))
  (hq:wpAny (model prog w) A (call (.ref fI) (.ref (h.objs.size+1)::dz)) (λr s'=>r = .none/\Q (.done (.ret (.ref (h.objs.size+1)))) s') E
   ⟨(h.push { cls:=.type "tuple",data:=.seq dz.toArray}).push (k_ C none h.objs.size),g,d,t,os⟩) (hrest:dz.length<=sizeLine):
  wpAny (model prog w) A (Builtin.«type.__call__» ⟨.ref C::dz,[]⟩) Q E ⟨h,g,d,t,os⟩:=by
 have F:ExcBaseFacts "ValueError" "ValueError.__new__" "ValueError.__init__" lW:=F.excBase_ValueError
 repeat (first|with_reducible refine zbE hC ?_|with_reducible refine wpAny_madeBy_exc hC ?_|wp_step)
 refine codeAny_call_builtin_code (Code.quiet_builtin _ F.quiet) (wpAny_check_new_subU F Ak T hC ?_)
 refine codeAny_exc_new_subU F Ak F T hC ?_ hrest
 show wpAny _ _ _ _ _ _
 have up:∀b o,h.get? b=some o->((h.push { cls:=.type "tuple",data:=.seq dz.toArray}).push {cls:=.ref C,data:=.fields #[.ref h.objs.size,.none,.none,.none,.bool false,.none]}).get? b=some o:=
  λb o e=>zac _ (zac _ e)
 have ah9:=up _ _ hC;have aia:K.In _:=X.keeps up
 have anF:((h.push { cls:=.type "tuple",data:=.seq dz.toArray}).push
   {cls:=.ref C,data:=.fields #[.ref h.objs.size,.none,.none,.none,.bool false,.none]}).get? (h.objs.size+1)=some
   {cls:=.ref C,data:=.fields #[.ref h.objs.size,.none,.none,.none,.bool false,.none]}:=by heap_get
 have hcC:(Value.ref C::bm).contains (.ref C)=true:=by simp
 unfold isInstance;repeat (first|with_reducible refine zbE anF ?_ | (with_reducible refine zcv ah9 ?_;rw[hcC])|wp_step)
 show wpAny _ _ (typeLookup (.ref C) _) _ _ _
 refine (zbQ aia hi).here ?_
 refine zbr (zaa ?_)
 unfold bindSpecial;refine zaa ((PySem.W.looks_typeIn aia hf).here ?_)
 rw[if_pos (by decide)]
 refine zad (zaa (zaA hq (λr s' hr=>?_) λ_ _ x=>x))
 obtain⟨rfl,hQ⟩:=hr;wp_walk
 exact hQ
theorem EY (X:K.In h)(T:OwnTail h lW bm){dz:List Value} 
  (hC:h.get? C=some (excClassObj nm q C N bs bm sD sn sub ab qQ dd k0 k1 k2 k3 k5 "ValueError.__new__"))
  (hi:PySem.W.findIn K (.ref C) "__init__"=some (some (.ref fI))) (hf:PySem.W.typeIn K (.ref fI)=some (.type "function"))
  (hq:wpAny (model prog w) (A.under (.builtin "type.__call__" ⟨.ref C::dz,[]⟩)) (call (.ref fI) (.ref (h.objs.size+1)::dz)) (λr s'=>r = .none/\Q (.ref (h.objs.size+1)) s') E
   ⟨(h.push { cls:=.type "tuple",data:=.seq dz.toArray}).push (k_ C none h.objs.size),g,d,t,os⟩) (hrest:dz.length<=sizeLine):
  wpAny (model prog w) A (call (.ref C) dz) Q E ⟨h,g,d,t,os⟩:=by
 have f1:=tc_lookup;have f2:=tc_bind (.ref C)
 have hT:(⟨h,g,d,t,os⟩:Shared).TypeIs (.ref C) "type" := ⟨_,hC,rfl⟩
 refine zcd (codeAny_of_tree ?_)
 show wpAny _ _ (callAny (.ref C) _) _ _ _
 repeat (any_goals (first|assumption|with_reducible refine zbE hC ?_|wp_step))
 refine⟨rfl,?_⟩
 exact codeAny_call_builtin_at (Code.quiet_builtin _ (by decide +kernel)) entry_typeCall (wpAny_check_type_call_sub hC (sE (hrest:=hrest) X T hC hi hf hq))
end
structure iY (K:PySem.W.Frag) (C f:Addr) (bm:List Value):Prop where
 kU:∃nm q N bs sn sub ab qQ dd k0 k1 k2 k3 k5,K.lookup C=some (excClassObj nm q C N bs bm true sn sub ab qQ dd k0 k1 k2 k3 k5 "ValueError.__new__")
 tail:PySem.W.tailIn K lW bm=true
 init:PySem.W.findIn K (.ref C) "__init__"=some (some (.ref f))
 fn:PySem.W.typeIn K (.ref f)=some (.type "function")
 kp:PySem.W.keepIn K (.ref C)=true
 sa:PySem.W.findIn K (.ref C) "__setattr__"=some (some (.builtin "object.__setattr__"))
 ga:PySem.W.findIn K (.ref C) "__getattribute__"=some (some (.builtin "BaseException.__getattribute__"))
 gg:PySem.W.findIn K (.ref C) "__getattr__"=some none
 kc:PySem.W.findIn K (.ref C) "__class__"=some (some (.builtin "object.__class__"))
 nb:∃B,bm = .ref B::lW
theorem BU (h:H a=some o):bG H a o=H:=by
 funext b
 unfold bG;split
 ·rename_i e;rw[e,h]
 ·rfl
section
variable {X:Cx}{CX:BE}{k:Nat}{f C:Addr}{bm:List Value}{fd:FuncData}{ps:List Str}{sp:Sp}{mS:List V}{ds:List Value}{E:XK}{x m:Str}{p pos fE:Pos}{e o:Expr}{es:List Expr}{ta:TE}{t:TA}
noncomputable def anG (C:Addr)(sp:Sp)(mS:List V)(E:XK)(t:TA):TE:=λσ H Q=>t σ H λvs H1=>vs.length<=1000/\∀x,H1 x=none ->
 sp (.ref x::(vs++mS)) (bG H1 x (EO x C none)) (λv H2=>v = .bz/\Q (.ref x) H2) E
theorem T_ (M:iY X.K C f bm)(F:aO X.prog X.w X.K X.mg X.base CX k f fd ps sp)(hr:gJ (k+1) X.A)(hb:dQ X.K fd ps ds)(hd:bO mS ds)
  (hx:fH CX X E) (I:aK X ah σ H s) (r:bO vs us) (hz:vs.length<=1000)
  (h:∀x,H x=none->sp (.ref x::(vs++mS)) (bG H x (EO x C none)) (λv H2=>v = .bz/\Q (.ref x) H2) E):
  wpAny (model X.prog X.w) X.A (call (.ref C) us) (EP X ah σ Q) X.xe s:=by
 obtain⟨nm,q,N,bs,sn,sub,ab,qQ,dd,k0,k1,k2,k3,k5,lk⟩:=M.kU;have KX:=I.nI;have hq:=h (s.heap.objs.size+1) (I.cF.fresh (zbf _))
 have hsz:us.length<=sizeLine:=by
  rw[<-r.length];exact zag hz (by decide)
 have e2:((s.heap.push { cls:=.type "tuple",data:=.seq us.toArray}).push (k_ C none s.heap.objs.size)).get? (s.heap.objs.size+1)=some (k_ C none s.heap.objs.size):=by
  have:=zap (s.heap.push { cls:=.type "tuple",data:=.seq us.toArray}) (o:=k_ C none s.heap.objs.size) rfl
  rwa[zdj] at this
 have up:∀b o,s.heap.get? b=some o->((s.heap.push { cls:=.type "tuple",data:=.seq us.toArray}).push (k_ C none s.heap.objs.size)).get? b=some o:=λb o e=>zac _ (zac _ e)
 have I2:aK X ah σ (bG H (s.heap.objs.size+1) (EO (s.heap.objs.size+1) C none)) { s with heap:=(s.heap.push { cls:=.type "tuple",data:=.seq us.toArray}).push (k_ C none s.heap.objs.size)}:=
  I.j_ (t':=s.toks) up (zbf _) (Nx e2)
 have r2:bO (V.ref (s.heap.objs.size+1)::(vs++mS)) (Value.ref (s.heap.objs.size+1)::(us++ds)):=.cons rfl (r.mO hd)
 have hl:(Value.ref (s.heap.objs.size+1)::us++ds).length=ps.length:=by
  have e:=r2.length;rw[F.len _ _ _ _ hq] at e;exact e.symm
 have fu:wpAny (model X.prog X.w) (X.A.under (.builtin "type.__call__" ⟨.ref C::us,[]⟩)) (call (.ref f) (.ref (s.heap.objs.size+1)::us)) (λr s'=>r = .none/\EP X ah σ Q (.ref (s.heap.objs.size+1)) s') X.xe
   { s with heap:=(s.heap.push { cls:=.type "tuple",data:=.seq us.toArray}).push (k_ C none s.heap.objs.size)}:=by
  refine zcd (zcl (F.jE _ X.cR _ _ ⟨Value.ref (s.heap.objs.size+1)::us,[]⟩ (Value.ref (s.heap.objs.size+1)::(us++ds)) _ _ E (hr.MZ C us [])
   (I2.xr.MZ C us []) (hb _ (Value.ref (s.heap.objs.size+1)::us) I2.nI hl) r2 hq) λr s' M6=>?_)
  cases r with
  |error e=>exact hx ah σ _ _ e s' I2 M6
  |ok fl =>
   cases fl with
   |ret u =>
    obtain⟨v,H',I3,rv,ev,q3⟩:=I2.after M6;subst ev;exact⟨rv,⟨V.ref (s.heap.objs.size+1),H',I3,rfl,q3⟩⟩
   |next=>exact False.elim M6
   |brk=>exact False.elim M6
   |cont=>exact False.elim M6
 exact EY (g:=s.gens) (d:=s.drawn) (t:=s.toks) (os:=s.os) KX (zeD KX M.tail) (KX _ _ lk) M.init M.fn fu hsz
theorem abF (M:iY X.K C f bm)(F:aO X.prog X.w X.K X.mg X.base CX k f fd ps sp)(hr:gJ (k+1) X.A)(hg:Gl X x)(hm:X.mg x=some (.ref C))(hb:dQ X.K fd ps ds)(hd:bO mS ds)(hx:fH CX X E)
  (ha:PA X (e::es) t) (tZ:autoParam ((x == ("__debug__" : Str))=false) zp_1) (he:autoParam (starEach (e::es) X.env=(false,eval e X.env)::starEach es X.env) zp_0) (hpl:autoParam ((backTo pos (starEach es X.env)).any (·.1)=false) zp_0):
  PE X (.Call (.Name x p) (e::es) [] pos) (anG C sp mS E t):=by
 intro ah s σ H Q I h;refine zce (nJ I hg hm ?_ tZ)
 refine zcB (h₀:= X.base) I.ok.sR.W0 M.kp (cQ (ha pos ah s σ H _ I h) λus s1 ⟨vs,H1,I1,r,hz,q⟩=>⟨I1.nI,?_⟩) he hpl
 exact T_ M F hr hb hd hx I1 r hz q
structure Xe (K:PySem.W.Frag) (B:Addr):Prop where
 sp:PySem.W.specialIn K (.ref B) "__getattribute__"=some (some (.builtin "type.__getattribute__"))
 rd:PySem.W.readsIn K B (.type "type")=true
 fc:PySem.W.findCls K (.ref B) (.type "type") "__init__"=some (.val (.builtin "ValueError.__init__"))
noncomputable def abG (K:PySem.W.Frag)(t:TA):TE:=λσ H Q=>t σ H λvs H1=>∃a C f bm od y,vs=[.ref a,y]/\H1 a=some (EO a C od)/\iY K C f bm/\Q .bz H1
theorem NC (M:iY X.K C f bm)(I:aK X ah σ H s)(hH:H a=some (EO a C od))(q:Q .bz H):
  wpAny (model X.prog X.w) X.A (call (.builtin "ValueError.__init__") [.ref a,u]) (EP X ah σ Q) X.xe s:=by
 obtain⟨nm,q',N,bs,sn,sub,ab,qQ,dd,k0,k1,k2,k3,k5,lk⟩:=M.kU;have KX:=I.nI;have F:ExcBaseFacts "ValueError" "ValueError.__new__" "ValueError.__init__" lW:=F.excBase_ValueError
 obtain⟨⟨t0,ha⟩,_,_⟩:=(show cP X.prog X.w H s.heap a (EO a C od) from I.cF a _ hH)
 have hC:=KX _ _ lk;have T:=zeD KX M.tail;obtain⟨h,g,d,tk,os⟩:=s;refine zcd (zcW F.init.plain F.initEntry (wpAny_check_init_subU F T hC ha rfl ?_))
 have Ua:h.get? a=some {cls:=.ref C,dict:=od,data:=.fields #[.ref t0,.none,.none,.none,.bool false,.none]}:=ha
 wp_walk
 have up:∀b o,h.get? b=some o->(h.push { cls:=.type "tuple",data:=.seq #[u]}).get? b=some o:=λb o e=>zac _ e
 have I1:aK X ah σ H ⟨h.push { cls:=.type "tuple",data:=.seq #[u]},g,d,tk,os⟩:=I.iA (t':=tk) up
 have e1:((h.push { cls:=.type "tuple",data:=.seq #[u]}).update a (Obj.mapFields λx=>x.setIfInBounds 0 (Value.ref h.objs.size))).get? a=some (k_ C od h.objs.size):=by
  rw[zaR _ (up _ _ Ua) rfl];rfl
 have I2:=I1.jB (x:=a) (e:=a) (o:=EO a C od) (t':=tk) (h':=(h.push { cls:=.type "tuple",data:=.seq #[u]}).update a (Obj.mapFields λx=>x.setIfInBounds 0 (Value.ref h.objs.size)))
  (by rw[hH];exact True.intro) (.inl rfl) (λb z hb e=>(zaD _ _ (zbg hb)).trans e) ⟨_,e1⟩ (Nx e1)
 rw[BU hH] at I2;exact⟨.bz,H,I2,rfl,q⟩
theorem BV (EB:Xe X.K B)(hg:Gl X x)(hm:X.mg x=some (.ref B))(ha:PA X [e,e2] t)(tZ:autoParam ((x == ("__debug__" : Str))=false) zp_1)
  (oK:autoParam (starEach [e,e2] X.env=(false,eval e X.env)::starEach [e2] X.env) zp_0) (hpl:autoParam ((backTo pos (starEach [e2] X.env)).any (·.1)=false) zp_0)
  (ht:autoParam (eval (.Call (.Attribute (.Name x p) "__init__" fE) [e,e2] [] pos) X.env=(do
   let ov <-eval (.Name x p) X.env
   standAt fE.atName
   let (f,first) <-holding [ov] (getMethod ov "__init__" pl)
   callWith pos f first (backTo pos (starEach [e,e2] X.env)) (backToKw pos (keywordEach [] X.env)))) zp_0):
  PE X (.Call (.Attribute (.Name x p) "__init__" fE) [e,e2] [] pos) (abG X.K t):=by
 intro ah s σ H Q I h;refine zcQ (pl:=pl) (nJ I hg hm ?_ tZ) ht
 refine PySem.W.method_cls I.nI EB.sp (PySem.W.cls_value I.nI EB.rd EB.fc rfl ?_)
 have I1:=I.oJ (s.toks+1)
 have hA:=ha pos ah {s with toks:=s.toks+1} σ H _ I1 h
 rw[oK] at hA ⊢
 refine zcM (by show (false || (backTo pos (starEach [e2] X.env)).any (·.1))=false;rw[hpl]<;>rfl) (zcT ?_)
 refine cQ hA λus s2 dR=>?_
 obtain⟨vs,H2,I2,r2,a,C',f',bm',od,y,ev,hH,M,q⟩:=dR;subst ev;obtain⟨u1,u2,rfl,ru1,_⟩:=r2.two;cases (show u1=Value.ref a from ru1)
 exact NC M I2 hH q
end
theorem abH (e:h.get? a=some (k_ C none t)):PySem.W.InstAt h a (k_ C none t) C none:=⟨e,rfl,rfl,True.intro⟩
theorem abI (e:h.get? a=some (k_ C (some d) t))(hd:h.get? d=some o):PySem.W.InstAt h a (k_ C (some d) t) C (some o):=⟨e,rfl,rfl,hd⟩
theorem E1 (self:Value):refuseLoop self "__setattr__" lW=pure ():=by
 with_unfolding_all rfl
theorem iY.cls {K:PySem.W.Frag}(M:iY K C f bm):∃cd,PySem.W.clsIn K C=some cd/\cd.mro = .ref C::bm/\cd.hasDict=true:=by
 obtain⟨nm,q',N,bs,sn,sub,ab,qQ,dd,k0,k1,k2,k3,k5,lk⟩:=M.kU;refine⟨{name:=nm,bases:=bs,mro:=.ref C::bm,ns:=N,qualname:=q',hasDict:=true,slotNames:=sn,subclasses:=sub,abstract:=ab,collection:=qQ,hasDel:=false},?_,rfl,rfl⟩
 unfold PySem.W.clsIn;rw[lk]
section
variable {prog:Program}{w:World}{A:Around}{E:Value->Shared->Prop}{s:Shared}{K:PySem.W.Frag}{x C f:Addr}{bm:List Value}{ox:Obj}{od:Option Obj}{name:Str}
theorem iY.has {T:String}(M:iY K C f bm)(hT:lW.contains (.type T)=true):PySem.W.mroIn K C (.type T)=some true:=by
 obtain⟨cd,hc,hm,_⟩:=M.cls;obtain⟨B,rfl⟩:=M.nb;unfold PySem.W.mroIn;rw[hc,zaX,hm,if_neg (by simp)]
 rw[zaW,zaW,hT,zcC,zcC]
theorem HL {anH MW:Bool}{tk:Tok}{Q:Value->Shared->Prop}(X:K.In s.heap)(I:PySem.W.InstAt s.heap x ox C od)(M:iY K C f bm)
  (h:wpAny (model prog w) A.in1 (Builtin.«object.__getattribute__» ⟨[.ref x,.str name tk],[]⟩)
   (λfu s'=>match fu with|.done (.ret v)=>wpAny (model prog w) A (handedOut v) Q E s' | _=>False) (λ_ _=>False) s):
  wpAny (model prog w) A (getAttrBy (.ref x) (.str name tk) anH MW) Q E s:=by
 have L0:=I.type (M:=model prog w)
 unfold getAttrBy;refine zbr (zaa (L0.here (zaa ((zbQ X M.ga).here ?_))))
 dsimp only;rw[show (onTheHeap (Value.ref C) && Value.builtin "BaseException.__getattribute__" == Value.builtin "object.__getattribute__")=false from by rw[show (Value.builtin "BaseException.__getattribute__" == Value.builtin "object.__getattribute__")=false from by decide +kernel,zed],if_neg (by decide)]
 unfold getAttrByItsOwn;refine zaa ?_
 unfold hookBefore;rw[if_pos (show onTheHeap (Value.ref C)=true from rfl)];refine (zbQ X M.gg).here (zaa (zdt (zbr ?_)))
 unfold callGetattribute;rw[show (MW && onTheHeap (Value.builtin "BaseException.__getattribute__"))=false from zed _,if_neg (by decide)]
 unfold boundAndCalled;rw[zdn.ga.bind];refine zaa (zad ?_)
 show wpAny _ _ (call (.builtin "BaseException.__getattribute__") [.ref x,.str name tk]) _ _ _
 refine zcd (zcW zdn.ga.plain PySem.F.entry_bexc_ga ?_)
 refine @zeE (model prog w) _ _ s "BaseException.__getattribute__" "BaseException" "__getattribute__" (.ref x) [.str name tk] [] _ (by decide +kernel) (by decide +kernel)
  (L0.andThen (zet X (M.has (by decide +kernel)))) (PySem.F.args_bexc_ga _ _) ?_
 refine zaA h (λfu s' z=>?_) λ_ _ z=>z.elim
 rcases fu with (_|_|_|_)|_<;>first|exact z|exact z.elim
theorem E2 {MW:Bool}{v:Value}{Q:Value->Shared->Prop}(X:K.In s.heap)(I:PySem.W.InstAt s.heap x ox C od)(M:iY K C f bm)(hf:PySem.W.findObj K C od name=some (.value v))(hh:PySem.W.handedIn v=true)
  (h:Q v {s with toks:=s.toks+1}):wpAny (model prog w) A (getAttr (.ref x) name MW) Q E s:=by
 unfold getAttr;refine zaa (wpAny_mkText ?_)
 refine HL (s:={s with toks:=s.toks+1}) X I M ?_
 have L0:=I.type (M:=model prog w)
 have L1:=zeF (M:=model prog w) X I hf
 obtain⟨hh',g,d,t,os⟩:=s;refine zaa (zad (zaa (zad (zaa (L0.at (zaa (L1.at ?_)))))))
 refine zad ?_
 show wpAny _ _ (handedOut v) _ _ _
 rw[zem hh];exact zad h
theorem E3 {Q:Option Value->Shared->Prop}(X:K.In s.heap)(I:PySem.W.InstAt s.heap x ox C od)(M:iY K C f bm)
  (hf:PySem.W.findObj K C od "__class__"=some (.bind (.builtin "getset_descriptor.__get__") (.builtin "object.__class__"))) (h:Q (some (.ref C)) {s with toks:=s.toks+1}):
  wpAny (model prog w) A (getAttr? (.ref x) "__class__") Q E s:=by
 unfold getAttr?
 refine zaa (wpAny_mkText ?_)
 unfold getAttrBy?
 refine zaa (zdt ?_)
 refine HL (s:={s with toks:=s.toks+1}) X I M ?_
 have L0:=I.type (M:=model prog w)
 have L1:=zeF (M:=model prog w) X I hf
 obtain⟨hh',g,d,t,os⟩:=s;refine zaa (zad (zaa (zad (zaa (L0.at (zaa (L1.at ?_)))))))
 dsimp only;refine zaa (zbr (zcd (PySem.W.class_get (s:=⟨hh',g,d,t+1,os⟩) (ox:=ox) (od:=od) X I (M.has (by decide +kernel)) ?_)))
 refine zad ?_
 show wpAny _ _ (handedOut (.ref C)) _ _ _
 rw[zem (v:=.ref C) rfl];exact zad (zad h)
theorem BW (M:iY K C f bm)(hn:PySem.W.specialIn K (.builtin "object.__class__") "__get__"=some (some (.builtin "getset_descriptor.__get__")))(htk:PySem.W.takesIn K (.builtin "object.__class__")=some true):
  PySem.W.KitX K (.ref x) (.ref C) (λh=>PySem.W.InstAt h x ox C od) where
 ty:=λ_ _ _ I=>I.type
 it:=λ_ _ X _=>by
  obtain⟨nm,q',N,bs,sn,sub,ab,qQ,dd,k0,k1,k2,k3,k5,lk⟩:=M.kU;intro A' Q' E' s' k q;unfold isType loadHead;exact zaa (zdi (k _ _ (X _ _ lk)) (zad q))
 ne:=λh tp dd bw n sl X htp=>by
  obtain⟨nm,q',N,bs,sn,sub,ab,qQ,xU,k0,k1,k2,k3,k5,lk⟩:=M.kU;refine Bool.eq_false_iff.mpr λq=>?_
  have e:C=tp:=Value.ref.inj (beq_iff_eq.mp q)
  subst e;have z:(Value.type "type")=Value.type "tuple" := congrArg Obj.cls (zaw ((X _ _ lk).symm.trans htp))
  injection z with z
  exact absurd z (by decide)
 ca:=λX I k=>by
  refine E3 X I M ?_ k
  obtain⟨cd,hc,_⟩:=M.cls;unfold PySem.W.findObj;rw[hc,zaX,M.kc,zaX];simp[hn,htk]
theorem xY {v:Value}{b:Bool->Prop}{Q:Unit->Shared->Prop}(X:K.In s.heap)(I:PySem.W.InstAt s.heap x ox C od)(M:iY K C f bm)(hn:PySem.W.findIn K (.ref C) name=some none)
  (h:∀on tk,wpAny (model prog w) A.in1 (Builtin.ObjectAttr.storeInOwnDict (.ref x) (.ref C) (.str name tk) name v on) (λfu s'=>match fu with|.done (.ret _)=>Q () s' | _=>False) E {s with toks:=s.toks+1}):
  wpAny (model prog w) A (setAttr (.ref x) name v) Q E s:=by
 refine zeK X I M.sa ?_
 have SF:=PySem.F.store_object;obtain⟨cd,hc,hm,_⟩:=M.cls;obtain⟨B,hB⟩:=M.nb;have L0:=I.type (M:=model prog w)
 refine zcW SF.slot.plain SF.entry (@zeE (model prog w) _ _ {s with toks:=s.toks+1} "object.__setattr__" "object" "__setattr__" (.ref x) [.str name s.toks,v] [] _ SF.kind SF.split
  (L0.andThen (zet X (M.has (by decide +kernel)))) (SF.args (.ref x) (.str name s.toks) v) ?_)
 have Lm:PySem.W.Looks (model prog w) s.heap (mroOf (.ref C)) cd.mro:=(zcu X hc).andThen .now
 rw[PySem.W.osa_eq,refuse_eq];refine zaa (zaa (zbA (s:={s with toks:=s.toks+1}) L0 (zaa (zbA (s:={s with toks:=s.toks+1}) Lm ?_))))
 rw[hm,hB,refuseLoop_ref,refuseLoop_ref,E1];refine zad (zaa (zbA (s:={s with toks:=s.toks+1}) L0 (zaa (zbA (s:={s with toks:=s.toks+1}) (zbQ X hn) ?_))))
 refine zaa (zad ?_)
 refine zaA (h _ _) (λfu s' z=>?_) λ_ _ z=>z
 rcases fu with (_|_|_|_)|_<;>first|exact z|exact z.elim
end
section
variable {X:Cx}{ah:List (Addr×Obj)}{σ:St}{H:Hp}{s:Shared}{A:Around}{E:Value->Shared->Prop}{a C f d:Addr}{bm:List Value}{g:Str}{v y:V}{u:Value}{fs:List (Str×V)}
theorem ND {od:Option Addr}(I:aK X ah σ H s)(h:H a=some (EO a C od)):∃t,s.heap.get? a=some (k_ C od t):=by
 obtain⟨⟨t,e⟩,_,_⟩:=(show cP X.prog X.w H s.heap a (EO a C od) from I.cF a _ h)
 exact⟨t,e⟩
theorem HM (I:aK X ah σ H s)(h:H d=some (ED d fs)):∃mA,s.heap.Ns1 d mA/\(∀f,iW (fs.lookup f) (mA f))/\PySem.Within mA (fs.map (·.1)):=by
 obtain⟨q,_,_⟩:=(show cP X.prog X.w H s.heap d (ED d fs) from I.cF d _ h)
 exact q
end
theorem NF (h:a≠b):bG (bG (bG H a o) b u) a w=bG (bG (bG H a o) a w) b u:=by
 funext c
 unfold bG;by_cases h1:c=a
 ·subst h1;rw[if_pos rfl,if_neg h,if_pos rfl]
 ·rw[if_neg h1,if_neg h1,if_neg h1]
theorem NG (I:aK X ah σ H s)(M:iY X.K C f bm)(ha:H a=some (EO a C none))(hn:PySem.W.findIn X.K (.ref C) g=some none)(ry:bI y u)
  (h:∀d s',H d=none->aK X ah σ (bG (bG H d (ED d [(g,y)])) a (EO a C (some d))) s'->Q () s'):wpAny (model X.prog X.w) A (setAttr (.ref a) g u) Q E s:=by
 obtain⟨t,e⟩:=ND I ha;obtain⟨cd,hc,_,sD⟩:=M.cls;refine xY (b:=λ_=>True) I.nI (abH e) M hn λon tk=>?_
 have abJ:H s.heap.objs.size=none:=I.cF.fresh (zah _)
 have e':s.heap.get? a=some ⟨.ref C,none,.fields #[.ref t,.none,.none,.none,.bool false,.none],#[]⟩:=e
 refine zaa (zad (zaa (zaa (zdi e' (zaa (zbA (s:={s with toks:=s.toks+1}) (zcu I.nI hc) ?_))))))
 rw[sD];refine zaa (wpAny_alloc ?_)
 have hal:a<s.heap.objs.size:=zan e
 have nad:a≠s.heap.objs.size:=zar hal
 have g1:(s.heap.push ({ cls:=.type "dict",data:=.dict #[]}:Obj)).get? s.heap.objs.size=some { cls:=.type "dict",data:=.dict #[]}:=zap _ rfl
 have n1:(s.heap.push ({ cls:=.type "dict",data:=.dict #[]}:Obj)).Ns s.heap.objs.size (λ_=>none):=⟨_,#[],_,g1,rfl,(λe he=>absurd he (by simp)),λ_=>rfl⟩
 have n1':=Heap.Ns1.of_empty n1;have I1:aK X ah σ (bG H s.heap.objs.size (ED s.heap.objs.size [])) { s with heap:=s.heap.push ({ cls:=.type "dict",data:=.dict #[]}:Obj),toks:=s.toks+1}:=
  I.j_ (λb u e=>zac _ e) (zah _) (Ny n1' (λ_=>True.intro) (λy hy=>absurd rfl hy))
 have e1:(s.heap.push ({ cls:=.type "dict",data:=.dict #[]}:Obj)).get? a=some ⟨.ref C,none,.fields #[.ref t,.none,.none,.none,.bool false,.none],#[]⟩:=zac _ e'
 refine zaa (wpAny_update e1 ?_)
 have e2:((s.heap.push ({ cls:=.type "dict",data:=.dict #[]}:Obj)).update a (λo=>{cls:=o.cls,dict:=some s.heap.objs.size,data:=o.data,slots:=o.slots})).get? a=some (k_ C (some s.heap.objs.size) t):=by
  rw[zaR _ e1 rfl];rfl
 have hH1:(bG H s.heap.objs.size (ED s.heap.objs.size [])) a=some (EO a C none):=by rw[au nad];exact ha
 have I2:=I1.jB (x:=a) (e:=a) (o:=EO a C (some s.heap.objs.size)) (t':=s.toks+1) (h':=(s.heap.push ({ cls:=.type "dict",data:=.dict #[]}:Obj)).update a (λo=>{cls:=o.cls,dict:=some s.heap.objs.size,data:=o.data,slots:=o.slots}))
  (by rw[hH1];exact True.intro) (.inl rfl) (λb z hb q=>(zaD _ _ (zbg hb)).trans q) ⟨_,e2⟩ (Nx e2)
 have n2:((s.heap.push ({ cls:=.type "dict",data:=.dict #[]}:Obj)).update a (λo=>{cls:=o.cls,dict:=some s.heap.objs.size,data:=o.data,slots:=o.slots})).Ns1 s.heap.objs.size (λ_=>none):=
  n1'.at λo z=>(zaD _ _ nad).trans z
 refine zad ?_
 refine zaa (zad (zaa ?_))
 refine wpAny_nsSet1 n2 λh' Mq hs2=>?_
 obtain⟨oD,esD,epD,Mr,hdD,hcD⟩:=Mq.count (PySem.Within.cons g u (ns:=[]) (λy hy=>absurd rfl hy))
 refine zaa (zdH Mr (by rw[hdD];exact zdI (zag hcD (show 1<=sizeLine+1 by decide))) ?_)
 refine zad (h s.heap.objs.size _ abJ ?_)
 have hHd:(bG (bG H s.heap.objs.size (ED s.heap.objs.size [])) a (EO a C (some s.heap.objs.size))) s.heap.objs.size=some (ED s.heap.objs.size []):=by rw[au (zbg nad),av]
 have I3:=I2.jB (x:=s.heap.objs.size) (e:=s.heap.objs.size) (o:=ED s.heap.objs.size [(g,y)]) (t':=s.toks+1+1) (h':=h')
  (by rw[hHd];exact True.intro) (.inl rfl) (λb z hb q=>(hs2.2 b hb).trans q) ⟨_,Mr⟩ (Ny Mq (λf=>?_) (λf hf=>?_))
 ·rw[NF (zbg nad),Hr] at I3
  exact I3
 ·show iW (List.lookup f [(g,y)]) (if f=g then some u else none)
  rw[zaP];by_cases q:f=g
  ·rw[if_pos q,show (f == g)=true from by simpa using q]
   exact ry
  ·rw[if_neg q,show (f == g)=false from by simpa using q]
   exact True.intro
 ·have hf:(if f=g then some u else none)≠none:=hf
  by_cases q:f=g
  ·rw[q];simp
  ·rw[if_neg q] at hf;exact absurd rfl hf
theorem NH (I:aK X ah σ H s)(M:iY X.K C f bm)(ha:H a=some (EO a C (some d)))(hd:H d=some (ED d fs))(hl:fs.length<1000)(hn:PySem.W.findIn X.K (.ref C) g=some none)(ry:bI y u)
  (h:∀s',aK X ah σ (bG H d (ED d (gH g y fs))) s'->Q () s'):wpAny (model X.prog X.w) A (setAttr (.ref a) g u) Q E s:=by
 obtain⟨t,e⟩:=ND I ha;obtain⟨mA,ns,r,wi⟩:=HM I hd;obtain⟨oD,Mr,_⟩:=ki ns;obtain⟨cd,hc,_,sD⟩:=M.cls;refine xY (b:=λ_=>True) I.nI (abI e Mr) M hn λon tk=>?_
 have e':s.heap.get? a=some ⟨.ref C,some d,.fields #[.ref t,.none,.none,.none,.bool false,.none],#[]⟩:=e
 refine zaa (zad (zaa (zaa (zdi e' (zaa (zbA (s:={s with toks:=s.toks+1}) (zcu I.nI hc) ?_))))))
 rw[sD];refine zad (a:=some d) (zaa (zad (zaa ?_)))
 refine wpAny_nsSet1 (s:={s with toks:=s.toks+1}) ns λh' Mq hs2=>?_
 obtain⟨oD',esD,epD,aib,hdD,hcD⟩:=Mq.count (PySem.Within.cons g u wi)
 have aqk:(1000:Nat)<=sizeLine:=by decide
 have hz:(fs.map (·.1)).length<1000:=by rw[zae];exact hl
 refine zaa (zdH aib (by rw[hdD];exact zdI (zag hcD (by rw[zaF];omega))) ?_)
 refine zad (h _ ?_)
 refine I.jB (x:=d) (e:=d) (o:=ED d (gH g y fs)) (by rw[hd];exact True.intro) (.inl rfl) (λb z hb q=>(hs2.2 b hb).trans q) ⟨_,aib⟩ (Ny Mq (λf=>?_) (λf hf=>?_))
 ·show iW ((gH g y fs).lookup f) (if f=g then some u else mA f)
  rw[mR];by_cases q:f=g
  ·rw[if_pos q,if_pos q];exact ry
  ·rw[if_neg q,if_neg q];exact r f
 ·by_cases q:f=g
  ·rw[q];exact (kj g y fs).1
  ·refine (kj g y fs).2 f (wi f λz=>hf ?_)
   show (if f=g then some u else mA f)=none
   rw[if_neg q];exact z
noncomputable def aic (K:PySem.W.Frag)(ta tv:TE)(g:Str):TS:=λD σ H=>tv σ H λy H1=>ta σ H1 λx H2=>∃a C f bm,x = .ref a/\H2 a=some (EO a C none)/\iY K C f bm/\PySem.W.findIn K (.ref C) g=some none /\
 ∀d,H2 d=none->D.nx σ (bG (bG H2 d (ED d [(g,y)])) a (EO a C (some d)))
noncomputable def aid (K:PySem.W.Frag)(ta tv:TE)(g:Str):TS:=λD σ H=>tv σ H λy H1=>ta σ H1 λx H2=>∃a C f bm d fs,x = .ref a/\H2 a=some (EO a C (some d))/\H2 d=some (ED d fs)/\fs.length<1000/\iY K C f bm/\PySem.W.findIn K (.ref C) g=some none /\
 D.nx σ (bG H2 d (ED d (gH g y fs)))
theorem HN (ha:PE X o ta)(hv:PE X value tv)(hs:autoParam (swapsWith value (some (.Attribute o g kh)) pos.line X.env=pure false) zp_0):PS X (.Assign [.Attribute o g kh] value pos) (aic X.K ta tv g):=by
 intro ah s σ H D I h;refine zca (cQ (hv ah s σ H _ I h) λu s1 ⟨y,H1,I1,ry,q⟩=>cQ (ha ah s1 σ H1 _ I1 q) λov s2 fj=>?_) hs
 obtain⟨x,H2,I2,rx,a,C,f,bm,ex,ea,M,n,q2⟩:=fj;subst ex;obtain rfl:ov=Value.ref a:=rx
 exact NG I2 M ea n ry λd s3 hd I3=>⟨σ,_,I3,q2 d hd⟩
theorem Ub (ha:PE X o ta)(hv:PE X value tv)(hs:autoParam (swapsWith value (some (.Attribute o g kh)) pos.line X.env=pure false) zp_0):PS X (.Assign [.Attribute o g kh] value pos) (aid X.K ta tv g):=by
 intro ah s σ H D I h;refine zca (cQ (hv ah s σ H _ I h) λu s1 ⟨y,H1,I1,ry,q⟩=>cQ (ha ah s1 σ H1 _ I1 q) λov s2 jf=>?_) hs
 obtain⟨x,H2,I2,rx,a,C,f,bm,d,fs,ex,ea,ed,hl,M,n,q2⟩:=jf;subst ex;obtain rfl:ov=Value.ref a:=rx
 exact NH I2 M ea ed hl n ry λs3 I3=>⟨σ,_,I3,q2⟩
theorem sF:bootBuiltins "ValueError"=some (.type "ValueError"):=by decide +kernel
section
variable {K:PySem.W.Frag}{C f B:Addr}
theorem NI {bm:List Value}(M:iY K C f bm):PySem.W.kitOne K (.ref C) (.type "ValueError")=some true:=by
 have h2:PySem.W.kitMeta "ValueError"=true:=by decide +kernel
 unfold PySem.W.kitOne;rw[if_neg (by show ¬ ((false:Bool)=true);decide)]
 show (if PySem.W.kitMeta "ValueError"=true then PySem.W.mroIn K C (.type "ValueError") else none)=some true
 rw[if_pos h2];exact M.has Ak
theorem E4 {D g:Addr}{bm':List Value}{b:Bool}(M:iY K C f (.ref B::lW))(hD:(PySem.W.clsIn K D).isSome=true)(tD:PySem.W.typeIn K (.ref D)=some (.type "type"))(hb:decide (D=C\/D=B)=b):PySem.W.kitOne K (.ref C) (.ref D)=some b:=by
 obtain⟨cd,hc,hm,_⟩:=M.cls;unfold PySem.W.kitOne;by_cases h:C=D
 ·subst h
  rw[if_pos (by simp)]
  rw[<-hb,decide_eq_true (.inl rfl)]
 ·rw[if_neg (by simpa using h)]
  show (if ((PySem.W.clsIn K D).isSome && PySem.W.typeIn K (.ref D) == some (.type "type"))=true then PySem.W.mroIn K C (.ref D) else none)=some b
  rw[if_pos (by rw[hD,tD];simp)]
  unfold PySem.W.mroIn;rw[hc,zaX,hm,if_neg (by simp)]
  congr 1
  rw[zaW,zaW,<-hb];have e1:lW.contains (.ref D)=false:=rfl
  rw[e1,zds,zbe];simp only[zcV,beq_iff_eq,decide_eq_true_eq];constructor
  ·rintro (q|q)
   ·exact .inl (Value.ref.inj q)
   ·exact .inr (Value.ref.inj q)
  ·rintro (q|q)
   ·exact .inl (by rw[q])
   ·exact .inr (by rw[q])
theorem iY.E5 {bm:List Value}(M:iY K C f bm):(PySem.W.clsIn K C).isSome=true:=by
 obtain⟨cd,hc,_⟩:=M.cls;rw[hc];rfl
theorem iY.NJ {bm:List Value}(M:iY K C f bm):PySem.W.typeIn K (.ref C)=some (.type "type"):=by
 obtain⟨nm,q',N,bs,sn,sub,ab,qQ,dd,k0,k1,k2,k3,k5,lk⟩:=M.kU;show Option.map (λx=>x.cls) (K.lookup C)=some (.type "type")
 rw[lk];rfl
end
theorem aK.HP {fp:List Addr}(I:aK X ah σ H s)(k:∀b o,b∉fp->s.heap.get? b=some o->h'.get? b=some o)
  (hf:∀b∈fp,qL X ah H b):aK X ah σ H {s with heap:=h',toks:=t' }:=by
 refine I.Bv (g':=s.gens) (d':=s.drawn) (ch:=fp) (λb hb=>?_) (λb o _ _ hc e _=>k b o hc e) (λb o _ _ hc e _=>⟨o.slots,k b o hc e⟩) (λ_ _ _ _ n=>n)
  (λb o hc e=>⟨o,k b o hc e⟩) (λ_ _ e=>e) (λ_ _ _ e=>e) (λb ps e=>⟨#[],by rw[e];simp⟩) (λm hm=>?_) (λb u e=>?_) I.iC
 ·obtain⟨f0,f1,f2,f3,f4,f5⟩:=hf b hb
  exact⟨f3,f1,f4,f5⟩
 ·obtain⟨o,es,ep,ho,r⟩:=hm
  exact⟨o,es,ep,k _ o (λz=>(hf _ z).2.1 rfl) ho,r⟩
 ·refine (I.cF b u e).qK (λc v hc q=>k c v (λz=>?_) q) (λ_ q=>q) λ_ _ q=>q
  have f0:=(hf c z).1
  rcases hc with z' | z'
  ·rw[z',e] at f0;cases f0
  ·rw[z'] at f0;cases f0
noncomputable def SqK (K:PySem.W.Frag)(κ:Bool)(H:Hp)(a:Addr)(xs:List V):Prop:=match κ with|true=>oV K H a xs|false=>jC K H a xs
noncomputable def oN (κ:Bool)(h:Heap)(it a:Addr)(i:Nat):Prop:=match κ with|true=>h.IsTupleIter it a i|false=>h.IsListIter it a i
noncomputable def ud (κ:Bool)(h:Heap)(a:Addr)(bw:Array Value):Prop:=match κ with|true=>h.IsTuple a bw|false=>h.IsList a bw
theorem oN.kU (st:oN κ h it a i):∃o,h.get? it=some o/\∀v,o.data ≠ .cell v:=by
 cases κ with
 |true=>obtain⟨o,e,c,d⟩:=st;exact⟨o,e,λv z=>by rw[d] at z;cases z⟩
 |false=>obtain⟨o,e,c,d⟩:=st;exact⟨o,e,λv z=>by rw[d] at z;cases z⟩
theorem oN.sr (st:oN κ h it a i)(k:∀o,h.get? it=some o->h'.get? it=some o):oN κ h' it a i:=by
 cases κ with
 |true=>obtain⟨o,e,r⟩:=st;exact⟨o,k o e,r⟩
 |false=>obtain⟨o,e,r⟩:=st;exact⟨o,k o e,r⟩
theorem ud.sr (st:ud κ h a bw)(k:∀o,h.get? a=some o->h'.get? a=some o):ud κ h' a bw:=by
 cases κ with
 |true=>obtain⟨o,e,r⟩:=st;exact⟨o,k o e,r⟩
 |false=>obtain⟨o,e,r⟩:=st;exact⟨o,k o e,r⟩
theorem oN.ne (st:oN κ h it a i)(so:ud κ h a bw):a≠it:=by
 intro z;subst z;cases κ with
 |true =>
  obtain⟨o,e,c,d⟩:=st;obtain⟨o',e',c',_⟩:=so;rw[e] at e';cases e'
  rw[c] at c';exact absurd c' (by decide)
 |false =>
  obtain⟨o,e,c,d⟩:=st;obtain⟨o',e',c',_⟩:=so;rw[e] at e';cases e'
  rw[c] at c';exact absurd c' (by decide)
theorem E6 (hj:s.heap.IsTupleIter j tp n)(hp:s.heap.IsTuple tp vs)(hv:vs[n]? = some v)
  (k:∀h',h'.IsTupleIter j tp (n+1)->Heap.SameBut j s.heap h'->Q v {s with heap:=h' }):wpAny (model prog w) A (Builtin.SmallTypes.nextOf (.ref j)) Q E s:=by
 obtain⟨oj,ej,cj,dj⟩:=id hj;obtain⟨op,ep,_,m,dp⟩:=hp;have hn:¬ ((Value.ref tp == Value.none)=true):=zal
 unfold Builtin.SmallTypes.nextOf;refine zaa (zbH (name:=Str.ofString "__next__") hj.typeIs zbO (zbU zbO hj.typeIs zdo ?_ (zdk _)))
 show wpAny _ _ (field (.ref j) 0 >>= _) _ _ s
 refine zaa (zbx ej dj (x:=.ref tp) rfl ?_)
 show wpAny _ _ (if (Value.ref tp == Value.none)=true then _ else _) _ _ s
 rw[if_neg hn];show wpAny _ _ (field (.ref j) 1 >>= _) _ _ s
 refine zaa (zbx ej dj (x:=.int n 0) rfl ?_)
 show wpAny _ _ (seqItems? (.ref tp) >>= _) _ _ s
 refine zaa (wpAny_seqItems ep dp ?_)
 simp only[zbt,hv];refine zaa (zbJ ej dj (by simp) (zad ⟨v,rfl,zad (k _ ⟨_,zaR _ ej (zcm (zbp dj _)),(Obj.cls_mapFields ..).trans cj,?_⟩ (zbY ..))⟩))
 rw[zbp dj];simp[rawInt]
theorem Kl (hh:A.handled=none)(hj:s.heap.IsTupleIter j tp n)(hp:s.heap.IsTuple tp vs)(hv:vs[n]? = none)
  (k:∀h' x,Heap.ExtBut j s.heap h'->(∃o,h'.get? x=some o/\o.cls = .type "StopIteration")->E (.ref x) {s with heap:=h' }):wpAny (model prog w) A (Builtin.SmallTypes.nextOf (.ref j)) Q E s:=by
 obtain⟨oj,ej,cj,dj⟩:=id hj;obtain⟨op,ep,_,m,dp⟩:=hp;have hn:¬ ((Value.ref tp == Value.none)=true):=zal
 unfold Builtin.SmallTypes.nextOf;refine zaa (zbH (name:=Str.ofString "__next__") hj.typeIs zbO (zbU zbO hj.typeIs zdo ?_ (zdk _)))
 show wpAny _ _ (field (.ref j) 0 >>= _) _ _ s
 refine zaa (zbx ej dj (x:=.ref tp) rfl ?_)
 show wpAny _ _ (if (Value.ref tp == Value.none)=true then _ else _) _ _ s
 rw[if_neg hn];show wpAny _ _ (field (.ref j) 1 >>= _) _ _ s
 refine zaa (zbx ej dj (x:=.int n 0) rfl ?_)
 show wpAny _ _ (seqItems? (.ref tp) >>= _) _ _ s
 refine zaa (wpAny_seqItems ep dp ?_)
 simp only[zbt,hv];refine zaa (wpAny_rule (zaa (zbJ ej dj (by simp) ?_)))
 show wpAny _ _ (newExc (.type "StopIteration") [] >>= _) _ _ _
 refine zaa ?_
 simp only[newExc,newTuple];refine zaa (zaS ?_ (by size_fits))
 refine zaa (m:=firstArgMember _ _) (wpAny_of_eq (a:=Value.none) (by first|rfl | (simp only[firstArgMember];rfl)) (zaS ?_ (by size_fits)))
 simp only[raiseNew];refine zaa (wpAny_handled ?_)
 first|rw[show A.in1.handled=none from hh]|rw[hh]
 exact zaa (zad (wpAny_throw (k _ _ (((zbY ..).extBut.push _).push _) ⟨_,zap _ rfl,rfl⟩)))
theorem xZ (hh:A.handled=none)(κ:Bool)(it a:Addr)(Ej:a≠it)(bw:Array Value):
    Draws P w A it [it,a] bw.size (λi v=>bw[i]? = some v) (λi h=>oN κ h it a i/\ud κ h a bw):=by
  cases κ with
  |false=>exact Draws.list hh it a Ej bw
  |true =>
    exact { live:=λi h st=>let ⟨o,e,_⟩:=st.1;⟨o,e⟩
            frame:=λi h h' st k=>⟨st.1.sr λo e=>k it (by simp) o e,st.2.sr λo e=>k a (by simp) o e⟩
            item:=λi s Q E hi st k=>E6 st.1 st.2 (v:=bw[i]) (by simp[hi]) λh' BD sb=>k _ h' s.toks (by simp[hi]) ⟨BD,Heap.IsTuple.extBut st.2 sb.extBut Ej⟩ sb
            done:=λs Q E st k=>Kl hh st.1 st.2 (by simp) k}
theorem BX {St:Nat->Heap->Prop}(D:Draws P w A it fp n Y St)(k:Nat):
  Draws P w A it fp (n+k) (λi v=>Y (i - k) v) (λi h=>k<=i/\St (i - k) h) where
 live:=λi h st=>D.live _ _ st.2
 frame:=λi h h' st q=>⟨st.1,D.frame _ _ _ st.2 q⟩
 item:=λi s Q E hi st q=>D.item (i - k) s Q E (by have:=st.1;omega) st.2 λx h' tk p BD sb=>q x h' tk p ⟨zcJ st.1,by rw[Nat.succ_sub st.1];exact BD⟩ sb
 done:=λs Q E st q=>D.done s Q E (by have:=st.2;rwa[Nat.add_sub_cancel] at this) q
theorem aK.src (I:aK X ah σ H s)(h:SqK X.K κ H a xs):∃bw:List Value,bO xs bw/\ud κ s.heap a bw.toArray/\xs.length<=sizeLine:=by
 cases κ with
 |true =>
  obtain⟨bw,r,p,z⟩:=I.fY h;exact⟨bw,r,p,z⟩
 |false =>
  obtain⟨bw,r,p,z⟩:=I.list h;exact⟨bw,r,p.isList,z⟩
theorem aK.Uc (I:aK X ah σ H s)(h:SqK X.K κ H a xs)(h':SqK X.K κ H a ys):xs=ys:=by
 cases κ with
 |true=>exact I.xN h h'
 |false=>exact I.BC h h'
noncomputable def Ite (K:PySem.W.Frag)(κ:Bool)(a:Addr)(st:Nat):It:=
 ⟨λi H=>∃xs x,SqK K κ H a xs/\xs[i]? = some x,λi H y H'=>∃T x,H T=none/\y = .ref T/\H'=bG H T (.gV [.int ((st+i:Nat):Int),x])/\∀xs,SqK K κ H a xs->xs[i]? = some x,λi H=>∃xs,SqK K κ H a xs/\xs.length=i⟩
theorem aK.abK {fp:List Addr}(I:aK X ah σ H s)(hf:∀b∈fp,qL X ah H b)(rx:bI x u)(ry:bI y v)
  (lt:∀b∈fp,b<s.heap.objs.size) (hT:h'.get? s.heap.objs.size=some { cls:=.type "tuple",data:=.seq #[u,v]}) (k:∀b o,b∉fp->s.heap.get? b=some o->h'.get? b=some o):
  aK X ah σ (bG H s.heap.objs.size (.gV [x,y])) {s with heap:=h',toks:=t' }/\∀b∈fp,bG H s.heap.objs.size (.gV [x,y]) b=none:=by
 have ne:∀b∈fp,b≠s.heap.objs.size:=λb hb=>zar (lt b hb)
 have fr:∀b∈fp,bG H s.heap.objs.size (.gV [x,y]) b=none:=λb hb=>by rw[au (ne b hb)];exact (hf b hb).1
 have I1:=I.j_ (h':=s.heap.push { cls:=.type "tuple",data:=.seq #[u,v]}) (t':=t') (a:=s.heap.objs.size) (o:=.gV [x,y]) (λb o e=>zac _ e) (zah _)
  (show cP X.prog X.w _ _ _ (.gV [x,y]) from ⟨(by show 2<=sizeLine;decide),[u,v],.cons rx (.cons ry .nil),IsTup.new _ _⟩)
 refine⟨aK.HP (s:={ s with heap:=s.heap.push { cls:=.type "tuple",data:=.seq #[u,v]},toks:=t' }) (t':=t') (fp:=fp) I1 (λb o hb e=>?_) λb hb=>⟨fr b hb,(hf b hb).2⟩,fr⟩
 have e:(s.heap.push { cls:=.type "tuple",data:=.seq #[u,v]}).get? b=some o:=e
 by_cases z:b=s.heap.objs.size
 ·subst z
  rw[zap _ rfl] at e;cases e;exact hT
 ·rw[Heap.get?_push_ne _ _ _ z] at e
  exact k b o hb e
theorem Km {P:Program}{w:World}{K:PySem.W.Frag}{Ud:List Expr}{x1}{pos:Pos}(κ:Bool)(a e it:Addr)(st:Nat)(Ej:e≠it):
  JY P w K (.Tuple Ud x1 pos) (Ite K κ a st) [e,it] e (λi h=>(∃T6,IsEnum h e it ((st+i:Nat):Int) T6)/\oN κ h it a i) where
 mem:=by simp
 kU:=λi h t b hb=>by
  obtain⟨⟨T6,he⟩,hi⟩:=t
  rcases zam.mp hb with rfl|hb
  ·exact⟨_,he,λv z=>by cases z⟩
  ·rw[zav.mp hb]
   exact hi.kU
 keep:=λi h h' t k=>by
  obtain⟨⟨T6,he⟩,hi⟩:=t
  exact⟨⟨T6,k e (by simp) _ he⟩,hi.sr λo q=>k it (by simp) o q⟩
 item:=by
  intro X hP hw hK hc i ah s σ H E I hf t hg;subst hP hw hK;obtain⟨⟨T6,he⟩,hi⟩:=t
  obtain⟨xs,x,hq,hx⟩:=hg;obtain⟨bw,rv,so,hz⟩:=I.src hq;obtain⟨u,hu,ru⟩:=rv.get hx;have hai:=hi.ne so;have hae:e≠a:=λz=>by
   subst z;cases κ with
   |true=>obtain⟨o',e',c',_⟩:=so;rw[he] at e';cases e';exact absurd (show Value.type "enumerate"=Value.type _ from c') (by decide)
   |false=>obtain⟨o',e',c',_⟩:=so;rw[he] at e';cases e';exact absurd (show Value.type "enumerate"=Value.type _ from c') (by decide)
  have jU:i<bw.toArray.size:=by
   have:=(zab.mp hu).1
   simpa using this
  have D:=BX (xZ (P:=X.prog) (w:=X.w) (A:=X.A.in1) (show X.A.in1.handled=none from I.ok.hd hc) κ it a hai bw.toArray) st
  have oK:st<=st+i/\(oN κ s.heap it a (st+i - st)/\ud κ s.heap a bw.toArray):=⟨zcq _ _,by rw[zdP];exact hi,so⟩
  refine wpAny_pyNext_enum_itemD (i:=st+i) D he oK (by omega) Ej (by simp;exact⟨Ej,hae⟩) λv h' tk hv E7 BD hT hsz kk=>⟨_,rfl,?_⟩
  have ev:v=u:=by
   have hv':bw.toArray[st+i - st]? = some v:=hv
   rw[zdP] at hv';have hu':bw.toArray[i]? = some u:=by simpa using hu
   rw[hu'] at hv';exact (zaw hv').symm
  subst ev;refine wpAny_letOwnedTupleGo_enum (s:={s with heap:=h',toks:=tk+1}) E7 λh2 he2 sb2=>?_
  have sb2:Heap.SameBut e h' h2:=sb2
  have xx:e<s.heap.objs.size:=zan he
  have ilt:it<s.heap.objs.size:=by obtain⟨o,q,_⟩:=hi.kU;exact zan q
  obtain⟨I2,fr⟩:=I.abK (h':=h2) (t':=tk+1) (fp:=[e,it]) (x:=.int ((st+i:Nat):Int)) (y:=x) (u:=.int ((st+i:Nat):Int) tk) (v:=v) hf ⟨_,rfl⟩ ru
   (λb hb=>by
    rcases zam.mp hb with rfl|hb
    ·exact xx
    ·rw[zav.mp hb];exact ilt)
   ((sb2.2 _ (zbS xx)).trans hT) (λb o hb q=>(sb2.2 b λz=>hb (by simp[z])).trans (kk b o (λz=>hb (by simp[z])) (λz=>hb (by simp[z])) q))
  refine⟨.ref s.heap.objs.size,_,I2,rfl,⟨s.heap.objs.size,x,I.cF.fresh (zah _),rfl,rfl,λys hy=>by rw[I.Uc hy hq];exact hx⟩,⟨⟨v,?_⟩,?_⟩,fr⟩
  ·have e1:((st+(i+1):Nat):Int)=((st+i:Nat):Int)+1:=by omega
   rw[e1];exact he2
  ·have q:=BD.2.1
   have e2:st+i+1 - st=i+1:=by omega
   rw[e2] at q;exact q.sr λo z=>(sb2.2 it Ej.symm).trans z
 done:=by
  intro X hP hw hK hc i ah s σ H E I hf t hg;subst hP hw hK;obtain⟨⟨T6,he⟩,hi⟩:=t
  obtain⟨xs,hq,hx⟩:=hg;obtain⟨bw,rv,so,hz⟩:=I.src hq;have hai:=hi.ne so;have D:=xZ (P:=X.prog) (w:=X.w) (A:=X.A.in1) (show X.A.in1.handled=none from I.ok.hd hc) κ it a hai bw.toArray
  have hn:bw.toArray.size=i:=by
   have:=rv.length
   simp
   omega
  exact wpAny_pyNext_enum_endD D he (by rw[hn];exact⟨hi,so⟩) λh' eb=>⟨rfl,I.HP (fp:=[e,it]) (t':=s.toks) (λb o hb q=>eb b o (λz=>hb (by simp[z])) q) hf⟩
 self:=λ_ _ _ _ _ t h=>let ⟨⟨_,he⟩,_⟩:=t;wpAny_pyIter_enum he h
noncomputable def anK (tv:TE):TE:=λσ H Q=>tv σ H λv H1=>(∃x,v = .str x/\x.length<=sizeLine/\Q (.str x) H1)\/(∃i:Int,v = .int i/\i.natAbs.log2<1920/\Q (.str (toString i)) H1)
theorem abL (h:PE X value tv):PE X (.FormattedValue value (-1) none pos) (anK tv):=by
 intro ah s σ H Q I hq;refine FormattedValue_plain (cQ (h ah s σ H _ I hq) λv s1 cA=>?_)
 obtain⟨y,H1,I1,r,q⟩:=cA;rcases q with⟨x,rfl,hz,q⟩|⟨i,rfl,hd,q⟩
 ·obtain⟨t,rfl⟩:=r
  exact formatField_str (λt' tk=>⟨.str x,H1,I1.oJ tk,⟨_,rfl⟩,q⟩) hz
 ·obtain⟨t,rfl⟩:=r
  exact formatField_int_small hd ⟨.str (toString i),H1,I1.oJ _,⟨_,rfl⟩,q⟩
noncomputable abbrev TJ:=Str->TE
noncomputable def PJ (X:Cx)(es:List Expr)(t:TJ):Prop:=
 ∀(bY:Str) (ah:List (Addr×Obj)) (s:Shared) (σ:St) (H:Hp) (Q:VK),aK X ah σ H s->t bY σ H Q->wpAny (model X.prog X.w) X.A (joinParts bY (evalEach es X.env)) (EP X ah σ Q) X.xe s
noncomputable def aif:TJ:=λbY _ H Q=>bY.length<=sizeLine/\Q (.str bY) H
noncomputable def abM (te:TE)(tr:TJ):TJ:=λbY σ H Q=>te σ H λv H1=>∃y,v = .str y/\(bY++y).length<=sizeLine/\tr (bY++y) σ H1 Q
theorem abN:PJ X [] aif:=λbY ah s σ H Q I h=>joinParts_nil ⟨.str bY,H,I.oJ _,⟨_,rfl⟩,h.2⟩ h.1
theorem Ue (he:PE X e te)(hr:PJ X es tr):PJ X (e::es) (abM te tr):=by
 intro bY ah s σ H Q I h;show wpAny _ _ (joinParts bY (eval e X.env::evalEach es X.env)) _ _ _
 refine joinParts_cons (cQ (he ah s σ H _ I h) λv s1 dR=>?_)
 obtain⟨z,H1,I1,r,y,ez,hz,q⟩:=dR;subst ez;obtain⟨t,rfl⟩:=r;exact⟨hz,hr _ ah s1 σ H1 Q I1 q⟩
theorem Ug (h:PJ X (e1::e2::es) t):PE X (.JoinedStr (e1::e2::es) pos) (t Str.empty):=λah s σ H Q I hq=>JoinedStr_many (h Str.empty ah s σ H Q I hq)
theorem ue:bootBuiltins "enumerate"=some (.type "enumerate"):=by decide +kernel
noncomputable def iEn (K:PySem.W.Frag)(st:Nat)(ta:TA):TI:=λσ H R=>ta σ H λvs H1=>∃a xs,vs=[.ref a]/\jC K H1 a xs/\R (Ite K false a st) H1
theorem Uh {x1}{st:Nat}(I:aK X ah σ H s)(he:IsEnum h' (s.heap.objs.size+1) s.heap.objs.size ((st:Nat):Int) .none)
  (hi:h'.IsListIter s.heap.objs.size a 0) (k:∀b o,s.heap.get? b=some o->h'.get? b=some o) (q:R (Ite X.K false a st) H):
  wpAny (model X.prog X.w) X.A (pyIter (.ref (s.heap.objs.size+1))) (PIE X ah σ (.Tuple Ud x1 tp) R) X.xe {s with heap:=h' }:=by
 refine wpAny_pyIter_enum he ?_
 refine⟨s.heap.objs.size+1,[s.heap.objs.size+1,s.heap.objs.size],_,Ite X.K false a st,H,rfl,I.iA (t':=s.toks) k,Km false a _ _ st (Nat.succ_ne_self _),⟨⟨.none,he⟩,hi⟩,λb hb=>?_,q⟩
 rcases zam.mp hb with rfl|hb
 ·exact I.Ew (zbf _) (I.cF.fresh (zbf _))
 ·rw[zav.mp hb]
  exact I.Ew (zah _) (I.cF.fresh (zah _))
theorem Ui {x1}(hg:Gl X "enumerate")(hm:X.mg "enumerate"=none)(ha:PA X [a] ta)(hs:autoParam (starEach [a] X.env=[(false,eval a X.env)]) zp_0):
  PI X (.Tuple Ud x1 tp) (.Call (.Name "enumerate" p) [a] [] pos) (iEn X.K 0 ta):=by
 intro ah s σ H R I h;refine Call_ (tT I hg hm ue (zcp (cQ (ha pos ah s σ H _ I h) λus s1 fj=>?_) hs rfl))
 obtain⟨vs,H1,I1,r1,l,xs,ev,hl,q⟩:=fj;subst ev;obtain⟨u,rfl,ru⟩:=r1.MB;cases (show u=Value.ref l from ru)
 obtain⟨bw,r,pl,hz⟩:=I1.list hl;exact call_enumerate_list pl.isList λh' he hi _ k=>Uh I1 he hi k q
section
variable {prog:Program}{w:World}{A:Around}{E:Value->Shared->Prop}{s:Shared}{Z TI TO i1 i2:Addr}{fp1 fp2:List Addr}{n1 n2 k:Nat}{Y1 Y2:Nat->Value->Prop}{S1 S2:Nat->Heap->Prop}{p q:Value}
end
open AutoSeq1 (wpAny_loadPart')
theorem NK (a b:Str):(a++b).cps.toList=a.cps.toList++b.cps.toList:=by rw[Str.cps_append,Array.toList_append]
end L2
namespace L2
open PySem PySem.Spec PyProof.Rows
theorem Uj (S:dO X F T fr sc)(hc:X.e_=true)(hi:PI X target eO wi)
  (hg:∀C fp s H xe,PG (rS X (F++T) sc C fp s H xe) target g) (T5:∀C fp s H xe,EW (rS X (F++T) sc C fp s H xe) sA ti) (he:∀C fp s H xe,PE (rS X (F++T) sc C fp s H xe) xx te)
  (hN:X.N.Nodup) (hiy:X.N[i0]? = some y) (hly:X.env.scope.names.lookup y=some .local) (hex:X.ex=[])
  (Kn:autoParam (swapsWith (.ListComp xx [⟨target,eO,sA,0⟩] sc pos) (some (.Name y py)) abO.line X.env=pure true) zp_0) (hs:autoParam (∀x,foldedSetIterable eO X.env x=pure x) zp_3):PS X (.Assign [.Name y py] (.ListComp xx [⟨target,eO,sA,0⟩] sc pos) abO) (SO (HK wi fr T g ti te) (Hu i0)):=by
 intro ah s σ H DD I h;rw[exec_Assign_Name_used _ _ _ _ Kn];refine zaa (zcN (zaa ?_))
 show wpAny _ X.A (do let _ <-comprehension (.ListComp xx [⟨target,eO,sA,0⟩] sc pos) sc X.env _ (newList []) false (eval eO X.env) (some (assign (.Name y py) X.env))) _ _ s
 refine zaa (zaA (BS (use:=some (assign (.Name y py) X.env)) (QQ:=λ_ s'=>SP X ah DD .next s') S hc hi hg T5 he hs I h λD C fp s3 s7 H3 H6 xe MQ I3 f3 T7 I7 qn=>?_) (λ_ s' hq=>zad (zad hq)) λ_ _ e=>e)
 obtain⟨m7,hn7,_⟩:=I7.Bh;have hCn:H6 C=none:=I7.free
 have I8:aK X ah σ H6 s7:=I3.Bx (s':=s7) (H':=H6) (ch:=fp) I7.os I7.base I7.cF I7.iC λb hb=>by
  obtain⟨_,q1,_,q2,q3,q4⟩:=f3 b hb;exact⟨q2,q1,q3,q4⟩
 have Cge:X.s₀.heap.objs.size<=C:=by rw[<-T7];exact I3.sz
 have CL:C≠X.env.locals:=λz=>by
  have:=I3.lt
  rw[<-z,<-T7] at this;exact zaK _ this
 have CC:∀z c,X.env.cells.lookup z=some c->c≠C:=λz c e q=>by
  obtain⟨v,hv⟩:=I3.cell z c e
  have:=hv.lt
  rw[q,<-T7] at this;exact zaK _ this
 have CP:∀p∈X.pn++ah,p.1≠C:=λp hp q=>by
  have:=zan (I3.Bu p hp).1
  rw[q,<-T7] at this;exact zaK _ this
 show wpAny _ X.A (assign (.Name y py) X.env (.ref D)) _ _ s7
 refine wpAny_assign_Name (xK I8 hN hiy (.inl hly) (v:=.ref D) rfl (λs8 I9 sb=>?_) (.inr hly))
 obtain⟨a8,sb8,ha8⟩:=sb;have a8C:C≠a8:=by
  rcases ha8 with z|z
  ·rw[z];exact CL
  ·exact zbg (CC _ _ z)
 refine⟨m7,hn7.sameBut sb8 a8C,λh9 hs9=>⟨_,H6,?_,qn⟩⟩
 exact I9.kT (it:=C) (t':=s8.toks) (λb o nb e=>(hs9.2 b nb).trans e) hCn CL (.inr Cge) CC CP
noncomputable def abP:V->List V->Hp->VK->Prop:=λx vs H Q=>∃(l:Addr) (xs:List V) (y z:V) (j:Nat),x = .ref l/\vs=[y]/\H l=some (.bS xs)/\iU y=true/\xs.all iU=true/\xs[j]? = some z/\Ab z y=true/\(∀m z',m<j->xs[m]? = some z'->Ab z' y=false)/\Q (.int (j:Int)) H
theorem NL:MtM X "list.index" abP:=by
 intro ah s σ H x vs v us Q I rx rv h;obtain⟨l,xs,y,z,j,rfl,rfl,hH,fy,fs,hj,he,hno,q⟩:=h;cases rx;obtain⟨u,rfl,ru⟩:=rv.MB;obtain⟨hz,bw,n,r,hl,e⟩:=I.Kc hH;have hs:sizeLine=16777216:=by decide
 have jl:j<bw.length:=by rw[<-hl];exact (zab.mp hj).1
 have sr:∀(m:Nat) (hm:m<bw.length),∃z',xs[m]? = some z'/\BO y bw[m]=Ab z' y:=λm hm=>by
  have hm':m<xs.length:=by omega
  obtain⟨w',hw,EM⟩:=r.get (zaf hm')
  have ew:bw[m]=w':=by
   rw[zaf hm] at hw;exact zaw hw
  refine⟨_,zaf hm',?_⟩
  rw[ew];exact EU EM (zaQ.mp fs _ (zcr _))
 refine call_meets F.slot_list_index ⟨_,e,rfl⟩ F.entry_list_index (F.args_list_index_2 _ _)
  (SeqAt.list_indexAt l bw.toArray n none #[] u (BO y) j (by simpa using jl) (by omega) ?_ ?_) ⟨e,?_,⟨.int (j:Int),H,I.oJ _,⟨_,rfl⟩,q⟩⟩
 ·obtain⟨z',e1,e2⟩:=sr j jl
  rw[hj] at e1;cases e1;have:bw.toArray[j]'(by simpa using jl)=bw[j]:=by simp
  rw[this,e2];exact he
 ·intro m hm hmj
  have hm':m<bw.length:=by simpa using hm
  obtain⟨z',e1,e2⟩:=sr m hm';have:bw.toArray[m]'hm=bw[m]:=by simp
  rw[this,e2];exact hno m z' hmj e1
 ·intro w' hw
  exact kr ru fy r fs w' (by simpa using hw)
noncomputable def gY (C:Addr)(od:Option Addr)(t:Addr)(tb:Value):Obj:={cls:=.ref C,dict:=od,data:=.fields #[.ref t,tb,.none,.none,.bool false,.none]}
noncomputable def uf (h:Heap)(T:Addr):Prop:=∃oT ts,h.get? T=some oT/\oT.data = .fields ts/\ts[3]? = some Value.none
section
variable {M:Model}{A:Around}{E:Value->Shared->Prop}{s:Shared}
structure NO (S:List Addr) (a C t:Addr) (od:Option Addr) (h h':Heap) (T:Addr):Prop where
 kU:h'.get? a=some (gY C od t (.ref T))
 tb:uf h' T
 new:h.objs.size<=T
 keep:∀b o,h.get? b=some o->b≠a->b∉S->h'.get? b=some o
 slot:∀b o,h.get? b=some o->b≠a->∃sl,h'.get? b=some {o with slots:=sl}
theorem x_ 
  (BY:A.frames=some (env::outer)) (hl:s.heap.FunFrames base (env::outer)) (hf:env.frame=some L) (ha:s.heap.get? a=some (gY C od t tb))
  (k:∀h' T,NO ((env::outer).filterMap (·.frame)) a C t od s.heap h' T->Q () {s with heap:=h' }):
  wpAny M A (do let fr <-frameOf env;let pl <-entryPlaceOf L al3;let b <-EntryCells.newEntry head fr .none (rawInt L) .none pl;setField (.ref a) 1 b) (λ_ s'=>wpAny M A (setFlight (.ref a) none) Q E s') E s:=by
 have na:a∉(env::outer).filterMap (·.frame):=λhm=>by
  obtain⟨_,o,ho,hnf⟩:=hl.mem hm;rw[ha] at ho;cases ho;exact hnf _ rfl
 refine zaa (wpAny_frameOf_fun BY hl hf λg1 E8=>zaa (wpAny_entryPlaceOf λpl hpl=>?_))
 unfold EntryCells.newEntry newFields;refine zaa (zaS ?_ (hpl.sizeOk5 _ _ _ _ _))
 have NP:g1.get? a=some (gY C od t tb):=(E8.2.1 a na).trans ha
 generalize hts:([head,Value.ref L,Value.none,rawInt L,Value.none]++(if pl.isEmpty then List.replicate 6 Value.none else pl)).toArray=ts
 have h3:3<ts.size:=by rw[<-hts];simp only[zao,zaj,zaF,zaI];omega
 have Xf:(g1.push { cls:=.type "traceback",dict:=none,data:=.fields ts}).get? a=some (gY C od t tb):=zac _ NP
 have Ta:g1.objs.size≠a:=zbS (zan NP)
 refine zbJ Xf rfl (by show 1<6;decide) ?_
 have ha3:((g1.push { cls:=.type "traceback",dict:=none,data:=.fields ts}).update a (Obj.mapFields (·.setIfInBounds 1 (Value.ref g1.objs.size)))).get? a=some (gY C od t (.ref g1.objs.size)):=by
  rw[zaR _ Xf rfl];rfl
 have hT3:((g1.push { cls:=.type "traceback",dict:=none,data:=.fields ts}).update a (Obj.mapFields (·.setIfInBounds 1 (Value.ref g1.objs.size)))).get? g1.objs.size=some { cls:=.type "traceback",dict:=none,data:=.fields ts}:=
  (zaD _ _ (zbg Ta)).trans (zap g1 rfl)
 unfold setFlight;refine zaa (zbx ha3 rfl (x:=.ref g1.objs.size) rfl ?_)
 rw[if_pos (show (Value.ref g1.objs.size != Value.none)=true from by simp)]
 refine zbJ hT3 rfl h3 (k _ g1.objs.size ?_)
 have keep:∀b o,b≠a->g1.get? b=some o->(((g1.push { cls:=.type "traceback",dict:=none,data:=.fields ts}).update a (Obj.mapFields (·.setIfInBounds 1 (Value.ref g1.objs.size)))).update g1.objs.size
   (Obj.mapFields (·.setIfInBounds 3 ((none:Option Addr).elim Value.none λf=>rawInt f)))).get? b=some o:=λb o nb hb=>by
  have hbT:g1.objs.size≠b:=zbS (zan hb)
  rw[zaD _ _ hbT,zaD _ _ (zbg nb)];exact zac _ hb
 refine⟨?_,⟨_,_,zaR _ hT3 rfl,rfl,by simp[h3]⟩,by rw[E8.1];exact zah _,λb o hb nb nS=>keep b o nb ((E8.2.1 b nS).trans hb),λb o hb nb=>?_⟩
 ·rw[zaD _ _ Ta]
  exact ha3
 ·obtain⟨sl,hs⟩:=E8.2.2 b o hb
  exact⟨sl,keep b _ nb hs⟩
theorem BZ 
  (BY:A.frames=some (env::outer)) (hl:s.heap.FunFrames base (env::outer)) (hf:env.frame=some L) (ha:s.heap.get? a=some (gY C od t .none))
  (k:∀h' T,NO ((env::outer).filterMap (·.frame)) a C t od s.heap h' T->Q () {s with heap:=h' }):wpAny M A (leaving env (.ref a)) Q E s:=by
 unfold leaving noteFrame;simp only[hf];refine zaa (zaa (zbx ha rfl (x:=.none) rfl ?_))
 rw[if_neg (by decide)]
 exact x_ BY hl hf ha k
theorem ya 
  (BY:A.frames=some (env::outer)) (hl:s.heap.FunFrames base (env::outer)) (hf:env.frame=some L) (ha:s.heap.get? a=some (gY C od t (.ref T))) (hT:uf s.heap T) (nT:T≠a)
  (k:∀h1 h' T',(∀b o,b≠T->s.heap.get? b=some o->h1.get? b=some o)->uf h1 T->h1.objs.size=s.heap.objs.size->NO ((env::outer).filterMap (·.frame)) a C t od h1 h' T'->Q () {s with heap:=h' }):wpAny M A (noteFrame (.ref a) env) (λ_ s'=>wpAny M A (setFlight (.ref a) none) Q E s') E s:=by
 obtain⟨oT,ts,eT,dT,h3⟩:=hT;unfold noteFrame;simp only[hf];refine zaa (zbx ha rfl (x:=.ref T) rfl ?_)
 rw[if_pos (show (Value.ref T != Value.none)=true from by simp)]
 refine zaa (zbx eT dT h3 ?_)
 rw[if_neg (show ¬ ((Value.none == rawInt L)=true) from by simp[rawInt])]
 have sz:=(zdu.mp h3).1
 refine zaa (zbJ eT dT sz ?_)
 have Hq:∀b o,b≠T->s.heap.get? b=some o->(s.heap.update T (Obj.mapFields (·.setIfInBounds 3 Value.none))).get? b=some o:=λb o nb e=>(zaD _ _ (zbg nb)).trans e
 have fT:(s.heap.update T (Obj.mapFields (·.setIfInBounds 3 Value.none))).get? T=some (Obj.mapFields (·.setIfInBounds 3 Value.none) oT):=zaR _ eT (zcm (zbp dT _))
 have hl':(s.heap.update T (Obj.mapFields (·.setIfInBounds 3 Value.none))).FunFrames base (env::outer):=hl.of_keeps λb o hb hnf=>⟨o,Hq b o (λq=>by rw[q,eT] at hb;cases hb;exact hnf ts dT) hb,rfl⟩
 refine x_ (s:={s with heap:=s.heap.update T (Obj.mapFields (·.setIfInBounds 3 Value.none))}) BY hl' hf (Hq a _ (zbg nT) ha) λh' T' lf=>k _ h' T' Hq ⟨_,_,fT,zbp dT _,by simp[sz]⟩ ?_ lf
 exact (zbY ..).1
end
theorem Ko (hh:A.handled=none)
  (h:wpAny M A x (λv s1=>∃(a t:Addr) (od:Option Addr) (nm q:Str) (C N:Addr) (bs bm:List Value) (sD:Bool) (sn:List Str) (sub:List Value) (ab:Bool) (qQ:Option Bool) (dd:Option Addr) (k0 k1 k2 k3 k5:Option Value) (oO:String),v = .ref a /\
   bm.contains (.type "BaseException")=true/\s1.heap.get? C=some (excClassObj nm q C N bs bm sD sn sub ab qQ dd k0 k1 k2 k3 k5 oO)/\s1.heap.get? a=some (k_ C od t)/\E (.ref a) s1) E s):wpAny M A (raiseStmt env (some x) none) Q E s:=by
 unfold raiseStmt;refine zaa (zaA h (λv s1 h1=>?_) λ_ _ z=>z)
 obtain⟨a,t,od,nm,q,C,N,bs,bm,sD,sn,sub,ab,qQ,dd,k0,k1,k2,k3,k5,oO,rfl,hb,hC,ha,hE⟩:=h1;have hcb:(Value.ref C::bm).contains (.type "BaseException")=true:=by rw[zaW,hb,zcC]
 unfold k_ at ha;obtain⟨hp,g,d,tk,os⟩:=s1;repeat (first|with_reducible refine zbE ha ?_|with_reducible refine zbE hC ?_ | (with_reducible refine zcv hC ?_;rw[hcb])|wp_step)
 exact wpAny_raiseNew_none hh hE
noncomputable def o6 (a C:Addr)(od:Option Addr)(T:Addr):HO:=.ext λh=>∃t:Addr,h.get? a=some (gY C od t (.ref T))
noncomputable def TB (T:Addr):HO:=.ext λh=>uf h T
theorem NQ (e:h.get? a=some (gY C od t (.ref T))):cP P w H h a (o6 a C od T):=
 ⟨⟨t,e⟩,⟨_,e⟩,λh1 h2 cA k=>by obtain⟨t',e'⟩:=cA;exact⟨t',k _ e'⟩⟩
theorem HQ (e:uf h T):cP P w H h T (TB T):=by
 obtain⟨oT,ts,e1,e2,e3⟩:=id e;exact⟨e,⟨_,e1⟩,λh1 h2 dR k=>by obtain⟨o,ts',x1,x2,x3⟩:=dR;exact⟨o,ts',k _ x1,x2,x3⟩⟩
noncomputable def oh (P:Program)(w:World):BE:=λouter H s E e s'=>∃(a T C:Addr) (od:Option Addr) (H':Hp),e = .ref a/\s'.os=s.os/\AllBare s'.gens/\Un (sQ outer) [] H H' s.heap s'.heap/\nH P w H' s'.heap /\
 H' a=some (o6 a C od T)/\H' T=some (TB T)/\T≠a/\E (.ref C) (some a) H'
noncomputable def abR (K:PySem.W.Frag)(E:XK)(te:TE):TS:=λ_ σ H=>te σ H λv H1=>∃(a C f:Addr) (bm:List Value) (od:Option Addr),v = .ref a/\H1 a=some (EO a C od)/\iY K C f bm /\
 ∀T,H1 T=none->T≠a->E (.ref C) (some a) (bG (bG H1 a (o6 a C od T)) T (TB T))
section
variable {P:Program}{w:World}{K:PySem.W.Frag}{mg:Str->Option Value}{base:Heap}{N:List Str}{bX:Str}{scope:Scope}{f:Addr}{fB:Value}{A:Around}{outer:List Env}{s₀:Shared}{H₀:Hp}{E:XK}
theorem Uk (I:aK (iN (oh P w) P w K mg base N bX scope f fB A outer s₀ H₀ E) ah σ H s)(ha:∃ φ,H a=some (.ext φ))(Ta:T≠a)
  (Lf:NO (sQ ((iN (oh P w) P w K mg base N bX scope f fB A outer s₀ H₀ E).env::outer)) a C t od s.heap h' T):
  Un (sQ outer) [] H₀ (bG (bG H a (o6 a C od T)) T (TB T)) s₀.heap h'/\nH P w (bG (bG H a (o6 a C od T)) T (TB T)) h':=by
 obtain⟨φ,ha⟩:=ha;have hT:H T=none:=I.cF.fresh Lf.new
 have lt:∀b o,s₀.heap.get? b=some o->b<s₀.heap.objs.size:=λb o e=>zan e
 have sz:s₀.heap.objs.size<=s.heap.objs.size:=I.sz
 have bT:∀b o,s₀.heap.get? b=some o->b≠T:=λb o e=>zar (zak (lt b o e) (zag sz Lf.new))
 have nf:∀b o,s₀.heap.get? b=some o->b∉sQ outer->b∉sQ ((iN (oh P w) P w K mg base N bX scope f fB A outer s₀ H₀ E).env::outer):=λb o e nb z=>by
  have z':b∈((iN (oh P w) P w K mg base N bX scope f fB A outer s₀ H₀ E).env::outer).filterMap (·.frame):=z
  rw[zct] at z';have:b=s₀.heap.objs.size\/b∈sQ outer:=by
   have z2:b∈s₀.heap.objs.size::outer.filterMap (·.frame):=z'
   exact zam.mp z2
  rcases this with q|q
  ·exact absurd (lt b o e) (by rw[q];exact zaK _)
  ·exact nb q
 have U:=I.base;refine⟨⟨λb o e n1 n2 n3=>?_,λb o e n1 n2 n3=>?_,λb o e n1 n2=>?_,λb o e n2=>?_,λb xs e=>?_,λb o u e=>?_,λb ps e=>?_⟩,λb u e=>?_⟩
 ·have e1:=U.keep b o e n1 n2 n3
  have nb:b≠a:=λz=>by
   have:=U.free b o e n1 n3
   rw[z,ha] at this;cases this
  exact Lf.keep b o e1 nb (nf b o e n2)
 ·obtain⟨sl,e1⟩:=U.slot b o e n1 n2 n3
  have nb:b≠a:=λz=>by
   have:=U.free b o e n1 n3
   rw[z,ha] at this;cases this
  obtain⟨Nd,e2⟩:=Lf.slot b _ e1 nb;exact⟨Nd,e2⟩
 ·have e1:=U.free b o e n1 n2
  have nb:b≠a:=λz=>by rw[z,ha] at e1;cases e1
  rw[au (bT b o e),au nb];exact e1
 ·obtain⟨o',e1⟩:=U.there b o e n2
  by_cases z:b=a
  ·rw[z];exact⟨_,Lf.kU⟩
  ·obtain⟨sl,e2⟩:=Lf.slot b o' e1 z
   exact⟨_,e2⟩
 ·have e1:=U.tN b xs e
  have nb:b≠a:=λz=>by rw[z,ha] at e1;cases e1
  have nT:b≠T:=λz=>by rw[z,hT] at e1;cases e1
  rw[au nT,au nb];exact e1
 ·have e1:=U.sf b o u e
  have nb:b≠a:=λz=>by rw[z,ha] at e1;cases e1
  have nT:b≠T:=λz=>by rw[z,hT] at e1;cases e1
  rw[au nT,au nb];exact e1
 ·obtain⟨jT,e1⟩:=U.tO b ps e
  have nb:b≠a:=λz=>by rw[z,ha] at e1;cases e1
  have nT:b≠T:=λz=>by rw[z,hT] at e1;cases e1
  exact⟨jT,by rw[au nT,au nb];exact e1⟩
 ·by_cases zT:b=T
  ·subst zT
   rw[av] at e;cases e;exact HQ Lf.tb
  ·rw[au zT] at e
   by_cases za:b=a
   ·subst za
    rw[av] at e;cases e;exact NQ Lf.kU
   ·rw[au za] at e
    have free:∀c,c∈sQ ((iN (oh P w) P w K mg base N bX scope f fB A outer s₀ H₀ E).env::outer)->H c=none:=λc hc=>I.xr.MF c hc
    refine (I.cF b u e).qK (λc v hc q=>?_) (λc hc=>?_) (λc xs hc=>?_)
    ·have hcn:∃uu,H c=some uu/\c≠a:=by
      rcases hc with z|z
      ·exact⟨u,by rw[z];exact e,by rw[z];exact za⟩
      ·exact⟨_,z,λq=>by rw[q,ha] at z;cases z⟩
     obtain⟨uu,h1,h2⟩:=hcn;refine Lf.keep c v q h2 λz=>?_
     rw[free c z] at h1;cases h1
    ·have nb:c≠a:=λz=>by rw[z,ha] at hc;cases hc
     have nT:c≠T:=λz=>by rw[z,hT] at hc;cases hc
     rw[au nT,au nb];exact hc
    ·have nb:c≠a:=λz=>by rw[z,ha] at hc;cases hc
     have nT:c≠T:=λz=>by rw[z,hT] at hc;cases hc
     rw[au nT,au nb];exact hc
theorem NR (he:PE (iN (oh P w) P w K mg base N bX scope f fB A outer s₀ H₀ E) ex te):
  PS (iN (oh P w) P w K mg base N bX scope f fB A outer s₀ H₀ E) (.Raise (some ex) none pos) (abR K E te):=by
 intro ah s σ H D I h;rw[arm_exec_Raise];refine zaa (zcN (Ko (I.ok.hd rfl) ?_))
 refine zaa (zaA (he ah s σ H _ I h) (λv s1 ⟨y,H1,I1,r,a,C,g,bm,od,ey,ha,Mk,q⟩=>zaa (zcN (zad ?_))) λ_ _ z=>z)
 subst ey;cases (show v=Value.ref a from r)
 obtain⟨nm,qn,N',bs,sn,sub,ab,qQ,dd,k0,k1,k2,k3,k5,lk⟩:=Mk.kU;obtain⟨B,eb⟩:=Mk.nb;obtain⟨t,ea⟩:=ND I1 ha;have hb:bm.contains (.type "BaseException")=true:=by
  rw[eb,zaW];have:lW.contains (.type "BaseException")=true:=by decide +kernel
  rw[this,zcC]
 refine⟨a,t,od,nm,qn,C,N',bs,bm,true,sn,sub,ab,qQ,dd,k0,k1,k2,k3,k5,"ValueError.__new__",rfl,hb,I1.nI _ _ lk,ea,?_⟩
 refine BZ (base:=base) (env:=(iN (oh P w) P w K mg base N bX scope f fB A outer s₀ H₀ E).env) (outer:=outer) I1.ok.frames I1.xr.kR rfl (show s1.heap.get? a=some (gY C od t .none) from ea) λh' T Lf=>?_
 have Ta:T≠a:=zbS (zak (zan ea) Lf.new)
 obtain⟨un,cF⟩:=Uk I1 ⟨_,ha⟩ Ta Lf
 exact⟨a,T,C,od,_,rfl,I1.os,I1.iC,un,cF,by rw[au Ta.symm];exact av,av,Ta,q T (I1.cF.fresh Lf.new) Ta⟩
theorem Nq.okX {st:Stmt}(F:Nq K x bX st f fd)(S:aq N ps (aj st))(len:∀vs H Q E,sp vs H Q E->vs.length=ps.length)
  (t6:∀(fB:Value) (A:Around) (outer:List Env) (s:Shared) (H:Hp) (vs:List V) (Q:VK) (E:XK),gJ k (A.deeper (envOfC bX (aj st) s.heap.objs.size f fB))->sp vs H Q E ->
   ∃t,xq (iN (oh P w) P w K mg base N bX (aj st) f fB A outer s H E) (cI st) t/\t {nx:=λ_ H'=>Q .bz H',rt:=Q} (dg N vs) H):aO P w K mg base (oh P w) (k+1) f fd ps sp:=by
 obtain⟨oc,od,kV,oY,pm,an,fB,ct,Ei,rfl,lk,BA⟩:=F.ex;exact M7 lk BA S len λA outer s H vs Q E hr Mu=>t6 fB A outer s H vs Q E hr Mu
end
theorem aK.B3 (I:aK X ah σ H s)(ha:H a=some (o6 a C od T))(hT:H T=some (TB T))(Ta:T≠a)(Ul:T'≠a)(k1:∀b o,b≠T->s.heap.get? b=some o->h1.get? b=some o)(tb1:uf h1 T)(z1:h1.objs.size=s.heap.objs.size)
  (Lf:NO (sQ X.cR) a C t od h1 h' T'):aK X ah σ (bG (bG H a (o6 a C od T')) T' (TB T')) {s with heap:=h' }:=by
 have nT':H T'=none:=I.cF.fresh (by rw[<-z1];exact Lf.new)
 have free:∀c,c∈sQ X.cR->H c=none:=λc hc=>I.xr.MF c hc
 have TS:T∉sQ X.cR:=λz=>by rw[free T z] at hT;cases hT
 have aS:a∉sQ X.cR:=λz=>by rw[free a z] at ha;cases ha
 have bT':∀b o,s.heap.get? b=some o->b≠T':=λb o e=>zar (zak (zan e) (by rw[<-z1];exact Lf.new))
 have ne:∀{b},H b=none->b≠a/\b≠T:=λ{b} n=>⟨λz=>(by rw[z,ha] at n;cases n),λz=>(by rw[z,hT] at n;cases n)⟩
 have tb':uf h' T:=by
  obtain⟨oT,ts,e1,e2,e3⟩:=tb1;exact⟨oT,ts,Lf.keep T oT e1 Ta TS,e2,e3⟩
 have ex:∀{b u},H b=some u->(∀ φ,u ≠ .ext φ)->bG (bG H a (o6 a C od T')) T' (TB T') b=some u:=λ{b u} e n=>by
  have nb:b≠a:=λz=>by rw[z,ha] at e;exact n _ (zaw e).symm
  have nt:b≠T':=λz=>by rw[z,nT'] at e;cases e
  rw[au nt,au nb];exact e
 refine I.Bx (s':={s with heap:=h' }) (ch:=[]) rfl ⟨λb o e n1 n2 n3=>?_,λb o e n1 n2 n3=>?_,λb o e n1 n2=>?_,λb o e n2=>?_,λb xs e=>ex e (λφ z=>by cases z),λb o u e=>ex e (λφ z=>by cases z),λb ps e=>⟨#[],by rw[ex e (λφ z=>by cases z)];simp⟩⟩ (λb u e=>?_) I.iC (λb z=>absurd z (by simp))
 ·exact Lf.keep b o (k1 b o (ne n1).2 e) (ne n1).1 n2
 ·exact Lf.slot b o (k1 b o (ne n1).2 e) (ne n1).1
 ·rw[au (bT' b o e),au (ne n1).1]
  exact n1
 ·by_cases za:b=a
  ·rw[za];exact⟨_,Lf.kU⟩
  ·by_cases zT:b=T
   ·rw[zT]
    obtain⟨oT,ts,e1,_⟩:=tb';exact⟨oT,e1⟩
   ·obtain⟨sl,e2⟩:=Lf.slot b o (k1 b o zT e) za
    exact⟨_,e2⟩
 ·by_cases zT':b=T'
  ·subst zT'
   rw[av] at e;cases e;exact HQ Lf.tb
  ·rw[au zT'] at e
   by_cases za:b=a
   ·subst za
    rw[av] at e;cases e;exact NQ Lf.kU
   ·rw[au za] at e
    by_cases zT:b=T
    ·subst zT
     rw[hT] at e;cases e;exact HQ tb'
    ·refine (I.cF b u e).qK (λc v hc q=>?_) (λc hc=>ex hc (λφ z=>by cases z)) (λc xs hc=>ex hc (λφ z=>by cases z))
     have hcn:∃uu,H c=some uu/\c≠a/\c≠T:=by
      rcases hc with z|z
      ·exact⟨u,by rw[z];exact e,by rw[z];exact za,by rw[z];exact zT⟩
      ·exact⟨_,z,λq=>(by rw[q,ha] at z;cases z),λq=>(by rw[q,hT] at z;cases z)⟩
     obtain⟨uu,g1,g2,g3⟩:=hcn;exact Lf.keep c v (k1 c v g3 q) g2 λz=>by rw[free c z] at g1;cases g1
theorem jG (I:aK X ah σ H s)(hN:X.N.Nodup)(hi:X.N[l]? = some n)(hx:X.env.scope.names.lookup n=some .local)
  (h:∀s',aK X ah (σ.set l none) H s'->Q () s'):wpAny M A (do bindName X.env n .none;unbindBehindTheSuite X.env n pos) Q E s:=by
 have MH:(X.env.scope.kind == .class || (X.env.scope.kind == .module && X.env.locals != X.env.globals))=false:=by rw[I.ok.kind];rfl
 refine zaa (wpAny_bindName (mP I hN hi (.inl hx) (v:=.bz) rfl (λs1 I1=>?_) (.inr hx)))
 unfold unbindBehindTheSuite;refine wpAny_onRaise ?_
 unfold unbindName;refine zaa (wpAny_point (zaa ?_))
 unfold deleteName;have HB:X.env.kindOf n=some .local:=hx
 simp only[HB,MH];rw[if_neg (by decide)]
 obtain⟨m,hn,hl⟩:=id I1.Bh;have aij:l<σ.length:=by rw[I.len];exact (zab.mp hi).1
 have isS:(m n).isSome=true:=by
  obtain⟨u,r,q⟩:=hl l n .bz hi (by rw[zaB aij]) (.inl hx)
  rcases q with⟨_,q⟩|⟨kk,_⟩
  ·rw[q];rfl
  ·rcases kk with kk|kk<;>(rw[HB] at kk;cases kk)
 refine zaa (wpAny_nsDel_keeps hn λh2 v Mq hs=>?_)
 rw[isS];simp only[Bool.not_true,zch,if_false];refine zad (wpAny_point (h _ ?_))
 obtain⟨oL,_,_,hoL,_⟩:=id hn;have MG:=I1.MG;have pI:nH X.prog X.w H h2:=λb ob e=>by
  refine (I1.cF b ob e).qK (λc w' hc q=>(hs.2 c ?_).trans q) (λ_ q=>q) λ_ _ q=>q
  intro z;rcases hc with hc|hc
  ·rw[<-hc,z,I1.free] at e;cases e
  ·rw[z,I1.free] at hc;cases hc
 refine⟨I1.ok,I1.os,I1.iC,⟨λb o e n hb hx=>?_,λb o e n hb hx=>?_,I1.base.free,λb o e hx=>?_,I1.base.tN,I1.base.sf,I1.base.tO⟩,⟨_,Mq,λj y v' e1 e2 e3=>?_⟩,λy c e=>?_,I1.free,I1.kg,λp hp=>?_,pI,by simpa using I.len⟩
 ·exact (hs.2 b (zar (zak (zan e) I.ok.above))).trans (I1.base.keep b o e n hb hx)
 ·obtain⟨sl,e1⟩:=I1.base.slot b o e n hb hx
  exact⟨sl,(hs.2 b (zar (zak (zan e) I.ok.above))).trans e1⟩
 ·obtain⟨o',e1⟩:=I1.base.there b o e hx
  exact⟨o',(hs.2 b (zar (zak (zan e) I.ok.above))).trans e1⟩
 ·by_cases hj:j=l
  ·subst hj
   rw[zaB aij] at e2;cases e2
  ·rw[zaz (zbg hj)] at e2
   obtain⟨u',r',q⟩:=hl j y v' e1 (by rw[zaz (zbg hj)];exact e2) e3
   refine⟨u',r',?_⟩
   rcases q with⟨k,e⟩|⟨k,c,e,z⟩
   ·refine .inl ⟨k,?_⟩
    have:y≠n:=λe=>hj (tQ hN e1 (e ▸ hi))
    simp[this,e]
   ·exact .inr ⟨k,c,e,z.sameBut hs (MG y c e)⟩
 ·obtain⟨w',z⟩:=I1.cell y c e
  exact⟨w',z.sameBut hs (MG y c e)⟩
 ·obtain⟨e,n,ne,nf,d⟩:=I1.Bu p hp
  exact⟨(hs.2 p.1 ne).trans e,n,ne,nf,d⟩
noncomputable def Cx.iP (X:Cx)(a:Addr):Cx:={X with A:=X.A.mark (some (.ref a)),e_:=false}
theorem aK.iP (I:aK X ah σ H s)(a:Addr):aK (X.iP a) ah σ H s:=
 ⟨⟨I.ok.sR,I.ok.kind,I.ok.tP,I.ok.W2,I.ok.above,I.ok.inj,I.ok.has,I.ok.cab,λh=>absurd (show false=true from h) zal,I.ok.frames,I.ok.stk,I.ok.exf,I.ok.bs,I.ok.Sh,I.ok.iB,I.ok.Et,I.ok.kR,I.ok.MF⟩,I.os,I.iC,I.base,I.Bh,I.cell,I.free,I.kg,I.Bu,I.cF,I.len⟩
theorem aK.iF {a:Addr}(I:aK (X.iP a) ah σ H s)(hd:X.e_=true->X.A.handled=none):aK X ah σ H s:=
 ⟨⟨I.ok.sR,I.ok.kind,I.ok.tP,I.ok.W2,I.ok.above,I.ok.inj,I.ok.has,I.ok.cab,hd,I.ok.frames,I.ok.stk,I.ok.exf,I.ok.bs,I.ok.Sh,I.ok.iB,I.ok.Et,I.ok.kR,I.ok.MF⟩,I.os,I.iC,I.base,I.Bh,I.cell,I.free,I.kg,I.Bu,I.cF,I.len⟩
section
variable {X:Cx}{k:Nat}{g B:Addr}{fd:FuncData}{ps:List Str}{sp:Sp}{e:Expr}{es:List Expr}{t:TA}{x y n fn cB:Str}{i j l:Nat}{xp p cp ap np yp np2 bp hp pos:Pos}
 {NS q':Str} {N':Addr} {NT:List Value} {mV:Bool} {NU:List Str} {ug:List Value} {NV:Bool} {uh:Option Bool} {xU:Option Addr} {j0 j1 j2 j3 j5:Option Value} {jg:String}
end
theorem E9 {h:Heap}{a C t d:Addr}{tb:Value}{o:Obj}(e:h.get? a=some (gY C (some d) t tb))(hd:h.get? d=some o):PySem.W.InstAt h a (gY C (some d) t tb) C (some o):=⟨e,rfl,rfl,hd⟩
theorem E_ {od:Option Addr}(I:aK X ah σ H s)(h:H a=some (o6 a C od T)):∃t,s.heap.get? a=some (gY C od t (.ref T)):=(I.cF a _ h).1
theorem NW {b:Bool}{Q:Value->Shared->Prop}(I:aK X ah σ H s)(M:iY X.K C f bm)(ha:H a=some (o6 a C (some d) T))(hd:H d=some (ED d fs))(hn:PySem.W.findIn X.K (.ref C) g=some none)(l:fs.lookup g=some v)
  (h:∀u s',aK X ah σ H s'->bI v u->Q u s'):wpAny (model X.prog X.w) A (getAttr (.ref a) g b) Q E s:=by
 obtain⟨t,e⟩:=E_ I ha;obtain⟨mA,ns,r,_⟩:=HM I hd;obtain⟨oD,Mr,hl⟩:=ki ns;obtain⟨u,hu,ru⟩:=iW.sU (v:=v) (o:=mA g) (by rw[<-l];exact r g)
 obtain⟨cd,hc,_,sD⟩:=M.cls;have hf:PySem.W.findObj X.K C (some oD) g=some (.value u):=by
  unfold PySem.W.findObj;rw[hc,zaX,hn,zaX];simp[PySem.W.ownOf,sD,hl,hu]
 exact E2 I.nI (E9 e Mr) M hf (xO ru) (h u _ (I.oJ _) ru)
noncomputable def abT (K:PySem.W.Frag)(ta:TE)(g:Str):TE:=λσ H Q=>ta σ H λx H1=>∃a C f bm d T fs v,x = .ref a/\H1 a=some (o6 a C (some d) T)/\H1 d=some (ED d fs)/\iY K C f bm/\PySem.W.findIn K (.ref C) g=some none/\fs.lookup g=some v/\Q v H1
theorem NX (he:PE X e ta)(hb:autoParam (attributeBase e g X.env (eval e X.env)=eval e X.env) zp_0):PE X (.Attribute e g pos) (abT X.K ta g):=by
 intro ah s σ H Q I h;refine Hz hb (cQ (he ah s σ H _ I h) λu s1 cA=>?_)
 obtain⟨x,H1,I1,rx,a,C,f,bm,d,T,fs,v,ex,ea,ed,M,n,l,q⟩:=cA;subst ex;obtain rfl:u=Value.ref a:=rx
 exact NW I1 M ea ed n l λu' s2 I2 ru=>⟨v,H1,I2,ru,q⟩
noncomputable def Xg (K:PySem.W.Frag):List V->Hp->VK->Prop:=λxs H Q=>∃(a C f T:Addr) (bm:List Value) (d:Addr) (fs:List (Str×V)) (c:V) (u:Value) (b:Bool),xs=[.ref a,c]/\H a=some (o6 a C (some d) T)/\H d=some (ED d fs)/\iY K C f bm /\
 bI c u/\(∀u',bI c u'->u'=u)/\PySem.W.specialIn K (.builtin "object.__class__") "__get__"=some (some (.builtin "getset_descriptor.__get__"))/\PySem.W.takesIn K (.builtin "object.__class__")=some true/\PySem.W.kitOne K (.ref C) u=some b/\Q (.bl b) H
theorem yb:jD X (.builtin "isinstance") (Xg X.K):=by
 intro ah s σ H xs us Q I r h;obtain⟨a,C,f,T,bm,d,fs,c,u,b,rfl,ha,hd,M,rc,uc,h1,h2,e,q⟩:=h;obtain⟨v1,v2,rfl,r1,r2⟩:=r.two;cases (show v1=Value.ref a from r1)
 rw[uc v2 r2];obtain⟨t,ea⟩:=E_ I ha;obtain⟨mA,ns,_,_⟩:=HM I hd;obtain⟨oD,Mr,_⟩:=ki ns;exact PySem.W.kia_one (BW (ox:=gY C (some d) t (.ref T)) (od:=some oD) M h1 h2) I.nI (E9 ea Mr) e (λz=>nomatch z) λtk=>⟨.bl b,H,I.oJ tk,rfl,q⟩
end L2
namespace L2
open PySem PySem.Spec PyProof.Rows
theorem at0 {α:Type}{a:α}{xs:List α}:iX (a::xs) 0=some a:=iw (j:=0) rfl
theorem at1 {α:Type}{a b:α}{xs:List α}:iX (a::b::xs) 1=some b:=iw (j:=1) rfl
theorem at2 {α:Type}{a b c:α}{xs:List α}:iX (a::b::c::xs) 2=some c:=iw (j:=2) rfl
theorem at3 {α:Type}{a b c d:α}{xs:List α}:iX (a::b::c::d::xs) 3=some d:=iw (j:=3) rfl
theorem at4 {α:Type}{a b c d e:α}{xs:List α}:iX (a::b::c::d::e::xs) 4=some e:=iw (j:=4) rfl
theorem at5 {α:Type}{a b c d e f:α}{xs:List α}:iX (a::b::c::d::e::f::xs) 5=some f:=iw (j:=5) rfl
theorem at6 {α:Type}{a b c d e f g:α}{xs:List α}:iX (a::b::c::d::e::f::g::xs) 6=some g:=iw (j:=6) rfl
theorem at7 {α:Type}{a b c d e f g h:α}{xs:List α}:iX (a::b::c::d::e::f::g::h::xs) 7=some h:=iw (j:=7) rfl
theorem lg (ha:H a=none)(hb:H b=some x):bG H a o b=some x:=by rw[au (dW hb ha)];exact hb
noncomputable def aik:V->V->V->Hp->(Hp->Prop)->Prop:=λo i v H Q=>∃p k,o = .ref p/\i = .int k/\match H p with
 |some (.bS xs)=>(match Bk xs.length k with|some j=>Q (bG H p (.bS (xs.set j v)))|none=>False)
 |_=>False
theorem ail:aaW X aik:=by
 intro ah s σ H o i v ov iv u Q I ro ri rv h;obtain⟨p,k,rfl,rfl,h⟩:=h;cases e:H p with
 |none=>rw[e] at h;exact h.elim
 |some ob =>
  rw[e] at h;cases ob with
  |bS xs =>
   dsimp only at h
   cases e2:Bk xs.length k with
   |none=>rw[e2] at h;exact h.elim
   |some j=>rw[e2] at h;exact Nh ah s σ H _ _ v ov iv u Q I ro ri rv ⟨p,xs,k,j,rfl,rfl,e,e2,h⟩
  |_=>exact h.elim
noncomputable abbrev Ev:=St->Hp->Option V
section
variable {X:Cx}{a b c:Expr}{ea eb ec:Ev}{pos Um:Pos}
variable {dz:List Expr}
end
theorem NY (hc:X.e_=true):jD X (.builtin "sum") (λxs H Q=>∃(l:Addr) (ns:List Int),xs=[.ref l]/\jC X.K H l (ns.map V.int)/\Q (.int ns.sum) H):=by
 intro ah s σ H xs us Q I r h;obtain⟨l,ns,rfl,hl,q⟩:=h;obtain⟨u,rfl,ru⟩:=tW r;cases ru;obtain⟨bw,r2,pl,_⟩:=I.list hl;have hi:=ES r2;obtain⟨ys,e⟩:=hi.allInts.items;have e2:numsOf bw=ns:=hi.numsOf
 have Xh:=pl.isList;rw[e] at Xh;refine sum_intListG (I.ok.hd hc) Xh λh' tk t' kp=>⟨.int ns.sum,H,I.iA kp,⟨t',?_⟩,q⟩
 have e3:numsOf (intItems ys).toList=ns:=by rw[<-e];exact e2
 rw[nums_intItems] at e3;rw[preSum_eq,zbk (by simp),e3]
inductive DV where
 |fl (v:V)
 |tp (l:List DV)
 |ls (l:List DV)
mutual
noncomputable def iG (K:PySem.W.Frag)(H:Hp):DV->V->Prop
 |.fl w,v=>v=w/\iU w=true
 |.tp l,v=>∃a xs,v = .ref a/\oV K H a xs/\kD K H l xs
 |.ls l,v=>∃a xs,v = .ref a/\jC K H a xs/\kD K H l xs
noncomputable def kD (K:PySem.W.Frag)(H:Hp):List DV->List V->Prop
 |[],xs=>xs=[]
 |d::l,xs=>∃x r,xs=x::r/\iG K H d x/\kD K H l r
end
mutual
noncomputable def DV.yc:DV->Nat
 |.fl _=>0
 |.tp l=>DV.B4 l+1
 |.ls l=>DV.B4 l+1
noncomputable def DV.B4:List DV->Nat
 |[]=>0
 |d::l=>max (DV.yc d) (DV.B4 l)
end
theorem NZ (h:iU w=true):Ab w w=true:=by
 cases w with
 |bz=>rfl
 |bl b=>simp[Ab]
 |int i=>simp[Ab]
 |str z=>simp[Ab]
 |_=>exact absurd (show false=true from h) zal
theorem eB (n:Nat):(List.range n).all (λ_=>true)=true:=by simp
mutual
theorem Kp (I:aK X ah σ H s):∀(d:DV) (A:Around) (x y:V) (v u:Value),iG X.K H d x->iG X.K H d y->bI x v->bI y u->A.units+d.yc<cLine->SeqAt.EqAt A s v u true
 |.fl w,A,x,y,v,u,hx,hy,rx,ry,_=>by
  unfold iG at hx hy;obtain⟨rfl,fw⟩:=hx;obtain⟨rfl,_⟩:=hy;have h:=Ni (A:=A) (s:=s) rx ry fw fw
  rw[NZ fw] at h;exact h
 |.tp l,A,x,y,v,u,hx,hy,rx,ry,hd=>by
  unfold iG at hx hy;obtain⟨a,xs,rfl,sx,dx⟩:=hx;obtain⟨b,ys,rfl,sy,dy⟩:=hy;cases rx;cases ry;obtain⟨bw,r1,p1,_⟩:=I.fY sx;obtain⟨iO,r2,p2,_⟩:=I.fY sy;unfold DV.yc at hd;obtain⟨hl,he⟩:=gC I l A.in1 xs ys bw iO dx dy r1 r2 (by show A.units+1+_<_;omega)
  by_cases hab:a=b
  ·subst hab;exact zdR _
  ·refine zeG hab ?_
   have h:=SeqAt.RcAt.tuples (A:=A) (e:=λ_=>true) p1 p2 (by omega) λj h1 h2=>he j _ _ (by simpa using zaf (by simpa using h1)) (by simpa using zaf (by simpa using h2))
   rw[eB,show (bw.toArray.size == iO.toArray.size)=true by simpa using hl] at h
   exact h
 |.ls l,A,x,y,v,u,hx,hy,rx,ry,hd=>by
  unfold iG at hx hy;obtain⟨a,xs,rfl,sx,dx⟩:=hx;obtain⟨b,ys,rfl,sy,dy⟩:=hy;cases rx;cases ry;obtain⟨bw,r1,p1,_⟩:=I.list sx;obtain⟨iO,r2,p2,_⟩:=I.list sy;unfold DV.yc at hd;obtain⟨hl,he⟩:=gC I l A.in1 xs ys bw iO dx dy r1 r2 (by show A.units+1+_<_;omega)
  by_cases hab:a=b
  ·subst hab;exact zdR _
  ·refine zeG hab ?_
   have h:=SeqAt.RcAt.lists (A:=A) (e:=λ_=>true) p1.isList p2.isList (by simpa using hl) (by omega) λj h1 h2=>he j _ _ (by simpa using zaf (by simpa using h1)) (by simpa using zaf (by simpa using h2))
   rw[eB] at h;exact h
theorem gC (I:aK X ah σ H s):∀(l:List DV) (A:Around) (xs ys:List V) (us ws:List Value),kD X.K H l xs->kD X.K H l ys->bO xs us->bO ys ws->A.units+DV.B4 l<cLine ->
  us.length=ws.length/\∀(j:Nat) (u w:Value),us[j]? = some u->ws[j]? = some w->SeqAt.EqAt A s u w true
 |[],A,xs,ys,us,ws,hx,hy,rx,ry,_=>by
  unfold kD at hx hy;subst hx hy;cases rx;cases ry;exact⟨rfl,λj u w h=>by simp at h⟩
 |d::l,A,xs,ys,us,ws,hx,hy,rx,ry,hd=>by
  unfold kD at hx hy;obtain⟨x,r,rfl,dx,dr⟩:=hx;obtain⟨y,r',rfl,dy,dr'⟩:=hy;cases rx with
  |cons r1 t1 =>
   cases ry with
   |cons r2 t2 =>
    unfold DV.B4 at hd;obtain⟨hl,he⟩:=gC I l A r r' _ _ dr dr' t1 t2 (by omega)
    refine⟨by simp[hl],λj u w h1 h2=>?_⟩
    cases j with
    |zero =>
     simp only[zaT,zbF] at h1 h2;subst h1 h2;exact Kp I d A x y _ _ dx dy r1 r2 (by omega)
    |succ j =>
     simp only[zaH] at h1 h2;exact he j u w h1 h2
end
noncomputable def ain (K:PySem.W.Frag)(neg:Bool):R2:=λx y H Q=>∃d:DV,DV.yc d<=50/\(∀w,d ≠ .fl w)/\iG K H d x/\iG K H d y/\Q (.bl (!neg)) H
theorem abU (hu:X.A.units+100<cLine):kQ X (compareOp .Eq) (ain X.K false):=by
 intro ah s σ H x y v u Q I rx ry h;obtain⟨d,hd,hn,dx,dy,q⟩:=h;have fu:EP X ah σ Q (.bool true) s:=⟨.bl true,H,I,rfl,q⟩
 cases d with
 |fl w=>exact absurd rfl (hn w)
 |tp l =>
  unfold iG at dx dy;obtain⟨a,xs,rfl,sx,dx⟩:=dx;obtain⟨b,ys,rfl,sy,dy⟩:=dy;cases rx;cases ry;obtain⟨bw,r1,p1,_⟩:=I.fY sx;obtain⟨iO,r2,p2,_⟩:=I.fY sy;unfold DV.yc at hd;obtain⟨hl,he⟩:=gC I l X.A.in1 xs ys bw iO dx dy r1 r2 (by show X.A.units+1+_<_;omega)
  refine SeqAt.eq_tupleAt (e:=λ_=>true) p1 p2 (by omega) (λj h1 h2=>he j _ _ (by simpa using zaf (by simpa using h1)) (by simpa using zaf (by simpa using h2))) ?_
  rw[eB,show (bw.toArray.size == iO.toArray.size)=true by simpa using hl]
  exact fu
 |ls l =>
  unfold iG at dx dy;obtain⟨a,xs,rfl,sx,dx⟩:=dx;obtain⟨b,ys,rfl,sy,dy⟩:=dy;cases rx;cases ry;obtain⟨bw,r1,p1,_⟩:=I.list sx;obtain⟨iO,r2,p2,_⟩:=I.list sy;unfold DV.yc at hd;obtain⟨hl,he⟩:=gC I l X.A.in1 xs ys bw iO dx dy r1 r2 (by show X.A.units+1+_<_;omega)
  refine SeqAt.eq_listAt (e:=λ_=>true) p1.isList p2.isList (by simpa using hl) (by omega) (λj h1 h2=>he j _ _ (by simpa using zaf (by simpa using h1)) (by simpa using zaf (by simpa using h2))) ?_
  rw[eB];exact fu
theorem abV (hu:X.A.units+100<cLine):kQ X (compareOp .NotEq) (ain X.K true):=by
 intro ah s σ H x y v u Q I rx ry h;obtain⟨d,hd,hn,dx,dy,q⟩:=h;have fu:EP X ah σ Q (.bool false) s:=⟨.bl false,H,I,rfl,q⟩
 cases d with
 |fl w=>exact absurd rfl (hn w)
 |tp l =>
  unfold iG at dx dy;obtain⟨a,xs,rfl,sx,dx⟩:=dx;obtain⟨b,ys,rfl,sy,dy⟩:=dy;cases rx;cases ry;obtain⟨bw,r1,p1,_⟩:=I.fY sx;obtain⟨iO,r2,p2,_⟩:=I.fY sy;unfold DV.yc at hd;obtain⟨hl,he⟩:=gC I l X.A.in1 xs ys bw iO dx dy r1 r2 (by show X.A.units+1+_<_;omega)
  have h:=SeqAt.RcNeAt.tuples (e:=λ_=>true) p1 p2 (show X.A.units<cLine by omega) λj h1 h2=>he j _ _ (by simpa using zaf (by simpa using h1)) (by simpa using zaf (by simpa using h2))
  rw[eB,show (bw.toArray.size == iO.toArray.size)=true by simpa using hl] at h
  exact h X.prog X.w _ _ fu
 |ls l =>
  unfold iG at dx dy;obtain⟨a,xs,rfl,sx,dx⟩:=dx;obtain⟨b,ys,rfl,sy,dy⟩:=dy;cases rx;cases ry;obtain⟨bw,r1,p1,_⟩:=I.list sx;obtain⟨iO,r2,p2,_⟩:=I.list sy;unfold DV.yc at hd;obtain⟨hl,he⟩:=gC I l X.A.in1 xs ys bw iO dx dy r1 r2 (by show X.A.units+1+_<_;omega)
  have h:=SeqAt.RcNeAt.lists (e:=λ_=>true) p1.isList p2.isList (by simpa using hl) (show X.A.units<cLine by omega) λj h1 h2=>he j _ _ (by simpa using zaf (by simpa using h1)) (by simpa using zaf (by simpa using h2))
  rw[eB] at h;exact h X.prog X.w _ _ fu
end L2
namespace L2
open PySem PySem.Spec PyProof.Rows
end L2
namespace L2
open PySem PySem.Spec PyProof.Rows
end L2
namespace My
open PySem L2
end My
namespace My
open PySem L2
end My
namespace L2
open PySem
theorem N1 (hc:X.e_=true):jD X (.builtin "any") (λxs H Q=>∃(l:Addr) (bs:List Bool),xs=[.ref l]/\H l=some (.bS (bs.map V.bl))/\Q (.bl (bs.any id)) H):=by
 intro ah s σ H xs us Q I r h;obtain⟨l,bs,rfl,hl,q⟩:=h;obtain⟨u,rfl,ru⟩:=tW r;cases ru;obtain⟨bw,n,rv,e,_⟩:=I.bS hl;have aio:s.heap.IsList l bw.toArray:=⟨_,e,rfl,n,rfl⟩
 refine call_any_walk (zdy aio ?_)
 have Ej:l≠s.heap.objs.size:=zar (zan e)
 have dB:bw.length=bs.length:=by rw[<-rv.length];simp
 refine⟨s.heap.objs.size,_,_,_,_,_,λi=>bs[i]?.getD true,rfl,Walks.list (by exact I.ok.hd hc) s.heap.objs.size l Ej bw.toArray,⟨⟨_,zap _ rfl,rfl,rfl⟩,⟨_,zac _ e,rfl,n,rfl⟩⟩,?_,?_⟩
 ·intro i v s' Q' E' hv hq
  have hv:bw[i]? = some v:=by simpa using hv
  have hi:i<bs.length:=by rw[<-dB];exact (zab.mp hv).1
  obtain⟨u,hu,ru⟩:=rv.get (i:=i) (x:=V.bl bs[i]) (by simp[hi])
  rw[hv] at hu;have e1:v=u:=zaw hu
  subst e1;cases (show v=Value.bool bs[i] from ru)
  refine zaZ ?_
  have e2:bs[i]?.getD true=bs[i]:=by simp[hi]
  have hq:Q' (bs[i]?.getD true) s':=hq
  rw[e2] at hq;exact hq
 ·intro h' tk hk
  refine⟨.bl (bs.any id),H,I.iA λb o e'=>hk b o (by simp;exact zar (zan e')) (zac _ e'),?_,q⟩
  show Value.bool _=Value.bool _
  congr 1
  rw[zao,dB];rw[zbe,zcO,zcO];constructor
  ·rintro⟨i,hi,hb⟩
   have hi:=zea.mp hi;rw[zaf hi] at hb;exact⟨_,zcr hi,hb⟩
  ·rintro⟨b,hb,hbt⟩
   obtain⟨i,hi,e⟩:=List.mem_iff_getElem.mp hb;refine⟨i,zea.mpr hi,?_⟩
   rw[zaf hi,zcs,e];exact hbt
section
variable {α:Type}{H H':Hp}{o:α -> HO}{as:List Addr}{xs:List α}
end
end L2
namespace L2
open PySem PySem.Spec PyProof.Rows
theorem B6 (hd:(d == sysModules)=false)(ho:s.heap.get? d=some o)(hc:o.ExactDict)(B7:o.data = .dict es ep)
  (hQ:Q (.ref s.heap.objs.size) { s with heap:=s.heap.push { cls:=.type "dict_keyiterator",data:=.fields #[.ref d,.int 0 0,.int es.size 0,.int ep 0]} }):wpAny (model prog w) A (pyIter (.ref d)) Q E s:=by
 have hT:s.TypeIs (.ref d) "dict" := ⟨o,ho,hc.1⟩
 refine wpAny_pyIter_slot hT F.slot_dict_iter (zbU F.slot_dict_iter hT F.entry_dict_iter ?_ (F.args_dict_iter_1 _))
 unfold Builtin.«dict.__iter__» Builtin.Dict.dictSlotNone
 refine zaa (zaa (wpAny_notOrdered_dict hT (zad (?_:wpAny _ _ (Builtin.Dict.showsAll d >>= _) _ _ s))))
 unfold Builtin.Dict.showsAll;rw[if_neg (by rw[hd];exact zal)]
 refine zaa (zad (zaa (zdB ho B7 (zaa (zdS ho B7 (zaa (zaS (zad ⟨_,rfl,"dict_keyiterator",_,⟨_,zap _ rfl,rfl⟩,zbs.lookup,?_⟩)))))))) 
 simpa[rawInt] using hQ
theorem N2 (Ek:s.heap.IsKeyIter it d i es.size ep)(xj:s.heap.get? d=some o)(B7:o.data = .dict es ep)(jU:i<es.size)
  (hQ:∀h',h'.IsKeyIter it d (i+1) es.size ep->Heap.SameBut it s.heap h'->Q (some es[i].key) {s with heap:=h' }):wpAny (model prog w) A (pyNext (.ref it)) Q E s:=by
 obtain⟨oi,hoi,hci,hdi⟩:=id Ek;unfold pyNext;refine zaa (zdt (zbH (name:=Str.ofString "__next__") Ek.typeIs zbs
  (zbU zbs Ek.typeIs zdb (zaa (zad (zaa (zaa ?_)))) (zcX _))))
 first|refine zaa (zbG Ek.typeIs (zad ?_))|refine zaa (dY Ek.typeIs (zad ?_))
 refine zaa (wpAny_fieldsOf hoi hdi ?_)
 simp only[(by decide:Builtin.Dict_items.ownsTuple "dict_keyiterator"=false),zch,if_false]
 show wpAny _ _ (if (Value.ref d == Value.none)=true then _ else _) _ _ s
 rw[if_neg (show ¬ ((Value.ref d == Value.none)=true) from zal)];refine zaa (zad (zaa (zdB xj B7 ?_)))
 rw[if_neg (by simp)]
 refine zaa (zad (zaa (zdS xj B7 ?_)))
 rw[if_neg (by simp)]
 refine zad ?_
 simp only[show ¬ ((i:Int)<0) from by omega,if_false,zbt,zdD jU]
 refine zaa ?_
 first|refine zaa (zbG Ek.typeIs (zad ?_))|refine zaa (dY Ek.typeIs (zad ?_))
 refine zaa (wpAny_isOneOf_keyiter Ek.typeIs (?_:wpAny _ _ (setField (.ref it) 1 (rawInt ((i:Int)+1)) >>= _) _ _ s))
 refine zaa (zbJ hoi hdi (by simp) ?_)
 have aip:(s.heap.update it (Obj.mapFields (·.setIfInBounds 1 (rawInt ((i:Int)+1))))).IsKeyIter it d (i+1) es.size ep:=
  ⟨_,zaR _ hoi (zcm (zbp hdi _)),(Obj.cls_mapFields ..).trans hci,by rw[zbp hdi];simp[rawInt]⟩
 refine zaa (zbr (zaa (wpAny_isOneOf_keyiter (s:={s with heap:=s.heap.update it (Obj.mapFields (·.setIfInBounds 1 (rawInt ((i:Int)+1))))}) aip.typeIs (?_:wpAny _ _ (pure es[i].key) _ _ _))))
 exact zad (zad ⟨_,rfl,zad (hQ _ aip (zbY ..))⟩)
theorem N3 (hh:A.handled=none)(Ek:s.heap.IsKeyIter it d i es.size ep)(xj:s.heap.get? d=some o)(B7:o.data = .dict es ep)(hge:es.size<=i)
  (hQ:∀h',Heap.ExtBut it s.heap h'->Q none {s with heap:=h' }):wpAny (model prog w) A (pyNext (.ref it)) Q E s:=by
 obtain⟨oi,hoi,hci,hdi⟩:=id Ek;unfold pyNext;refine zaa (zdt (zbH (name:=Str.ofString "__next__") Ek.typeIs zbs
  (zbU zbs Ek.typeIs zdb (zaa (zad (zaa (zaa ?_)))) (zcX _))))
 first|refine zaa (zbG Ek.typeIs (zad ?_))|refine zaa (dY Ek.typeIs (zad ?_))
 refine zaa (wpAny_fieldsOf hoi hdi ?_)
 simp only[(by decide:Builtin.Dict_items.ownsTuple "dict_keyiterator"=false),zch,if_false]
 show wpAny _ _ (if (Value.ref d == Value.none)=true then _ else _) _ _ s
 rw[if_neg (show ¬ ((Value.ref d == Value.none)=true) from zal)];refine zaa (zad (zaa (zdB xj B7 ?_)))
 rw[if_neg (by simp)]
 refine zaa (zad (zaa (zdS xj B7 ?_)))
 rw[if_neg (by simp)]
 refine zad ?_
 simp only[show ¬ ((i:Int)<0) from by omega,if_false,zbt,Array.getElem?_eq_none hge]
 refine zaa ?_
 first|refine zaa (zbG Ek.typeIs (zad ?_))|refine zaa (dY Ek.typeIs (zad ?_))
 show wpAny _ _ (setField (.ref it) 0 .none >>= _) _ _ s
 refine zaa (zbJ hoi hdi (by simp) (?_:wpAny _ _ (newExc (.type "StopIteration") [] >>= _) _ _ _))
 refine zaa ?_
 simp only[newExc,newTuple];refine zaa (zaS ?_ (by size_fits))
 refine zaa (m:=firstArgMember _ _) (wpAny_of_eq (a:=Value.none) (by first|rfl | (simp only[firstArgMember];rfl)) ?_)
 refine zaS ?_ (by size_fits)
 simp only[raiseNew];refine zaa (wpAny_handled ?_)
 rw[show A.in1.handled=none from hh];refine zaa (zad (wpAny_throw ?_))
 refine zaa (wpAny_isInstance (T:= "StopIteration") (b:=true) ⟨_,zap _ rfl,rfl⟩ isSubtype_stop ?_)
 exact zad (hQ _ (((zbY ..).extBut.push _).push _))
noncomputable def Itd (a:Addr)(o:Obj)(u:HO)(ks:List V):It:=⟨λi H=>H a=some (.sP o u)/\i<ks.length,λi H x H'=>H'=H/\ks[i]? = some x,λi H=>H a=some (.sP o u)/\ks.length<=i⟩
theorem yd {K:W.Frag}(a it:Addr)(hc:o.ExactDict)(hd:o.data = .dict es ep)(hn:es.size=ks.length)(hk:∀i (h:i<es.size) x,ks[i]? = some x->bI x es[i].key):
  JY P w K tg (Itd a o u ks) [it] it (λi h=>h.IsKeyIter it a i es.size ep) where
 mem:=by simp
 kU:=λi h st b hb=>by
  have e:b=it:=by simpa using hb
  subst e;obtain⟨o,e,c,d⟩:=st;exact⟨o,e,λv z=>by rw[d] at z;cases z⟩
 keep:=λi h h' st k=>st.at λo e=>k it (by simp) o e
 item:=by
  intro X hP hw hK hcm i ah s σ H E I hf st hg;subst hP hw hK;obtain⟨ha,hi⟩:=hg;obtain⟨ho,_⟩:=(show cP X.prog X.w H s.heap a (.sP o u) from I.cF a _ ha)
  obtain⟨f0,f1,f2,f3,f4,f5⟩:=hf it (by simp)
  have hi2:i<es.size:=by omega
  refine N2 st ho hd hi2 λh' BD sb=>?_
  have I1:aK X ah σ H {s with heap:=h' }:=I.kT (t':=s.toks) (λb o hb e=>(sb.2 b hb).trans e) f0 f1 f3 f4 f5
  obtain⟨oi,e,c,d⟩:=id BD;exact⟨_,rfl,Hv (s:={s with heap:=h' }) e c d (by decide) ⟨ks[i],H,I1,hk i hi2 _ (zaf hi),⟨rfl,zaf hi⟩,BD,λb hb=>(hf b hb).1⟩⟩
 done:=by
  intro X hP hw hK hcm i ah s σ H E I hf st hg;subst hP hw hK;obtain⟨ha,hi⟩:=hg;obtain⟨ho,_⟩:=(show cP X.prog X.w H s.heap a (.sP o u) from I.cF a _ ha)
  obtain⟨f0,f1,f2,f3,f4,f5⟩:=hf it (by simp)
  exact N3 (I.ok.hd hcm) st ho hd (by omega) λh' eb=>⟨rfl,I.kT (t':=s.toks) (λb o hb e=>eb b o hb e) f0 f1 f3 f4 f5⟩
 self:=λ_ _ _ _ _ st h=>wpAny_pyIter_keyiter st h
theorem Uo (h:mL k v=true):bI (kV k) v:=by
 rcases dc h with⟨i,t,rfl,rfl⟩|⟨x,t,rfl,rfl⟩
 ·exact⟨t,rfl⟩
 ·exact⟨t,rfl⟩
theorem Paired.aiq {α β γ:Type}{F:α -> β -> Prop}{G:α -> γ -> Prop}{f:β -> γ}(h:∀a b,F a b->G a (f b)):∀{l:List α} {m:List β},Paired F l m->Paired G l (m.map f)
 |_,_,.nil=>.nil
 |_,_,.cons r t=>.cons (h _ _ r) (Paired.aiq h t)
noncomputable def N4 (H:Hp)(u:HO)(ks:List V):Prop:=match u with
 |.dK aU=>ks=aU.map λp=>kV p.1
 |.dT aU=>Paired (λ(p:List d_×V) (x:V)=>∃b,x = .ref b/\H b=some (.gV (p.1.map kV))) aU ks
 |_=>False
noncomputable def HS:HO->Prop|.dK _=>True|.dT _=>True|_=>False
theorem HU {P:Program}{w:World}{H:Hp}(hu:HS u)(x:cP P w H h a u):(a == sysModules)=false/\∃o ks es ep,h.get? a=some o/\N4 H u ks/\o.ExactDict/\o.data = .dict es ep/\es.size=ks.length/\∀i (h:i<es.size) x,ks[i]? = some x->bI x es[i].key:=by
 cases u with
 |dK aU =>
  obtain⟨_,hs,vs,kv,o,es,ep,ho,hc,hd,hk,hp,hn⟩:=x;have hl:=hp.length;have kl:=kv.length;have kk:=kv.qJ;refine⟨hs,o,_,es,ep,ho,rfl,hc,hd,by rw[zae,kl,<-hl];simp,λi hi y hy=>?_⟩
  rw[zat] at hy;have hiv:i<vs.length:=by rw[<-hl];simpa using hi
  have e1:(aU.map (·.1))[i]? = (vs.map (·.1))[i]?:= by rw[kk]
  rw[zat,zat,zaf hiv] at e1;rw[zaf (by omega)] at hy e1
  simp only[zcy,zbF] at hy e1
  have:=(hp.get? (i:=i) (e:=es[i]) (k:=vs[i].1) (v:=vs[i].2) (by simp[hi]) (by rw[zaf hiv])).1
  rw[<-hy,e1];exact Uo this
 |dT aU =>
  obtain⟨_,hs,xs,pr,o,es,ep,ho,hc,hd,he,hn⟩:=x;have hl:es.size=xs.length:=by have:=congrArg List.length he;simpa using this
  refine⟨hs,o,xs.map λq=>.ref q.2.1,es,ep,ho,?_,hc,hd,by rw[zae,hl],λi hi y hy=>?_⟩
  ·show Paired _ aU (xs.map λq=>V.ref q.2.1)
   exact Paired.aiq (λp q h=>⟨_,rfl,h.2.1⟩) pr
  ·rw[zat,zaf (by omega)] at hy
   simp only[zcy,zbF] at hy;have e1:es[i]=entryOfKey (tupleKind (b9 P w)) (xs[i]'(by omega)):=by
    have:=entry_at he i
    rw[zdD hi,zaf (by omega)] at this
    simpa using this
   rw[<-hy,e1];rfl
 |_=>exact hu.elim
noncomputable def anQ (tl:TE):TI:=λσ H R=>tl σ H λx H1=>∃a u,x = .ref a/\HS u/\((H1 a=some u/\∀o ks,N4 H1 u ks->R (Itd a o u ks) (bG H1 a (.sP o u)))\/∃o,H1 a=some (.sP o u)/\∀ks,N4 H1 u ks->R (Itd a o u ks) H1)
theorem Up {l:Expr}{tl:TE}(hl:PE X l tl):PI X tg l (anQ tl):=by
 intro ah s σ H R I h;refine cQ (hl ah s σ H _ I h) λv s1 cA=>?_
 obtain⟨x,H1,I1,r1,q1⟩:=cA;obtain⟨a,u,e,hu,q⟩:=q1;subst e;cases r1;rcases q with⟨ha,q⟩|⟨o,ha,q⟩
 ·obtain⟨hs,o,ks,es,ep,ho,hk,hc,hd,hn,hr⟩:=HU hu (I1.cF a u ha)
  refine B6 hs ho hc hd ?_
  have mu:Mut (H1 a):=by rw[ha];cases u<;>first|exact hu.elim|trivial
  have I2:aK X ah σ (bG H1 a (.sP o u)) { s1 with heap:=s1.heap.push { cls:=.type "dict_keyiterator",data:=.fields #[.ref a,.int 0 0,.int es.size 0,.int ep 0]} }:=I1.jB (t':=s1.toks) (x:=a) (e:=a) mu (.inl rfl) (λb v _ e=>zac _ e) ⟨o,zac _ ho⟩
   ⟨zac _ ho,(I1.cF a u ha).qK (λb v _ e=>zac _ e) (λb hb=>by rw[au (λz=>by subst z;rw[ha] at hb;cases hb;exact hu.elim)];exact hb) λb xs hb=>by rw[au (λz=>by subst z;rw[ha] at hb;cases hb;exact hu.elim)];exact hb⟩
  refine⟨s1.heap.objs.size,[s1.heap.objs.size],_,_,_,rfl,I2,yd a _ hc hd hn hr,⟨_,zap _ rfl,rfl,rfl⟩,λb hb=>?_,q o ks hk⟩
  have e:b=s1.heap.objs.size:=by simpa using hb
  subst e;exact I1.Ew (zah _) (by rw[au (λz=>absurd (I1.cF.lt ha) (by rw[<-z];exact zaK _))];exact I1.cF.fresh (zah _))
 ·have hob:=(show cP X.prog X.w H1 s1.heap a (.sP o u) from I1.cF a _ ha)
  obtain⟨hs,o',ks,es,ep,ho,hk,hc,hd,hn,hr⟩:=HU hu hob.2;have eo:o'=o:=by have:=hob.1;rw[ho] at this;exact zaw this
  subst eo;refine B6 hs ho hc hd ?_
  refine⟨s1.heap.objs.size,[s1.heap.objs.size],_,_,H1,rfl,I1.iA (t':=s1.toks) λb o e=>zac _ e,yd a _ hc hd hn hr,⟨_,zap _ rfl,rfl,rfl⟩,λb hb=>?_,q ks hk⟩
  have e:b=s1.heap.objs.size:=by simpa using hb
  subst e;exact I1.Ew (zah _) (I1.cF.fresh (zah _))
section
variable {X:Cx}{o:Expr}{lo:Option Expr}{to:TE}{tl:TO}{p2 pos:Pos}
end
theorem Kq:typeLookup (.type "list") "keys"=pure none:=am_miss_of_fast (by decide +kernel)
theorem Kr (hx:s.heap.get? a=some { cls:=.type "list",data:=.seq xs k})(hA:A.handled=none)
  (h:∀h' tk,(∀b o,s.heap.get? b=some o->h'.get? b=some o)->Q none {s with heap:=h',toks:=tk}):wpAny (model prog w) A (getAttr? (.ref a) "keys") Q E s:=by
 obtain⟨hp,g,d,tk,os⟩:=s;have hT:∀tk',(⟨hp,g,d,tk',os⟩:Shared).TypeIs (.ref a) "list" := λ_=>⟨_,hx,rfl⟩
 have f1:=sub_AttributeError;have f3:=zcD.lookup;have f4:=zcD.bind (.ref a)
 have f5:=am_list_getattr_none;unfold getAttr? getAttrBy? getAttrBy
 repeat (any_goals (first|assumption|exact hT _ | ((with_reducible show wpAny _ _ (call (Value.builtin "list.__getattribute__") _ _) _ _ _);refine call_meets zcD (hT _) am_entry_list_getattribute (F.args_list_getattribute_2 _ _) (meets_getattribute_miss_list a xs k #[] _ _ Kq (by decide +kernel)) ⟨hx,hA,λh' tk' e Xc=>?_⟩)|wp_step))
 ·obtain⟨t',u',he⟩:=Xc.there
  show wpAny _ _ (getattributeRaised _ _ _ _ _ _ _) _ _ _
  unfold getattributeRaised;repeat (any_goals (first|assumption|wp_step))
  exact h _ _ Xc.keeps
theorem ye:entryFor table "dict.update.loop"=some Builtin.«dict.update.loop»:= entryFor_of_tree (by kernel_rfl)
theorem nK:plainId "dict.update.loop"=true:=by decide +kernel
noncomputable def um (kv:Nat->d_×Value):Nat->List (d_×Value)
 |0=>[]
 |i+1=>stored (um kv i) (kv i).1 (kv i).2
theorem Fb (l:List (d_×Value))(k:d_)(v:Value):(stored l k v).length<=l.length+1:=by
 unfold stored;split
 ·rw[zae];omega
 ·simp
theorem Al (kv:Nat->d_×Value):∀i,(um kv i).length<=i
 |0=>zah _
 |i+1=>zag (Fb _ _ _) (Nat.succ_le_succ (Al kv i))
section
variable {prog:Program}{w:World}{A:Around}{R:Result->Shared->Prop}{I:Addr}{fp wr:List Addr}{G:Array GenState->Array GenState->Prop}{n:Nat}{P:Nat->Value->Prop}{St:Nat->Shared->Prop}
theorem DictOf.iA {h h':Heap}(q:h.DictOf (b9 prog w) S l)(k:∀o,h.get? S=some o->h'.get? S=some o):h'.DictOf (b9 prog w) S l:=by
 obtain⟨o,es,ep,ho,dz⟩:=q;exact⟨o,es,ep,k o ho,dz⟩
noncomputable def qR (h:Heap)(a:Addr)(k x:Value):Prop:=∃o m,h.get? a=some o/\o.cls = .type "tuple" /\ o.data = .seq #[k,x] m
theorem Ks (W:WalksS prog w A.in1 I fp wr G n P St)(S:Addr)(hSf:S∉fp)(ad:Nat->Addr)(kk:Nat->Value)(kv:Nat->d_×Value)(abX:∀i v,P i v->v = .ref (ad i))(MV:∀i,i<n->mL (kv i).1 (kk i)=true)(hn:n<=1000)(had:∀i,i<n->ad i∉S::wr)(j:Nat):
  ∀(i:Nat) (t:Tok) (s:Shared),n=i+j->St i s->s.heap.DictOf (b9 prog w) S (um kv i)->(∀m,m<n->qR s.heap (ad m) (kk m) (kv m).2) ->
   (∀s',Moved (S::wr) G s s'->s'.heap.DictOf (b9 prog w) S (um kv n)->R (.ok (.ret .none)) s')->codeAny (model prog w) A (.builtin "dict.update.loop" ⟨[.ref S,.ref I,.int i t,.none],[]⟩) R s:=by
 have hSw:S∉wr:=λh=>hSf (W.sub _ h)
 induction j with
 |zero =>
  intro i t s hi oK hS hp hR;subst hi;refine codeAny_builtin ye ?_
  rw[Around.under_plainId nK _];refine zaa (W.done s _ _ oK λs' hm=>?_)
  show wpAny _ _ (Builtin.Dict.addKeywords S [] >>= _) _ _ _
  exact zaa (zad (zad (hR s' (hm.mono λb hb=>zaE _ hb) (DictOf.iA hS λo ho=>hm.heap S o hSw ho))))
 |succ j ih =>
  intro i t s hi oK hS hp hR;refine codeAny_builtin ye ?_
  rw[Around.under_plainId nK _];refine zaa (W.item i s _ _ (by omega) oK λv s' hP anR hm=>?_)
  have hv:=abX i v hP;subst hv;have hS':s'.heap.DictOf (b9 prog w) S (um kv i):=DictOf.iA hS λo ho=>hm.heap S o hSw ho
  have hp':∀m,m<n->qR s'.heap (ad m) (kk m) (kv m).2:=λm hmn=>by
   obtain⟨o,q,ho,dz⟩:=hp m hmn;exact⟨o,q,hm.heap _ o (λz=>had m hmn (zaE _ z)) ho,dz⟩
  obtain⟨o,q,ho,hc,hd⟩:=hp' i (by omega)
  have hT:s'.TypeIs (.ref (ad i)) "tuple" := ⟨o,ho,hc⟩
  refine zaa (zbr ?_)
  refine zaa (wpAny_tryCatch ?_)
  unfold Builtin.Dict.pairItems;refine zaa (wpAny_typeOf hT ?_)
  rw[if_pos (by decide)]
  unfold seqItems?
  refine zaa (zaa (wpAny_load ho ?_))
  rw[hd];refine zad (zad ?_)
  show wpAny _ _ (holding [kk i,(kv i).2] (dictSet S (kk i) (kv i).2)) _ _ _
  have hle:=Al kv i;refine zbr (wpAny_dictSet_pairs (MV i (by omega)) hS' (λh' B8 Xd=>?_) (zag (by omega:(um kv i).length<=1000) (by decide)))
  refine zad ⟨plainId_quiet nK _,ih (i+1) _ _ (by omega) (W.frame _ s' _ _ anR (zbf _) λb hb o e=>?_) B8 (λm hmn=>?_) λs'' anT anU=>?_⟩
  ·rw[Xd.2 b (λz:b=S=>hSf (by rw[<-z];exact hb))];exact e
  ·obtain⟨o2,q2,ho2,dz⟩:=hp' m hmn
   exact⟨o2,q2,by rw[Xd.2 _ (λz=>had m hmn (by rw[z];exact zbn))];exact ho2,dz⟩
  ·refine hR s'' (Moved.trans W.gtrans ((hm.mono λb hb=>zaE _ hb).then_heap (zbf _) λb o hb e=>?_) anT) anU
   rw[Xd.2 b (λz:b=S=>hb (by rw[z];exact zbn))];exact e
end
section
variable {prog:Program}{w:World}{A:Around}{E:Value->Shared->Prop}{s:Shared}
theorem sG {l:Addr}{ad:Nat->Addr}{kk:Nat->Value}(hh:A.handled=none)(hol:s.heap.get? l=some { cls:=.type "list",data:=.seq items nl})
  (abX:∀i v,items[i]? = some v->v=Value.ref (ad i)) (MV:∀i,i<items.size->mL (kv i).1 (kk i)=true) (hn:items.size<=1000) (hp:∀m,m<items.size->qR s.heap (ad m) (kk m) (kv m).2)
  (h:∀(h':Heap) (tk:Nat),h'.DictOf (b9 prog w) s.heap.objs.size (um kv items.size)->(∀b o,s.heap.get? b=some o->h'.get? b=some o)->Q (.ref s.heap.objs.size) {s with heap:=h',toks:=tk}):
  wpAny (model prog w) A (call (.type "dict") [.ref l]) Q E s:=by
 refine callType_codes (Q₁:= λkU cN=>kU = .ref s.heap.objs.size/\cN = { s with heap:=s.heap.push { cls:=.type "dict",data:=.dict #[]} }) F.kt_called_dict (F.kt_typeCall_dict_1 _) F.entry_dict_init (kt_code_dict_new _ ⟨rfl,rfl⟩) ?_
 rintro kU cN ⟨rfl,rfl⟩
 have abZ:(s.heap.push { cls:=.type "dict",data:=.dict #[]}).DictOf (b9 prog w) s.heap.objs.size []:=Heap.DictOf.new s.heap
 have ab0:(s.heap.push { cls:=.type "dict",data:=.dict #[]}).get? l=some { cls:=.type "list",data:=.seq items nl}:=zac _ hol
 have hlS:l<s.heap.objs.size:=zan hol
 refine⟨abZ.typeIs,F.args_dict_init_2 _ _,?_⟩
 unfold Builtin.«dict.__init__»
 refine zaa ?_
 unfold Builtin.Dict.selfAndRest;refine zaa (wpAny_notOrdered_dict abZ.typeIs (?_:wpAny _ _ (pure (s.heap.objs.size,[Value.ref l])) _ _ _))
 refine zad ?_
 show wpAny _ _ (Builtin.Dict.updateFrom "dict.__init__" s.heap.objs.size (.ref l) [] .none) _ _ _
 unfold Builtin.Dict.updateFrom;refine zaa (wpAny_typeOf (T:= "list") ⟨_,ab0,rfl⟩ ?_)
 rw[if_pos (by decide)]
 refine zaa (Kr ab0 (by simp[hh]) λh1 tk1 hk1=>?_)
 simp only[zeH,if_true];refine zaa (wpAny_rule ?_)
 have anV:h1.get? l=some { cls:=.type "list",data:=.seq items nl}:=hk1 _ _ ab0
 have Xi:h1.DictOf (b9 prog w) s.heap.objs.size []:=DictOf.iA abZ λo ho=>hk1 _ _ ho
 have Uq:h1.IsList l items:=⟨_,anV,rfl,nl,rfl⟩
 have Ur:s.heap.objs.size<h1.objs.size:=by
  obtain⟨o,_,_,ho,_⟩:=Xi;exact zan ho
 refine zaa (zdy (s:={s with heap:=h1,toks:=tk1}) Uq ?_)
 refine zad ?_
 refine⟨plainId_quiet nK _,?_⟩
 have anW:l≠h1.objs.size:=zar (zdJ hlS Ur)
 have hSf:s.heap.objs.size∉[h1.objs.size,l]:=by
  simp only[zam,zay,or_false,not_or];exact⟨zar Ur,zbS hlS⟩
 have hp1:∀m,m<items.size->qR h1 (ad m) (kk m) (kv m).2:=λm hm=>by
  obtain⟨o,q,ho,dz⟩:=hp m hm;exact⟨o,q,hk1 _ _ (zac _ ho),dz⟩
 refine Ks ((Walks.list (by simp[hh]) _ l anW items).toS) s.heap.objs.size hSf ad kk kv (λi v hv=>abX i v hv) MV hn (λi hi=>?_) items.size 0 _ _ (by omega)
  ⟨⟨_,zap _ rfl,rfl,rfl⟩,(Uq.push _)⟩ (DictOf.iA Xi λo ho=>zac _ ho) (λm hm=>?_) ?_
 ·obtain⟨o,q,ho,_⟩:=hp i hi
  have:=zan ho
  simp only[zam,zay,or_false,not_or];exact⟨zar this,zar (zdJ this Ur)⟩
 ·obtain⟨o,q,ho,dz⟩:=hp1 m hm
  exact⟨o,q,zac _ ho,dz⟩
 ·intro s' hm hS'
  obtain⟨h',g',d',tk',os'⟩:=s';have eg:g'=s.gens:=hm.gens
  have ed:d'=s.drawn:=hm.drawn
  have eo:os'=s.os:=hm.os
  subst eg;subst ed;subst eo;refine⟨rfl,h h' tk' hS' λb o e=>?_⟩
  have hb0:=zan e;exact hm.heap b o (by simp only[zam,zay,or_false,not_or];exact⟨zar hb0,zar (zdJ hb0 Ur)⟩) (zac _ (hk1 _ _ (zac _ e)))
end
inductive Tr where
 |bz|bl (b:Bool)|int (i:Int)|str (x:Str)|tp (l:List Tr)|ls (l:List Tr)|kt (l:List Tr)|kl (l:List Tr)|hd (n:Nat)
inductive Ce where
 |uo|bS (l:List Tr)|jV (l:List (d_×Tr))|e9 (c:Str) (fs:List (Str×Tr))|oQ (c:Str) (fs:List (Str×Tr))|Sk (l:List (List d_×Tr))|xA (l:List (d_×Tr))|Fc (l:List (List d_×Tr))
noncomputable def Ce.fz:Ce->Bool|.uo=>true|.xA _=>true|.Fc _=>true|_=>false
noncomputable abbrev Cs:=List Ce
structure Wd where
 K:W.Frag
 n:Nat
 ρ:Nat->Addr
 F:Hp
 hid:Hp
structure Wd.le (w w':Wd):Prop where
 K:w'.K=w.K
 n:w.n<=w'.n
 r:∀i,i<w.n->w'.ρ i=w.ρ i
 F:∀b o,w.F b=some o->w'.F b=some o
 hid:w'.hid=w.hid
theorem Wd.le.refl (w:Wd):w.le w:=⟨rfl,zah _,λ_ _=>rfl,λ_ _ h=>h,rfl⟩
theorem Wd.le.trans {a b c:Wd}(h:a.le b)(g:b.le c):a.le c:=
 ⟨g.K.trans h.K,zag h.n g.n,λi hi=>(g.r i (zak hi h.n)).trans (h.r i hi),λb o e=>g.F b o (h.F b o e),g.hid.trans h.hid⟩
mutual
noncomputable def RT (w:Wd):Tr->V->Prop
 |.bz,v=>v = .bz
 |.bl b,v=>v = .bl b
 |.int i,v=>v = .int i
 |.str x,v=>v = .str x
 |.tp l,v=>∃a xs,v = .ref a/\w.F a=some (.gV xs)/\bL w l xs
 |.ls l,v=>∃a xs,v = .ref a/\w.F a=some (.bS xs)/\bL w l xs
 |.kt l,v=>∃a xs,v = .ref a/\oV w.K w.F a xs/\bL w l xs
 |.kl l,v=>∃a xs,v = .ref a/\jC w.K w.F a xs/\bL w l xs
 |.hd n,v=>n<w.n/\v = .ref (w.ρ n)
noncomputable def bL (w:Wd):List Tr->List V->Prop
 |[],xs=>xs=[]
 |d::l,xs=>∃x r,xs=x::r/\RT w d x/\bL w l r
end
theorem Rd.mono {H H':Hp}(h:∀b o,H b=some o->H' b=some o){a:Addr}{u:HO}(r:Rd H a u):Rd H' a u:=by
 rcases r with r|⟨o,r⟩
 ·exact .inl (h _ _ r)
 ·exact .inr ⟨o,h _ _ r⟩
theorem jC.mono {K:W.Frag}{H H':Hp}(h:∀b o,H b=some o->H' b=some o){a:Addr}{xs:List V}(r:jC K H a xs):jC K H' a xs:=r.imp (Rd.mono h) id
theorem oV.mono {K:W.Frag}{H H':Hp}(h:∀b o,H b=some o->H' b=some o){a:Addr}{xs:List V}(r:oV K H a xs):oV K H' a xs:=r.imp (Rd.mono h) id
mutual
theorem RT.mono {w w':Wd}(le:w.le w'):∀(t:Tr) (v:V),RT w t v->RT w' t v
 |.bz,v,h=>by unfold RT at h ⊢;exact h
 |.bl b,v,h=>by unfold RT at h ⊢;exact h
 |.int b,v,h=>by unfold RT at h ⊢;exact h
 |.str b,v,h=>by unfold RT at h ⊢;exact h
 |.tp l,v,h=>by
  unfold RT at h ⊢
  obtain⟨a,xs,e,s,r⟩:=h;exact⟨a,xs,e,le.F _ _ s,bL.mono le l xs r⟩
 |.ls l,v,h=>by
  unfold RT at h ⊢
  obtain⟨a,xs,e,s,r⟩:=h;exact⟨a,xs,e,le.F _ _ s,bL.mono le l xs r⟩
 |.kt l,v,h=>by
  unfold RT at h ⊢
  obtain⟨a,xs,e,s,r⟩:=h;exact⟨a,xs,e,by rw[le.K];exact s.mono le.F,bL.mono le l xs r⟩
 |.kl l,v,h=>by
  unfold RT at h ⊢
  obtain⟨a,xs,e,s,r⟩:=h;exact⟨a,xs,e,by rw[le.K];exact s.mono le.F,bL.mono le l xs r⟩
 |.hd n,v,h=>by
  unfold RT at h ⊢
  exact⟨zak h.1 le.n,by rw[le.r n h.1];exact h.2⟩
theorem bL.mono {w w':Wd}(le:w.le w'):∀(l:List Tr) (xs:List V),bL w l xs->bL w' l xs
 |[],xs,h=>by unfold bL at h ⊢;exact h
 |d::l,xs,h=>by
  unfold bL at h ⊢
  obtain⟨x,r,e,h1,h2⟩:=h;exact⟨x,r,e,RT.mono le d x h1,bL.mono le l r h2⟩
end
mutual
theorem RT.bF {w:Wd}(hid:Hp):∀(t:Tr) (v:V),RT w t v->RT {w with hid:=hid} t v
 |.bz,v,h=>by unfold RT at h ⊢;exact h
 |.bl b,v,h=>by unfold RT at h ⊢;exact h
 |.int b,v,h=>by unfold RT at h ⊢;exact h
 |.str b,v,h=>by unfold RT at h ⊢;exact h
 |.tp l,v,h=>by unfold RT at h ⊢;obtain⟨a,xs,e,s,r⟩:=h;exact⟨a,xs,e,s,bL.bF hid l xs r⟩
 |.ls l,v,h=>by unfold RT at h ⊢;obtain⟨a,xs,e,s,r⟩:=h;exact⟨a,xs,e,s,bL.bF hid l xs r⟩
 |.kt l,v,h=>by unfold RT at h ⊢;obtain⟨a,xs,e,s,r⟩:=h;exact⟨a,xs,e,s,bL.bF hid l xs r⟩
 |.kl l,v,h=>by unfold RT at h ⊢;obtain⟨a,xs,e,s,r⟩:=h;exact⟨a,xs,e,s,bL.bF hid l xs r⟩
 |.hd n,v,h=>by unfold RT at h ⊢;exact h
theorem bL.bF {w:Wd}(hid:Hp):∀(l:List Tr) (xs:List V),bL w l xs->bL {w with hid:=hid} l xs
 |[],xs,h=>by unfold bL at h ⊢;exact h
 |d::l,xs,h=>by
  unfold bL at h ⊢
  obtain⟨x,r,e,h1,h2⟩:=h;exact⟨x,r,e,RT.bF hid d x h1,bL.bF hid l r h2⟩
end
theorem bL.nil {w:Wd}:bL w [] []:=by unfold bL;rfl
theorem bL.cons {w:Wd}{t:Tr}{l:List Tr}{v:V}{xs:List V}(h:RT w t v)(r:bL w l xs):bL w (t::l) (v::xs):=by unfold bL;exact⟨v,xs,rfl,h,r⟩
theorem bL.cD {w:Wd}{xs:List V}(h:bL w [] xs):xs=[]:=by unfold bL at h;exact h
theorem bL.bD {w:Wd}{t:Tr}{l:List Tr}{xs:List V}(h:bL w (t::l) xs):∃x r,xs=x::r/\RT w t x/\bL w l r:=by unfold bL at h;exact h
theorem bL.len {w:Wd}:∀{l:List Tr} {xs:List V},bL w l xs->xs.length=l.length
 |[],xs,h=>by rw[h.cD];rfl
 |d::l,xs,h=>by
  obtain⟨x,r,rfl,_,h2⟩:=h.bD;simp[bL.len h2]
theorem bL.get {w:Wd}:∀{l:List Tr} {xs:List V} {i:Nat} {t:Tr},bL w l xs->l[i]? = some t->∃v,xs[i]? = some v/\RT w t v
 |[],xs,i,t,h,e=>by simp at e
 |d::l,xs,i,t,h,e=>by
  obtain⟨x,r,rfl,h1,h2⟩:=h.bD;cases i with
  |zero=>simp at e;subst e;exact⟨x,rfl,h1⟩
  |succ i=>simpa using bL.get (i:=i) h2 (by simpa using e)
theorem bL.sV {w:Wd}:∀{l m:List Tr} {xs ys:List V},bL w l xs->bL w m ys->bL w (l++m) (xs++ys)
 |[],m,xs,ys,h,g=>by rw[h.cD];exact g
 |d::l,m,xs,ys,h,g=>by
  obtain⟨x,r,rfl,h1,h2⟩:=h.bD;exact .cons h1 (bL.sV h2 g)
theorem bL.set {w:Wd}{t:Tr}{v:V}(ht:RT w t v):∀{l:List Tr} {xs:List V} (i:Nat),bL w l xs->bL w (l.set i t) (xs.set i v)
 |[],xs,i,h=>by rw[h.cD];exact .nil
 |d::l,xs,i,h=>by
  obtain⟨x,r,rfl,h1,h2⟩:=h.bD;cases i with
  |zero=>exact .cons ht h2
  |succ i=>exact .cons h1 (bL.set ht i h2)
theorem bL.take {w:Wd}:∀{l:List Tr} {xs:List V} (n:Nat),bL w l xs->bL w (l.take n) (xs.take n)
 |[],xs,n,h=>by rw[h.cD];simp;exact .nil
 |d::l,xs,0,h=>by simp;exact .nil
 |d::l,xs,n+1,h=>by
  obtain⟨x,r,rfl,h1,h2⟩:=h.bD;exact .cons h1 (bL.take n h2)
theorem bL.drop {w:Wd}:∀{l:List Tr} {xs:List V} (n:Nat),bL w l xs->bL w (l.drop n) (xs.drop n)
 |[],xs,n,h=>by rw[h.cD];simp;exact .nil
 |d::l,xs,0,h=>h
 |d::l,xs,n+1,h=>by
  obtain⟨x,r,rfl,h1,h2⟩:=h.bD;exact bL.drop n h2
theorem bL.snoc {w:Wd}{l:List Tr}{xs:List V}{t:Tr}{v:V}(h:bL w l xs)(g:RT w t v):bL w (l++[t]) (xs++[v]):=h.sV (.cons g .nil)
noncomputable def RK (w:Wd){α:Type}(l:List (α × Tr))(m:List (α × V)):Prop:=m.map Prod.fst=l.map Prod.fst/\bL w (l.map Prod.snd) (m.map Prod.snd)
theorem RK.mono {w w':Wd}(le:w.le w'){α:Type}{l:List (α × Tr)}{m:List (α × V)}(h:RK w l m):RK w' l m:=⟨h.1,bL.mono le _ _ h.2⟩
theorem RK.nil {w:Wd}{α:Type}:RK w ([]:List (α × Tr)) []:=⟨rfl,.nil⟩
theorem RK.cons {w:Wd}{α:Type}{k:α}{t:Tr}{v:V}{l:List (α × Tr)}{m:List (α × V)}(h:RT w t v)(r:RK w l m):RK w ((k,t)::l) ((k,v)::m):=⟨by simp[r.1],.cons h r.2⟩
theorem RK.bD {w:Wd}{α:Type}{k:α}{t:Tr}{l:List (α × Tr)}{m:List (α × V)}(h:RK w ((k,t)::l) m):∃v r,m=(k,v)::r/\RT w t v/\RK w l r:=by
 obtain⟨h1,h2⟩:=h;cases m with
 |nil=>simp at h1
 |cons p r =>
  obtain⟨q,v⟩:=p;simp only[zas,List.cons.injEq] at h1;obtain⟨x,r',e,g1,g2⟩:=h2.bD;simp only[zas,List.cons.injEq] at e;obtain⟨rfl,rfl⟩:=e;obtain⟨rfl,e2⟩:=h1;exact⟨v,r,rfl,g1,e2,g2⟩
theorem RK.cD {w:Wd}{α:Type}{m:List (α × V)}(h:RK w ([]:List (α × Tr)) m):m=[]:=by simpa using h.1
theorem RK.len {w:Wd}{α:Type}{l:List (α × Tr)}{m:List (α × V)}(h:RK w l m):m.length=l.length:=by simpa using congrArg List.length h.1
noncomputable def fm (S:Cs)(i:Nat):Prop:=∃c,S[i]? = some c/\c.fz=false
open Classical in
noncomputable def Fz (ρ:Nat->Addr)(hid:Hp)(S:Cs)(H:Hp):Hp:=λb=>if (∃i,fm S i /\ ρ i=b)\/hid b≠none then none else H b
structure Gx where
 K:W.Frag
 cl:Str->Addr
 E:XK
noncomputable def bJ (G:Gx)(w:Wd)(H:Hp)(a:Addr):Ce->Prop
 |.uo=>True
 |.bS l=>∃xs,H a=some (.bS xs)/\bL w l xs
 |.jV l=>∃aU,H a=some (.dK aU)/\RK w l aU
 |.e9 c fs=>∃dx pR,H a=some (.e9 (G.cl c) dx pR)/\RK w fs pR
 |.oQ c fs=>∃T d pR,H a=some (o6 a (G.cl c) (some d) T)/\w.F T=some (TB T)/\w.F d=some (ED d pR)/\T≠a/\d≠a/\RK w fs pR
 |.Sk l=>∃aU,H a=some (.dT aU)/\RK w l aU
 |.xA l=>∃o aU,w.F a=some (.sP o (.dK aU))/\RK w l aU
 |.Fc l=>∃o aU,w.F a=some (.sP o (.dT aU))/\RK w l aU
theorem bJ.mono {G:Gx}{w w':Wd}(le:w.le w'){H H':Hp}{a:Addr}(hH:∀o,H a=some o->H' a=some o):∀{c:Ce},bJ G w H a c->bJ G w' H' a c
 |.uo,_=>trivial
 |.bS l,h=>let ⟨xs,e,r⟩:=h;⟨xs,hH _ e,bL.mono le _ _ r⟩
 |.jV l,h=>let ⟨xs,e,r⟩:=h;⟨xs,hH _ e,r.mono le⟩
 |.e9 c l,h=>let ⟨dx,xs,e,r⟩:=h;⟨dx,xs,hH _ e,r.mono le⟩
 |.oQ c l,h=>let ⟨T,d,xs,e,e2,e3,n1,n2,r⟩:=h;⟨T,d,xs,hH _ e,le.F _ _ e2,le.F _ _ e3,n1,n2,r.mono le⟩
 |.Sk l,h=>let ⟨xs,e,r⟩:=h;⟨xs,hH _ e,r.mono le⟩
 |.xA l,h=>let ⟨o,xs,e,r⟩:=h;⟨o,xs,le.F _ _ e,r.mono le⟩
 |.Fc l,h=>let ⟨o,xs,e,r⟩:=h;⟨o,xs,le.F _ _ e,r.mono le⟩
theorem bJ.N5 {G:Gx}{w w':Wd}(le:w.le w'){H H':Hp}{a:Addr}:∀{c:Ce},c.fz=true->bJ G w H a c->bJ G w' H' a c
 |.uo,_,_=>trivial
 |.xA l,_,h=>let ⟨o,xs,e,r⟩:=h;⟨o,xs,le.F _ _ e,r.mono le⟩
 |.Fc l,_,h=>let ⟨o,xs,e,r⟩:=h;⟨o,xs,le.F _ _ e,r.mono le⟩
theorem RK.bF {w:Wd}(hid:Hp){α:Type}{l:List (α × Tr)}{m:List (α × V)}(h:RK w l m):RK {w with hid:=hid} l m:=⟨h.1,bL.bF hid _ _ h.2⟩
theorem bJ.bF {G:Gx}{w:Wd}{hid:Hp}{H H':Hp}{a:Addr}(hH:∀o,H a=some o->H' a=some o):∀{c:Ce},bJ G w H a c->bJ G {w with hid:=hid} H' a c
 |.uo,_=>trivial
 |.bS l,h=>let ⟨xs,e,r⟩:=h;⟨xs,hH _ e,bL.bF hid _ _ r⟩
 |.jV l,h=>let ⟨xs,e,r⟩:=h;⟨xs,hH _ e,r.bF hid⟩
 |.e9 c l,h=>let ⟨dx,xs,e,r⟩:=h;⟨dx,xs,hH _ e,r.bF hid⟩
 |.oQ c l,h=>let ⟨T,d,xs,e,e2,e3,n1,n2,r⟩:=h;⟨T,d,xs,hH _ e,e2,e3,n1,n2,r.bF hid⟩
 |.Sk l,h=>let ⟨xs,e,r⟩:=h;⟨xs,hH _ e,r.bF hid⟩
 |.xA l,h=>let ⟨o,xs,e,r⟩:=h;⟨o,xs,e,r.bF hid⟩
 |.Fc l,h=>let ⟨o,xs,e,r⟩:=h;⟨o,xs,e,r.bF hid⟩
theorem bJ.Ku {G:Gx}{w:Wd}{hid:Hp}{H H':Hp}{a:Addr}:∀{c:Ce},c.fz=true->bJ G w H a c->bJ G {w with hid:=hid} H' a c
 |.uo,_,_=>trivial
 |.xA l,_,h=>let ⟨o,xs,e,r⟩:=h;⟨o,xs,e,r.bF hid⟩
 |.Fc l,_,h=>let ⟨o,xs,e,r⟩:=h;⟨o,xs,e,r.bF hid⟩
theorem bJ.ab2 {G:Gx}{w:Wd}{F' Us:Hp}(hF:∀b o,w.F b=some o->F' b=some o){H:Hp}{a:Addr}{c:Ce}(h:bJ G w H a c):bJ G {w with hid:=Us,F:=F' } H a c:=
 bJ.mono (w:={w with hid:=Us}) (w':={w with hid:=Us,F:=F' }) ⟨rfl,zah _,λ_ _=>rfl,hF,rfl⟩ (λ_ e=>e) (bJ.bF (hid:=Us) (λ_ e=>e) h)
theorem bJ.some {G:Gx}{w:Wd}{H:Hp}{a:Addr}:∀{c:Ce},bJ G w H a c->c.fz=false->∃o,H a=some o
 |.uo,_,n=>by cases n
 |.bS l,h,_=>let ⟨xs,e,r⟩:=h;⟨_,e⟩
 |.jV l,h,_=>let ⟨xs,e,r⟩:=h;⟨_,e⟩
 |.e9 c l,h,_=>let ⟨dx,xs,e,r⟩:=h;⟨_,e⟩
 |.oQ c l,h,_=>let ⟨T,d,xs,e,_⟩:=h;⟨_,e⟩
 |.Sk l,h,_=>let ⟨xs,e,r⟩:=h;⟨_,e⟩
 |.xA l,_,n=>by cases n
 |.Fc l,_,n=>by cases n
structure HR (G:Gx) (w:Wd) (S:Cs) (H:Hp):Prop where
 K:w.K=G.K
 n:w.n=S.length
 F:w.F=Fz w.ρ w.hid S H
 cell:∀i c,S[i]? = some c->bJ G w H (w.ρ i) c
 inj:∀i j,fm S i->fm S j->w.ρ i=w.ρ j->i=j
 hid:∀b o,w.hid b=some o->H b=some o
 kE:∀i,fm S i->w.hid (w.ρ i)=none
 hl:∀b xs,w.hid b≠some (.gV xs)
theorem HR.sub (h:HR G w S H):∀b o,w.F b=some o->H b=some o:=λb o e=>by
 rw[h.F] at e;unfold Fz at e;split at e
 ·cases e
 ·exact e
theorem HR.sqL (h:HR G w S H){a:Addr}{xs:List V}(s:jC w.K w.F a xs):jC G.K H a xs:=by rw[<-h.K];exact s.mono h.sub
theorem HR.sqT (h:HR G w S H){a:Addr}{xs:List V}(s:oV w.K w.F a xs):oV G.K H a xs:=by rw[<-h.K];exact s.mono h.sub
theorem HR.live (h:HR G w S H){i:Nat}(l:fm S i):∃o,H (w.ρ i)=some o:=by
 obtain⟨c,e,n⟩:=l;exact (h.cell i c e).some n
theorem HR.HV (h:HR G w S H){p:Addr}(hp:H p=none):w.hid p=none:=by
 cases e:w.hid p with
 |none=>rfl
 |some o=>rw[h.hid p o e] at hp;cases hp
theorem HR.free (h:HR G w S H){p:Addr}(hp:H p=none):¬ ((∃i,fm S i/\w.ρ i=p)\/w.hid p≠none):=by
 rintro (⟨i,l,rfl⟩|z)
 ·obtain⟨o,e⟩:=h.live l
  rw[hp] at e;cases e
 ·exact z (h.HV hp)
theorem HR.N6 (h:HR G w S H){p:Addr}(hp:H p=none):w.F p=none:=by rw[h.F];unfold Fz;rw[if_neg (h.free hp)];exact hp
theorem Am {hid:Hp}{H:Hp}{p:Addr}{o:HO}(h:∀b o,hid b=some o->H b=some o)(hp:hid p=none):∀b u,hid b=some u->bG H p o b=some u:=λb u e=>by
 rw[au λz=>by subst z;rw[hp] at e;cases e]
 exact h b u e
theorem N7 {hid:Hp}{p:Addr}{o:HO}(h:∀b xs,hid b≠some (.gV xs))(ho:∀xs,o ≠ .gV xs):∀b xs,bG hid p o b≠some (.gV xs):=λb xs e=>by
 by_cases hb:b=p
 ·subst hb;rw[av] at e;cases e;exact ho _ rfl
 ·rw[au hb] at e;exact h b xs e
theorem HR.lay (h:HR G w S H){p:Addr}(hp:H p=none)(o:HO):HR G {w with F:=bG w.F p o} S (bG H p o)/\w.le {w with F:=bG w.F p o}:=by
 have hn:=h.free hp;have hF:=h.N6 hp;have le:w.le {w with F:=bG w.F p o}:=⟨rfl,zah _,λ_ _=>rfl,λb u e=>lg hF e,rfl⟩
 refine⟨⟨h.K,h.n,?_,λi c e=>(h.cell i c e).mono le λu eu=>lg hp eu,h.inj,Am h.hid (h.HV hp),h.kE,h.hl⟩,le⟩
 show bG w.F p o=Fz w.ρ w.hid S (bG H p o)
 rw[h.F];funext b
 by_cases hb:b=p
 ·subst hb
  rw[av];unfold Fz;rw[if_neg hn,av]
 ·rw[au hb]
  unfold Fz;rw[au hb]
theorem yf {c:Ce}(hc:c.fz=false):∀i,fm (S++[c]) i↔fm S i\/i=S.length:=λi=>by
  constructor
  ·rintro⟨d,e,n⟩
   by_cases hi:i<S.length
   ·rw[zai hi] at e;exact .inl ⟨d,e,n⟩
   ·rw[zaq (by omega)] at e
    have:i - S.length<1:=by
     have:=(zab.mp e).1
     simpa using this
    exact .inr (by omega)
  ·rintro (⟨d,e,n⟩|rfl)
   ·exact⟨d,by rw[zai (zab.mp e).1];exact e,n⟩
   ·exact⟨c,by simp,hc⟩
theorem fm.lt {i:Nat}(l:fm S i):i<S.length:=let ⟨_,e,_⟩:=l;(zab.mp e).1
noncomputable def Wd.up (w:Wd)(p:Addr):Wd:={w with n:=w.n+1,ρ:= λi=>if i=w.n then p else w.ρ i}
theorem Wd.uq (w:Wd)(p:Addr):w.le (w.up p):=⟨rfl,zbf _,λi hi=>by show (if i=w.n then p else w.ρ i)=_;rw[if_neg (by omega)],λb u e=>e,rfl⟩
theorem HR.ais (h:HR G w S H){p:Addr}{H':Hp}{c:Ce}(hc:c.fz=false)(om:∀i,fm S i->w.ρ i≠p)(hH:∀b,b≠p->H' b=H b)(hF:w.F p=none)(hh:w.hid p=none)
  (ok:bJ G (w.up p) H' p c):HR G (w.up p) (S++[c]) H':=by
 have lv:=yf (S:=S) hc
 have le:=w.uq p;have ja:∀i,i<S.length->(w.up p).ρ i=w.ρ i:=λi hi=>le.r i (by rw[h.n];exact hi)
 have qS:(w.up p).ρ S.length=p:=by show (if S.length=w.n then p else w.ρ S.length)=p;rw[if_pos h.n.symm]
 refine⟨h.K,by show w.n+1=_;simp[h.n],?_,λi d e=>?_,λi j li lj e=>?_,λb o e=>?_,λi li=>?_,h.hl⟩
 ·show w.F=Fz (w.up p).ρ w.hid (S++[c]) H'
  rw[h.F];funext b
  unfold Fz;by_cases hb:b=p
  ·subst hb
   rw[h.F] at hF;unfold Fz at hF;rw[hF,if_pos (.inl ⟨S.length,(lv _).mpr (.inr rfl),qS⟩)]
  ·rw[hH b hb]
   have Xj:(∃i,fm (S++[c]) i/\(w.up p).ρ i=b)↔∃i,fm S i/\w.ρ i=b:=by
    constructor
    ·rintro⟨i,li,e⟩
     rcases (lv i).mp li with l|rfl
     ·rw[ja i l.lt] at e
      exact⟨i,l,e⟩
     ·rw[qS] at e;exact absurd e.symm hb
    ·rintro⟨i,l,e⟩
     exact⟨i,(lv i).mpr (.inl l),by rw[ja i l.lt];exact e⟩
   by_cases hx:(∃i,fm S i/\w.ρ i=b)\/w.hid b≠none
   ·rw[if_pos hx,if_pos (hx.imp Xj.mpr λz=>z)]
   ·rw[if_neg hx,if_neg (λz=>hx (z.imp Xj.mp λz=>z))]
 ·by_cases hi:i<S.length
  ·rw[zai hi] at e
   rw[ja i hi];cases hd:d.fz with
   |true=>exact bJ.N5 le hd (h.cell i d e)
   |false=>exact (h.cell i d e).mono le λu eu=>by rw[hH _ (om i ⟨d,e,hd⟩)];exact eu
  ·rw[zaq (by omega)] at e
   have h0:i - S.length<1:=by simpa using (zab.mp e).1
   have h1:i=S.length:=by omega
   subst h1;simp at e
   subst e;rw[qS];exact ok
 ·rcases (lv i).mp li with l|rfl
  ·rcases (lv j).mp lj with l' | rfl
   ·rw[ja i l.lt,ja j l'.lt] at e
    exact h.inj i j l l' e
   ·rw[ja i l.lt,qS] at e
    exact absurd e (om i l)
  ·rcases (lv j).mp lj with l' | rfl
   ·rw[qS,ja j l'.lt] at e
    exact absurd e.symm (om j l')
   ·rfl
 ·have e2:w.hid b=some o:=e
  rw[hH b λz=>by subst z;rw[hh] at e2;cases e2]
  exact h.hid b o e2
 ·show w.hid _=none
  rcases (lv i).mp li with l|rfl
  ·rw[ja i l.lt];exact h.kE i l
  ·rw[qS];exact hh
theorem HR.N8 (h:HR G w S H){p:Addr}(hp:H p=none):∀i,fm S i->w.ρ i≠p:=λi l z=>h.free hp (.inl ⟨i,l,z⟩)
theorem HR.Kv (h:HR G w S H){p:Addr}(hp:H p=none){o:HO}{c:Ce}(hc:c.fz=false)(ok:bJ G (w.up p) (bG H p o) p c):HR G (w.up p) (S++[c]) (bG H p o)/\w.le (w.up p):=
 ⟨h.ais hc (h.N8 hp) (λb hb=>au hb) (h.N6 hp) (h.HV hp) ok,w.uq p⟩
theorem HR.EL (h:HR G w S H){i:Nat}{c c':Ce}(e:S[i]? = some c)(hc:c.fz=false)(SE:c'.fz=false){o:HO}(ok:bJ G w (bG H (w.ρ i) o) (w.ρ i) c'):HR G w (S.set i c') (bG H (w.ρ i) o):=by
 have hi:=(zab.mp e).1
 have lv:∀j,fm (S.set i c') j↔fm S j:=λj=>by
  unfold fm;by_cases hj:i=j
  ·subst hj
   rw[zaB hi];exact⟨λ_=>⟨c,e,hc⟩,λ_=>⟨c',rfl,SE⟩⟩
  ·rw[zaz hj]
 have li:fm S i:=⟨c,e,hc⟩
 refine⟨h.K,by simp[h.n],?_,λj d ej=>?_,λa b la lb=>h.inj a b ((lv a).mp la) ((lv b).mp lb),Am h.hid (h.kE i li),λj lj=>h.kE j ((lv j).mp lj),h.hl⟩
 ·rw[h.F]
  funext b
  unfold Fz;by_cases hn:(∃i,fm S i/\w.ρ i=b)\/w.hid b≠none
  ·rw[if_pos hn,if_pos (hn.imp (λz=>z.imp λj hj=>⟨(lv j).mpr hj.1,hj.2⟩) λz=>z)]
  ·rw[if_neg hn,if_neg (λz=>hn (z.imp (λz=>z.imp λj hj=>⟨(lv j).mp hj.1,hj.2⟩) λz=>z)),au λz=>hn (.inl ⟨i,⟨c,e,hc⟩,z.symm⟩)]
 ·by_cases hj:i=j
  ·subst hj
   rw[zaB hi] at ej;cases ej;exact ok
  ·rw[zaz hj] at ej
   cases hd:d.fz with
   |true=>exact bJ.N5 (Wd.le.refl w) hd (h.cell j d ej)
   |false =>
    refine (h.cell j d ej).mono (Wd.le.refl w) λu eu=>?_
    rw[au λz=>hj (h.inj i j ⟨c,e,hc⟩ ⟨d,ej,hd⟩ z.symm)]
    exact eu
theorem HR.anY (h:HR G w S H){p:Addr}(hp:H p=none)(o:HO)(ho:∀xs,o ≠ .gV xs):HR G {w with hid:=bG w.hid p o} S (bG H p o):=by
 have hn:=h.free hp;have wi:∀{t:Tr} {v:V},RT w t v->RT {w with hid:=bG w.hid p o} t v:=λ{t v} r=>RT.bF _ t v r
 refine⟨h.K,h.n,?_,λi c e=>(h.cell i c e).bF λu eu=>lg hp eu,h.inj,λb u e=>?_,λi l=>?_,N7 h.hl ho⟩
 ·show w.F=Fz w.ρ (bG w.hid p o) S (bG H p o)
  rw[h.F];funext b
  unfold Fz;by_cases hb:b=p
  ·subst hb
   rw[if_neg hn,if_pos (.inr (by rw[av];simp)),hp]
  ·rw[au hb,au hb]
 ·have e:bG w.hid p o b=some u:=e
  by_cases hb:b=p
  ·subst hb;rw[av] at e ⊢;exact e
  ·rw[au hb] at e ⊢;exact h.hid b u e
 ·show bG w.hid p o _=none
  rw[au (h.N8 hp i l)];exact h.kE i l
theorem HR.ab4 (h:HR G w S H){p:Addr}{o:HO}(hp:w.hid p=some o)(o':HO)(ho:∀xs,o' ≠ .gV xs):HR G {w with hid:=bG w.hid p o' } S (bG H p o'):=by
 have om:∀i,fm S i->w.ρ i≠p:=λi l z=>by have:=h.kE i l;rw[z,hp] at this;cases this
 refine⟨h.K,h.n,?_,λi c e=>?_,h.inj,λb u e=>?_,λi l=>?_,N7 h.hl ho⟩
 ·show w.F=Fz w.ρ (bG w.hid p o') S (bG H p o')
  rw[h.F];funext b
  unfold Fz;by_cases hb:b=p
  ·subst hb
   rw[if_pos (.inr (by rw[hp];simp)),if_pos (.inr (by rw[av];simp))]
  ·rw[au hb,au hb]
 ·cases hd:c.fz with
  |true=>exact bJ.Ku hd (h.cell i c e)
  |false=>exact (h.cell i c e).bF λu eu=>by rw[au (om i ⟨c,e,hd⟩)];exact eu
 ·have e:bG w.hid p o' b=some u:=e
  by_cases hb:b=p
  ·subst hb;rw[av] at e ⊢;exact e
  ·rw[au hb] at e ⊢;exact h.hid b u e
 ·show bG w.hid p o' _=none
  rw[au (om i l)];exact h.kE i l
theorem HR.ait (h:HR G w S H){p:Addr}{o:HO}{mw:Hp}(e0:w.hid=bG mw p o)(hp0:mw p=none):HR G {w with hid:=mw,F:=bG w.F p o} S H:=by
 have hp:w.hid p=some o:=by rw[e0];exact av
 have hH:H p=some o:=h.hid p o hp
 have om:∀i,fm S i->w.ρ i≠p:=λi l z=>by have:=h.kE i l;rw[z,hp] at this;cases this
 have hF:w.F p=none:=by rw[h.F];unfold Fz;rw[if_pos (.inr (by rw[hp];simp))]
 refine⟨h.K,h.n,?_,λi c e=>?_,h.inj,λb u e=>?_,λi l=>?_,λb xs (e:mw b=_)=>h.hl b xs (by rw[e0,au λz=>by rw[z,hp0] at e;cases e];exact e)⟩
 ·show bG w.F p o=Fz w.ρ mw S H
  rw[h.F];funext b
  unfold Fz;by_cases hb:b=p
  ·subst hb
   rw[av,if_neg,hH];rintro (⟨i,l,z⟩|z)
   ·exact om i l z
   ·exact z hp0
  ·rw[au hb,e0,au hb]
 ·exact bJ.ab2 (λb u e=>lg hF e) (h.cell i c e)
 ·have e2:mw b=some u:=e
  have nb:b≠p:=λz=>by rw[z,hp0] at e2;cases e2
  exact h.hid b u (by rw[e0,au nb];exact e2)
 ·have:=h.kE i l
  rw[e0,au (om i l)] at this;exact this
theorem HR.Ut (h:HR G w S H){p:Addr}{o:HO}{mw:Hp}(e0:w.hid=bG mw p o)(hp0:mw p=none){c:Ce}(hc:c.fz=false)(ok:bJ G ({w with hid:=mw}.up p) H p c):HR G ({w with hid:=mw}.up p) (S++[c]) H:=by
 have hp:w.hid p=some o:=by rw[e0];exact av
 have om:∀i,fm S i->w.ρ i≠p:=λi l z=>by have:=h.kE i l;rw[z,hp] at this;cases this
 have lv:=yf (S:=S) hc
 have le:=({w with hid:=mw}:Wd).uq p
 have ja:∀i,i<S.length->(if i=w.n then p else w.ρ i)=w.ρ i:=λi hi=>by rw[if_neg (by rw[h.n];omega)]
 have qS:(if S.length=w.n then p else w.ρ S.length)=p:=by rw[if_pos h.n.symm]
 refine⟨h.K,by show w.n+1=_;simp[h.n],?_,λi d e=>?_,λi j li lj e=>?_,λb u e=>?_,λi li=>?_,λb xs (e:mw b=_)=>h.hl b xs (by rw[e0,au λz=>by rw[z,hp0] at e;cases e];exact e)⟩
 ·show w.F=Fz (λi=>if i=w.n then p else w.ρ i) mw (S++[c]) H
  rw[h.F];funext b
  unfold Fz;by_cases hb:b=p
  ·subst hb
   rw[if_pos (.inr (by rw[hp];simp)),if_pos (.inl ⟨S.length,(lv _).mpr (.inr rfl),qS⟩)]
  ·have Xj:(∃i,fm (S++[c]) i/\(if i=w.n then p else w.ρ i)=b)↔∃i,fm S i/\w.ρ i=b:=by
    constructor
    ·rintro⟨i,li,e⟩
     rcases (lv i).mp li with l|rfl
     ·rw[ja i l.lt] at e
      exact⟨i,l,e⟩
     ·rw[qS] at e;exact absurd e.symm hb
    ·rintro⟨i,l,e⟩
     exact⟨i,(lv i).mpr (.inl l),by rw[ja i l.lt];exact e⟩
   have eh:w.hid b=mw b:=by rw[e0,au hb]
   by_cases hx:(∃i,fm S i/\w.ρ i=b)\/w.hid b≠none
   ·rw[if_pos hx,if_pos (hx.imp Xj.mpr λz=>by rw[<-eh];exact z)]
   ·rw[if_neg hx,if_neg (λz=>hx (z.imp Xj.mp λz=>by rw[eh];exact z))]
 ·by_cases hi:i<S.length
  ·rw[zai hi] at e
   show bJ G _ H (if i=w.n then p else w.ρ i) d
   rw[ja i hi];exact ((h.cell i d e).bF (hid:=mw) λu eu=>eu).mono le λu eu=>eu
  ·rw[zaq (by omega)] at e
   have h0:i - S.length<1:=by simpa using (zab.mp e).1
   have h1:i=S.length:=by omega
   subst h1;simp at e
   subst e;show bJ G _ H (if S.length=w.n then p else w.ρ S.length) c
   rw[qS];exact ok
 ·have e:(if i=w.n then p else w.ρ i)=(if j=w.n then p else w.ρ j):=e
  rcases (lv i).mp li with l|rfl
  ·rcases (lv j).mp lj with l' | rfl
   ·rw[ja i l.lt,ja j l'.lt] at e
    exact h.inj i j l l' e
   ·rw[ja i l.lt,qS] at e
    exact absurd e (om i l)
  ·rcases (lv j).mp lj with l' | rfl
   ·rw[qS,ja j l'.lt] at e
    exact absurd e.symm (om j l')
   ·rfl
 ·have e2:mw b=some u:=e
  have nb:b≠p:=λz=>by rw[z,hp0] at e2;cases e2
  exact h.hid b u (by rw[e0,au nb];exact e2)
 ·show mw (if i=w.n then p else w.ρ i)=none
  rcases (lv i).mp li with l|rfl
  ·rw[ja i l.lt]
   have:=h.kE i l
   rw[e0,au (om i l)] at this;exact this
  ·rw[qS];exact hp0
theorem ab6 {ρ:Nat->Addr}{hid:Hp}{m:Nat}:∀b o,Fz ρ hid S H b=some o->Fz ρ hid (S.take m) H b=some o:=λb o e=>by
 unfold Fz at e ⊢
 split at e
 ·cases e
 ·rename_i hn
  rw[if_neg]
  ·exact e
  ·rintro (⟨i,⟨c,ei,n⟩,r⟩|z)
   ·have hi:=(zab.mp ei).1
    rw[zbh] at hi;rw[zbC (by omega)] at ei
    exact hn (.inl ⟨i,⟨c,ei,n⟩,r⟩)
   ·exact hn (.inr z)
theorem HR.cut (h:HR G w S H){m:Nat}(hm:m<=S.length)(hb:∀i c,(S.take m)[i]? = some c->bJ G {w with n:=m,F:=Fz w.ρ w.hid (S.take m) H} H (w.ρ i) c):HR G {w with n:=m,F:=Fz w.ρ w.hid (S.take m) H} (S.take m) H:=by
 have lv:∀i,fm (S.take m) i->fm S i:=λi ⟨c,e,n⟩=>⟨c,by
  have hi:=(zab.mp e).1
  rw[zbh] at hi;rw[zbC (by omega)] at e
  exact e,n⟩
 exact⟨h.K,by simp;omega,rfl,hb,λi j li lj e=>h.inj i j (lv i li) (lv j lj) e,h.hid,λi l=>h.kE i (lv i l),h.hl⟩
inductive R (α:Type) where
 |ok (a:α) (s:Cs)|ex (n:Nat) (s:Cs)|aG
noncomputable def R.aF {α β:Type}(r:R α)(k:α -> Cs->R β):R β:= match r with|.ok a s=>k a s|.ex n s=>.ex n s|.aG=>.aG
theorem R.dZ {α β:Type}(a:α)(s:Cs)(k:α -> Cs->R β):(R.ok a s).aF k=k a s:=rfl
theorem R.Fd {α β:Type}(n:Nat)(s:Cs)(k:α -> Cs->R β):(R.ex n s:R α).aF k = .ex n s:=rfl
theorem R.Uu {α β:Type}(k:α -> Cs->R β):(R.aG:R α).aF k = .aG:=rfl
noncomputable def xB {α:Type}(c:Prop)(a b:α):α:= @ite α c (Classical.propDecidable c) a b
theorem pS {α:Type}{c:Prop}(h:c)(a b:α):xB c a b=a:=by unfold xB;rw[if_pos h]
theorem aiu {α:Type}(a b:α):xB True a b=a:=pS trivial a b
inductive RS where
 |nx (τ:List (Option Tr)) (s:Cs)|rt (t:Tr) (s:Cs)|bk (τ:List (Option Tr)) (s:Cs)|ct (τ:List (Option Tr)) (s:Cs)|ex (n:Nat) (s:Cs)|aG
noncomputable abbrev En:=List (Option Tr)
noncomputable abbrev Em:=En->Cs->R Tr
noncomputable abbrev Sm:=En->Cs->RS
structure Sl (w:Wd) (τ:En) (σ:St):Prop where
 len:τ.length=σ.length
 sr:∀(i:Nat) (t:Tr),τ[i]? = some (some t)->∃v,σ[i]? = some (some v)/\RT w t v
theorem Sl.mono {w w':Wd}(le:w.le w'){τ:En}{σ:St}(h:Sl w τ σ):Sl w' τ σ:= ⟨h.len,λi t e=>let ⟨v,e2,r⟩:=h.sr i t e;⟨v,e2,RT.mono le t v r⟩⟩
theorem Sl.set (h:Sl w τ σ)(i:Nat)(r:RT w t v):Sl w (τ.set i (some t)) (σ.set i (some v)):=by
 refine⟨by simp[h.len],λj u e=>?_⟩
 by_cases hj:i=j
 ·subst hj
  have hi:i<τ.length:=by
   have:=(zab.mp e).1
   simpa using this
  rw[zaB hi] at e;cases e;exact⟨v,by rw[zaB (by rw[<-h.len];exact hi)],r⟩
 ·rw[zaz hj] at e
  rw[zaz hj];exact h.sr j u e
theorem Sl.yg (h:Sl w τ σ)(i:Nat)(x:Option V):Sl w (τ.set i none) (σ.set i x):=by
 refine⟨by simp[h.len],λj u e=>?_⟩
 by_cases hj:i=j
 ·subst hj
  have hi:i<τ.length:=by
   have:=(zab.mp e).1
   simpa using this
  rw[zaB hi] at e;cases e
 ·rw[zaz hj] at e
  rw[zaz hj];exact h.sr j u e
noncomputable def pT (G:Gx)(w:Wd)(n:Nat)(S':Cs):Prop:=∃c fs,S'[n]? = some (.oQ c fs)/\∀w' H',w.le w'->HR G w' S' H'->G.E (.ref (G.cl c)) (some (w'.ρ n)) H'
theorem pT.mono {G:Gx}{w w1:Wd}(le:w.le w1){n:Nat}{S:Cs}(h:pT G w n S):pT G w1 n S:=let ⟨c,fs,e,k⟩:=h;⟨c,fs,e,λw' H' l hr=>k w' H' (le.trans l) hr⟩
noncomputable def bh {α β:Type}(jF:Wd -> α -> β -> Prop)(G:Gx)(w:Wd)(r:R α)(Q:β -> Hp->Prop):Prop:=match r with
 |.ok a S'=>∀w' H' b,w.le w'->HR G w' S' H'->jF w' a b->Q b H'
 |.ex n S'=>pT G w n S'
 |.aG=>False
theorem bh.mono {α β:Type}{jF:Wd -> α -> β -> Prop}{G:Gx}{w:Wd}{r:R α}{Q Q' : β -> Hp->Prop}(h:bh jF G w r Q)(k:∀b H,Q b H->Q' b H):bh jF G w r Q':=by
 cases r with
 |ok a S=>exact λw' H' b le hr rl=>k _ _ (h w' H' b le hr rl)
 |ex n S=>exact h
 |aG=>exact h
theorem bh.wd {α β:Type}{jF:Wd -> α -> β -> Prop}{G:Gx}{w w1:Wd}(le:w.le w1){r:R α}{Q:β -> Hp->Prop}(h:bh jF G w r Q):bh jF G w1 r Q:=by
 cases r with
 |ok a S=>exact λw' H' b l hr rl=>h w' H' b (le.trans l) hr rl
 |ex n S=>exact pT.mono le h
 |aG=>exact h
theorem bh.aF {α β γ δ:Type}{jF:Wd -> α -> β -> Prop}{aiv:Wd -> γ -> δ -> Prop}{G:Gx}{w:Wd}{r:R α}{k:α -> Cs->R γ}{Q:δ -> Hp->Prop}(h:bh aiv G w (r.aF k) Q):
  bh jF G w r (λb H1=>∃w1 S1 a,w.le w1/\HR G w1 S1 H1/\jF w1 a b/\r = .ok a S1/\bh aiv G w1 (k a S1) Q):=by
 cases r with
 |ok a S=>exact λw' H' b le hr rl=>⟨w',S,a,le,hr,rl,rfl,bh.wd le h⟩
 |ex n S=>exact h
 |aG=>exact h
noncomputable def cG (G:Gx)(w:Wd)(r:RS)(D:tR):Prop:=match r with
 |.nx τ S'=>∀w' H' dX,w.le w'->HR G w' S' H'->Sl w' τ dX->D.nx dX H'
 |.bk τ S'=>∀w' H' dX,w.le w'->HR G w' S' H'->Sl w' τ dX->D.bk dX H'
 |.ct τ S'=>∀w' H' dX,w.le w'->HR G w' S' H'->Sl w' τ dX->D.ct dX H'
 |.rt t S'=>∀w' H' v,w.le w'->HR G w' S' H'->RT w' t v->D.rt v H'
 |.ex n S'=>pT G w n S'
 |.aG=>False
theorem cG.wd {G:Gx}{w w1:Wd}(le:w.le w1){r:RS}{D:tR}(h:cG G w r D):cG G w1 r D:=by
 cases r with
 |nx τ S=>exact λw' H' b l hr rl=>h w' H' b (le.trans l) hr rl
 |bk τ S=>exact λw' H' b l hr rl=>h w' H' b (le.trans l) hr rl
 |ct τ S=>exact λw' H' b l hr rl=>h w' H' b (le.trans l) hr rl
 |rt τ S=>exact λw' H' b l hr rl=>h w' H' b (le.trans l) hr rl
 |ex n S=>exact pT.mono le h
 |aG=>exact h
noncomputable def R.bR {α:Type}(r:R α)(k:α -> Cs->RS):RS:=match r with|.ok a s=>k a s|.ex n s=>.ex n s|.aG=>.aG
theorem R.fF {α:Type}(a:α)(s:Cs)(k:α -> Cs->RS):(R.ok a s).bR k=k a s:=rfl
theorem R.pU {α:Type}(n:Nat)(s:Cs)(k:α -> Cs->RS):(R.ex n s:R α).bR k = .ex n s:=rfl
theorem R.B9 {α:Type}(k:α -> Cs->RS):(R.aG:R α).bR k = .aG:=rfl
theorem cG.aF {α β:Type}{jF:Wd -> α -> β -> Prop}{G:Gx}{w:Wd}{r:R α}{k:α -> Cs->RS}{D:tR}(h:cG G w (r.bR k) D):
  bh jF G w r (λb H1=>∃w1 S1 a,w.le w1/\HR G w1 S1 H1/\jF w1 a b/\r = .ok a S1/\cG G w1 (k a S1) D):=by
 cases r with
 |ok a S=>exact λw' H' b le hr rl=>⟨w',S,a,le,hr,rl,rfl,cG.wd le h⟩
 |ex n S=>exact h
 |aG=>exact h
structure jH (G:Gx) (k:Nat) (X:Cx):Prop where
 K:X.K=G.K
 e_:0<k->X.e_=true
 room:0<k->gJ k X.A
 un:X.A.units+200<cLine
theorem jH.hu (o:jH G k X):X.A.units+100<cLine:=by have:=o.un;omega
theorem jH.hu1 (o:jH G k X):X.A.units+1<cLine:=by have:=o.hu;omega
noncomputable def fK (G:Gx)(f:Em):TE:=λσ H Q=>∃w S τ,HR G w S H/\Sl w τ σ /\ bh RT G w (f τ S) Q
noncomputable def B_ (G:Gx)(f:En->Cs->R Bool):TT:=λσ H Q=>∃w S τ,HR G w S H/\Sl w τ σ /\ bh (λ_ a b=>a=b) G w (f τ S) Q
noncomputable def Fe (G:Gx)(f:En->Cs->R (List Tr)):TA:=λσ H Q=>∃w S τ,HR G w S H/\Sl w τ σ /\ bh bL G w (f τ S) Q
noncomputable def N9 (G:Gx)(f:Sm):TS:=λD σ H=>∃w S τ,HR G w S H/\Sl w τ σ /\ cG G w (f τ S) D
noncomputable def ab7 (G:Gx)(f:Tr->En->Cs->R En):TG:=λv σ H Q=>∃w S τ t,HR G w S H/\Sl w τ σ /\ RT w t v/\bh Sl G w (f t τ S) Q
structure TV (G:Gx) (k:Nat) (X:Cx) (e:Expr) (f:Em):Prop where
 jE:jH G k X->PE X e (fK G f)
noncomputable instance {G:Gx}{k:Nat}{X:Cx}{e:Expr}{f:Em}:CoeFun (TV G k X e f) (λ_=>jH G k X->PE X e (fK G f)):=⟨TV.jE⟩
structure Ca (G:Gx) (k:Nat) (X:Cx) (e:Expr) (f:En->Cs->R Bool):Prop where
 jE:jH G k X->PT X e (B_ G f)
noncomputable instance {G:Gx}{k:Nat}{X:Cx}{e:Expr}{f:En->Cs->R Bool}:CoeFun (Ca G k X e f) (λ_=>jH G k X->PT X e (B_ G f)):=⟨Ca.jE⟩
structure N_ (G:Gx) (k:Nat) (X:Cx) (e:Expr) (f:En->Cs->R Bool):Prop where
 jE:jH G k X->PW X e (B_ G f)
noncomputable instance {G:Gx}{k:Nat}{X:Cx}{e:Expr}{f:En->Cs->R Bool}:CoeFun (N_ G k X e f) (λ_=>jH G k X->PW X e (B_ G f)):=⟨N_.jE⟩
structure xm (G:Gx) (k:Nat) (X:Cx) (es:List Expr) (f:En->Cs->R (List Tr)):Prop where
 jE:jH G k X->PA X es (Fe G f)
noncomputable instance {G:Gx}{k:Nat}{X:Cx}{es:List Expr}{f:En->Cs->R (List Tr)}:CoeFun (xm G k X es f) (λ_=>jH G k X->PA X es (Fe G f)):=⟨xm.jE⟩
structure An (G:Gx) (k:Nat) (X:Cx) (st:Stmt) (f:Sm):Prop where
 jE:jH G k X->PS X st (N9 G f)
noncomputable instance {G:Gx}{k:Nat}{X:Cx}{st:Stmt}{f:Sm}:CoeFun (An G k X st f) (λ_=>jH G k X->PS X st (N9 G f)):=⟨An.jE⟩
structure HW (G:Gx) (k:Nat) (X:Cx) (st:List Stmt) (f:Sm):Prop where
 jE:jH G k X->xq X st (N9 G f)
noncomputable instance {G:Gx}{k:Nat}{X:Cx}{st:List Stmt}{f:Sm}:CoeFun (HW G k X st f) (λ_=>jH G k X->xq X st (N9 G f)):=⟨HW.jE⟩
structure Oa (G:Gx) (k:Nat) (X:Cx) (tg:Expr) (f:Tr->En->Cs->R En):Prop where
 jE:jH G k X->PG X tg (ab7 G f)
noncomputable instance {G:Gx}{k:Nat}{X:Cx}{tg:Expr}{f:Tr->En->Cs->R En}:CoeFun (Oa G k X tg f) (λ_=>jH G k X->PG X tg (ab7 G f)):=⟨Oa.jE⟩
section
variable {X:Cx}{e:Expr}{st:Stmt}{sts:List Stmt}{es:List Expr}
theorem PE.wk {t t':TE}(h:PE X e t)(g:∀ σ H Q,t' σ H Q->t σ H Q):PE X e t':=λah s σ H Q I q=>h ah s σ H Q I (g _ _ _ q)
theorem PT.wk {t t':TT}(h:PT X e t)(g:∀ σ H Q,t' σ H Q->t σ H Q):PT X e t':=λah s σ H Q I q=>h ah s σ H Q I (g _ _ _ q)
theorem PW.wk {t t':TT}(h:PW X e t)(g:∀ σ H Q,t' σ H Q->t σ H Q):PW X e t':=λwh ah s σ H Q I q=>h wh ah s σ H Q I (g _ _ _ q)
theorem PA.wk {t t':TA}(h:PA X es t)(g:∀ σ H Q,t' σ H Q->t σ H Q):PA X es t':=λpos ah s σ H Q I q=>h pos ah s σ H Q I (g _ _ _ q)
theorem PS.wk {t t':TS}(h:PS X st t)(g:∀D σ H,t' D σ H->t D σ H):PS X st t':=λah s σ H D I q=>h ah s σ H D I (g _ _ _ q)
theorem xq.wk {t t':TS}(h:xq X sts t)(g:∀D σ H,t' D σ H->t D σ H):xq X sts t':=λah s σ H D I q=>h ah s σ H D I (g _ _ _ q)
theorem PG.wk {t t':TG}(h:PG X e t)(g:∀v σ H Q,t' v σ H Q->t v σ H Q):PG X e t':=λah s σ H v u Q I r q=>h ah s σ H v u Q I r (g _ _ _ _ q)
end
noncomputable def c_:Expr->Bool|.Starred _ _=>true|_=>false
noncomputable def cX:List Expr->Bool|[]=>true|e::r=>!c_ e && cX r
theorem cE {e:Expr}{es:List Expr}{env:Env}(h:c_ e=false):starEach (e::es) env=(false,eval e env)::starEach es env:=by
 cases e<;>first|rfl | (cases h;done)
theorem dS:∀{es:List Expr},cX es=true->(backTo pos (starEach es env)).any (·.1)=false
 |[],_=>rfl
 |e::es,h=>by
  have h:=zbi.mp (show (!c_ e && cX es)=true from h)
  rw[cE (by simpa using h.1)]
  show (false || (backTo pos (starEach es env)).any (·.1))=false
  rw[dS h.2];rfl
theorem Cb:∀{es:List Expr},cX es=true->(backTo pos (starEach es env)).all (λx=>!x.1)=true
 |[],_=>rfl
 |e::es,h=>by
  have h:=zbi.mp (show (!c_ e && cX es)=true from h)
  rw[cE (by simpa using h.1)]
  show (true && (backTo pos (starEach es env)).all (λx=>!x.1))=true
  rw[Cb h.2];rfl
section
variable {G:Gx}{k:Nat}{X:Cx}{a b c:Expr}{fa fb fc:Em}{pos Um:Pos}
noncomputable def aa (i:Nat):Em:=λτ S=>match τ[i]? with|some (some t)=>.ok t S|_=>.aG
noncomputable def mC (t:Tr):Em:=λ_ S=>.ok t S
theorem jh (i:Nat)(hN:autoParam (X.N[i]? = some x) zp_0)(hv:autoParam (Vis X.env.scope x) zp_7)(hd:autoParam ((x == ("__debug__" : Str))=false) zp_1)
  (BA:autoParam ((x == ("__classdict__" : Str))=false) zp_1):TV G k X (.Name x pos) (aa i):=.mk<|λ_=>(MI hN hv hd BA).wk λσ H Q h=>by
 obtain⟨w,S,τ,hr,sl,q⟩:=h;unfold aa at q;split at q
 ·rename_i t e
  obtain⟨v,e2,r⟩:=sl.sr i t e;exact⟨v,e2,q w H v (.refl w) hr r⟩
 ·exact q.elim
theorem Ob (h:PE X e (tC v))(r:∀w:Wd,w.K=G.K->RT w t v):TV G k X e (mC t):=.mk<|λ_=>h.wk λσ H Q h=>by
 obtain⟨w,S,τ,hr,sl,q⟩:=h;exact q w H v (.refl w) hr (r w hr.K)
theorem d7:RT w (.int i) (.int i):=by unfold RT;rfl
theorem lq:RT w (.str i) (.str i):=by unfold RT;rfl
theorem gM {w:Wd}{i:Bool}:RT w (.bl i) (.bl i):=by unfold RT;rfl
theorem ur:RT w .bz .bz:=by unfold RT;rfl
theorem Ff {i j pos}:TV G k X (.Constant (.int i) j pos) (mC (.int i)):=Ob aaJ λ_ _=>d7
theorem aix {i j pos}:TV G k X (.Constant (.bool i) j pos) (mC (.bl i)):=Ob ag7 λ_ _=>gM
theorem ab8 {i j pos}:TV G k X (.Constant (.str i) j pos) (mC (.str i)):=Ob aaL λ_ _=>lq
theorem ab9 {j pos}:TV G k X (.Constant .none j pos) (mC .bz):=Ob aaK λ_ _=>ur
theorem c7 (hm:X.mg x=some (.int i tk))(hg:autoParam (Gl X x) zp_0)(hd:autoParam ((x == ("__debug__" : Str))=false) zp_1):TV G k X (.Name x pos) (mC (.int i)):=Ob (zW (v:=.int i) hg hm ⟨_,rfl⟩ hd) λ_ _=>d7
noncomputable def ai (g:Tr->Tr->Cs->R Tr)(fa fb:Em):Em:=λτ S=>(fa τ S).aF λt1 S1=>(fb τ S1).aF λt2 S2=>g t1 t2 S2
noncomputable def Xk (g:Tr->Cs->R Tr)(fa:Em):Em:=λτ S=>(fa τ S).aF λt1 S1=>g t1 S1
noncomputable def r2 (G:Gx)(g:Tr->Tr->Cs->R Tr):R2:=λx y H Q=>∃w S t1 t2,HR G w S H/\RT w t1 x/\RT w t2 y/\bh RT G w (g t1 t2 S) Q
noncomputable def r1 (G:Gx)(g:Tr->Cs->R Tr):V->Hp->VK->Prop:=λx H Q=>∃w S t1,HR G w S H/\RT w t1 x/\bh RT G w (g t1 S) Q
theorem qT {g:Tr->Tr->Cs->R Tr}{σ:St}{H:Hp}{Q:VK}(h:fK G (ai g fa fb) σ H Q):tOp (r2 G g) (fK G fa) (fK G fb) σ H Q:=by
 obtain⟨w,S,τ,hr,sl,q⟩:=h;refine⟨w,S,τ,hr,sl,(bh.aF q).mono λx H1 cA=>?_⟩
 obtain⟨w1,S1,t1,c8,bK,r1,_,q1⟩:=cA;exact⟨w1,S1,τ,bK,sl.mono c8,(bh.aF q1).mono λy H2 dR=>by obtain⟨w2,S2,t2,fG,dP,r2,_,q2⟩:=dR;exact⟨w2,S2,t1,t2,dP,RT.mono fG _ _ r1,r2,q2⟩⟩
structure oq (G:Gx) (k:Nat) (f:Value->Value->Sem Value) (g:Tr->Tr->Cs->R Tr):Prop where
 jE:∀X:Cx,jH G k X->kQ X f (r2 G g)
noncomputable instance {G:Gx}{k:Nat}{f:Value->Value->Sem Value}{g:Tr->Tr->Cs->R Tr}:CoeFun (oq G k f g) (λ_=>∀X:Cx,jH G k X->kQ X f (r2 G g)):=⟨oq.jE⟩
theorem Ao (ho:oq G k (binaryOp op) g)(ha:TV G k X a fa)(hb:TV G k X b fb):TV G k X (.BinOp a op b pos) (ai g fa fb):=.mk<|λo =>
 (ahn (ho X o) (ha o) (hb o)).wk λ_ _ _ h=>qT h
theorem aiy {op:UnaryOp}{g:Tr->Cs->R Tr}(ho:∀X:Cx,jH G k X->UnR X (unaryOp op) (r1 G g))(ha:TV G k X a fa):TV G k X (.UnaryOp op a pos) (Xk g fa):=.mk<|λo =>
 (aho (ho X o) (ha o)).wk λσ H Q h=>by
  obtain⟨w,S,τ,hr,sl,q⟩:=h;exact⟨w,S,τ,hr,sl,(bh.aF q).mono λx H1 fj=>by obtain⟨w1,S1,t1,c8,bK,r1,_,q1⟩:=fj;exact⟨w1,S1,t1,bK,r1,q1⟩⟩
theorem qU (ho:oq G k (compareOp op) g)(ha:TV G k X a fa)(hb:TV G k X b fb)(hm:behindInMarks op b=false):TV G k X (.Compare a [op] [b] pos) (ai g fa fb):=.mk<|λo =>
 (SY (ho X o) (ha o) (hb o) hm).wk λ_ _ _ h=>qT h
noncomputable def ly (g g':Tr->Tr->Cs->R Tr)(fa fb fc:Em):Em:=λτ S=>(fa τ S).aF λt1 S1=>(fb τ S1).aF λt2 S2=>(g t1 t2 S2).aF λz S3=>match z with
 |.bl true=>(fc τ S3).aF λt3 S4=>g' t2 t3 S4
 |.bl false=>.ok (.bl false) S3
 |_=>.aG
theorem Cc {g g':Tr->Tr->Cs->R Tr}{σ:St}{H:Hp}{Q:VK}(h:fK G (ly g g' fa fb fc) σ H Q):EE (r2 G g) (r2 G g') (fK G fa) (fK G fb) (fK G fc) σ H Q:=by
 obtain⟨w,S,τ,hr,sl,q⟩:=h;refine⟨w,S,τ,hr,sl,(bh.aF q).mono λx H1 je=>?_⟩
 obtain⟨w1,S1,t1,c8,bK,r1,_,q1⟩:=je;refine⟨w1,S1,τ,bK,sl.mono c8,(bh.aF q1).mono λy H2 jf=>?_⟩
 obtain⟨w2,S2,t2,fG,dP,r2,_,q2⟩:=jf;refine⟨w2,S2,t1,t2,dP,RT.mono fG _ _ r1,r2,(bh.aF q2).mono λz H3 ku=>?_⟩
 obtain⟨w3,S3,t3,mz,pV,r3,_,q3⟩:=ku;split at q3
 ·unfold RT at r3
  subst r3;refine⟨true,rfl,BR ⟨w3,S3,τ,pV,(sl.mono c8).mono (fG.trans mz),(bh.aF q3).mono λu H4 kC=>by obtain⟨w4,S4,t4,Oc,Mw,r4,_,q4⟩:=kC;exact⟨w4,S4,t2,t4,Mw,RT.mono (mz.trans Oc) _ _ r2,r4,q4⟩⟩⟩
 ·unfold RT at r3
  subst r3;exact⟨false,rfl,BQ (q3 w3 H3 _ (.refl _) pV gM)⟩
 ·exact q3.elim
theorem Od (ho:oq G k (compareOp op) g)(xj:oq G k (compareOp MT) g')(ha:TV G k X a fa)(hb:TV G k X b fb)(hc:TV G k X c fc)(hm:autoParam (lastMarks [op,MT] [b,c]=false) zp_5):
  TV G k X (.Compare a [op,MT] [b,c] pos) (ly g g' fa fb fc):=.mk<|λo=>(MS (ho X o) (xj X o) (ha o) (hb o) (hc o) hm).wk λ_ _ _ h=>Cc h
noncomputable def mB (f:Em):En->Cs->R Bool:=λτ S=>(f τ S).aF λt S1=>match t with|.bl b=>.ok b S1|_=>.aG
theorem sW {f:Em}{σ:St}{H:Hp}{Q:Bool->Hp->Prop}(h:B_ G (mB f) σ H Q):fK G f σ H λx H1=>∃c,x = .bl c/\Q c H1:=by
 obtain⟨w,S,τ,hr,sl,q⟩:=h;refine⟨w,S,τ,hr,sl,(bh.aF q).mono λx H1 kF=>?_⟩
 obtain⟨w1,S1,t1,c8,bK,r1,_,q1⟩:=kF;split at q1
 ·unfold RT at r1
  subst r1;exact⟨_,rfl,q1 w1 H1 _ (.refl _) bK rfl⟩
 ·exact q1.elim
theorem acd (h:TV G k X e f)(he:autoParam (∀tS,isTrue e X.env tS=(do let v <-tS;standAt e.pos;holding [v] (truthy v))) zp_3):Ca G k X e (mB f):=.mk<|λo=>(aaO (h o) he).wk λ_ _ _ h=>sW h
theorem jW (ho:oq G k (compareOp op) g)(ha:TV G k X a fa)(hb:TV G k X b fb)(hm:behindInMarks op b=false):Ca G k X (.Compare a [op] [b] pos) (mB (ai g fa fb)):=.mk<|λo =>
 (S8 (ho X o) (ha o) (hb o) hm).wk λ_ _ _ h=>qT (sW h)
theorem uv (ho:oq G k (compareOp op) g)(xj:oq G k (compareOp MT) g')(ha:TV G k X a fa)(hb:TV G k X b fb)(hc:TV G k X c fc)(hm:autoParam (lastMarks [op,MT] [b,c]=false) zp_5):
  Ca G k X (.Compare a [op,MT] [b,c] pos) (mB (ly g g' fa fb fc)):=.mk<|λo=>(MU (ho X o) (xj X o) (ha o) (hb o) (hc o) hm).wk λ_ _ _ h=>Cc (sW h)
variable {ta tb:En->Cs->R Bool}{dz:List Expr}
noncomputable def mD (ta tb:En->Cs->R Bool):En->Cs->R Bool:=λτ S=>(ta τ S).aF λx S1=>if x=true then tb τ S1 else .ok false S1
noncomputable def Fg (ta tb:En->Cs->R Bool):En->Cs->R Bool:=λτ S=>(ta τ S).aF λx S1=>if x=true then .ok true S1 else tb τ S1
noncomputable def uw (ta:En->Cs->R Bool):En->Cs->R Bool:=λτ S=>(ta τ S).aF λx S1=>.ok (!x) S1
theorem ace (ha:Ca G k X a ta):Ca G k X (.UnaryOp .Not a pos) (uw ta):=.mk<|λo=>(aaR (ha o)).wk λσ H Q h=>by
 obtain⟨w,S,τ,hr,sl,q⟩:=h;refine⟨w,S,τ,hr,sl,(bh.aF q).mono λx H1 Oe=>?_⟩
 obtain⟨w1,S1,t1,c8,bK,r1,_,q1⟩:=Oe;subst r1;exact q1 w1 H1 _ (.refl _) bK rfl
theorem Uv (ha:Ca G k X a ta):N_ G k X (.BoolOp .And [a] pos) ta:=.mk<|λo=>SH (ha o)
theorem acf (ha:Ca G k X a ta):N_ G k X (.BoolOp .Or [a] pos) ta:=.mk<|λo=>aaP (ha o)
theorem acg (ha:Ca G k X a ta)(hb:N_ G k X (.BoolOp .And (b::dz) pos) tb):N_ G k X (.BoolOp .And (a::b::dz) pos) (mD ta tb):=.mk<|λo=>(aaQ (ha o) (hb o)).wk λσ H Q h=>by
 obtain⟨w,S,τ,hr,sl,q⟩:=h;refine⟨w,S,τ,hr,sl,(bh.aF q).mono λx H1 pW=>?_⟩
 obtain⟨w1,S1,t1,c8,bK,r1,_,q1⟩:=pW;subst r1;cases t1 with
 |true=>rw[if_pos rfl] at q1;exact BR ⟨w1,S1,τ,bK,sl.mono c8,q1⟩
 |false=>rw[if_neg zal] at q1;exact BQ (q1 w1 H1 _ (.refl _) bK rfl)
theorem aiz (ha:Ca G k X a ta)(hb:N_ G k X (.BoolOp .Or (b::dz) pos) tb):N_ G k X (.BoolOp .Or (a::b::dz) pos) (Fg ta tb):=.mk<|λo=>(ag8 (ha o) (hb o)).wk λσ H Q h=>by
 obtain⟨w,S,τ,hr,sl,q⟩:=h;refine⟨w,S,τ,hr,sl,(bh.aF q).mono λx H1 lz=>?_⟩
 obtain⟨w1,S1,t1,c8,bK,r1,_,q1⟩:=lz;subst r1;cases t1 with
 |true=>rw[if_pos rfl] at q1;exact BR (q1 w1 H1 _ (.refl _) bK rfl)
 |false=>rw[if_neg zal] at q1;exact BQ ⟨w1,S1,τ,bK,sl.mono c8,q1⟩
theorem N_.t (h:N_ G k X e ta):Ca G k X e ta:=.mk<|λo=>(h o).pt
noncomputable def Kw (fa fb:Em):Em:=λτ S=>(fa τ S).aF λt S1=>match t with|.bl true=>fb τ S1|.bl false=>.ok (.bl false) S1|_=>.aG
noncomputable def mOr (fa fb:Em):Em:=λτ S=>(fa τ S).aF λt S1=>match t with|.bl true=>.ok (.bl true) S1|.bl false=>fb τ S1|_=>.aG
noncomputable def Uw (fa:Em):Em:=λτ S=>(fa τ S).aF λt S1=>match t with|.bl b=>.ok (.bl (!b)) S1|_=>.aG
noncomputable def El (ta:En->Cs->R Bool)(fa fb:Em):Em:=λτ S=>(ta τ S).aF λx S1=>if x=true then fa τ S1 else fb τ S1
theorem ach {op}(h:TV G k X a fa):TV G k X (.BoolOp op [a] pos) fa:=.mk<|λo=>aaS (h o)
theorem aci (ha:TV G k X a fa)(hb:TV G k X (.BoolOp .And (b::dz) pos) fb):TV G k X (.BoolOp .And (a::b::dz) pos) (Kw fa fb):=.mk<|λo=>(aaT (ha o) (hb o)).wk λσ H Q h=>by
 obtain⟨w,S,τ,hr,sl,q⟩:=h;refine⟨w,S,τ,hr,sl,(bh.aF q).mono λx H1 o7=>?_⟩
 obtain⟨w1,S1,t1,c8,bK,r1,_,q1⟩:=o7;split at q1
 ·unfold RT at r1;subst r1;exact⟨true,rfl,BR ⟨w1,S1,τ,bK,sl.mono c8,q1⟩⟩
 ·unfold RT at r1;subst r1;exact⟨false,rfl,BQ (q1 w1 H1 _ (.refl _) bK gM)⟩
 ·exact q1.elim
theorem aiA (ha:TV G k X a fa)(hb:TV G k X (.BoolOp .Or (b::dz) pos) fb):TV G k X (.BoolOp .Or (a::b::dz) pos) (mOr fa fb):=.mk<|λo=>(ahb (ha o) (hb o)).wk λσ H Q h=>by
 obtain⟨w,S,τ,hr,sl,q⟩:=h;refine⟨w,S,τ,hr,sl,(bh.aF q).mono λx H1 ji=>?_⟩
 obtain⟨w1,S1,t1,c8,bK,r1,_,q1⟩:=ji;split at q1
 ·unfold RT at r1;subst r1;exact⟨true,rfl,BR (q1 w1 H1 _ (.refl _) bK gM)⟩
 ·unfold RT at r1;subst r1;exact⟨false,rfl,BQ ⟨w1,S1,τ,bK,sl.mono c8,q1⟩⟩
 ·exact q1.elim
theorem Of (ha:TV G k X a fa):TV G k X (.UnaryOp .Not a pos) (Uw fa):=.mk<|λo=>(aaU (ha o)).wk λσ H Q h=>by
 obtain⟨w,S,τ,hr,sl,q⟩:=h;refine⟨w,S,τ,hr,sl,(bh.aF q).mono λx H1 o8=>?_⟩
 obtain⟨w1,S1,t1,c8,bK,r1,_,q1⟩:=o8;split at q1
 ·unfold RT at r1;subst r1;exact⟨_,rfl,q1 w1 H1 _ (.refl _) bK gM⟩
 ·exact q1.elim
theorem acj (hc:Ca G k X c ta)(ha:TV G k X a fa)(hb:TV G k X b fb):TV G k X (.IfExp c a b pos) (El ta fa fb):=.mk<|λo=>(MK (hc o) (ha o) (hb o)).wk λσ H Q h=>by
 obtain⟨w,S,τ,hr,sl,q⟩:=h;refine⟨w,S,τ,hr,sl,(bh.aF q).mono λx H1 ux=>?_⟩
 obtain⟨w1,S1,t1,c8,bK,r1,_,q1⟩:=ux;subst r1;cases t1 with
 |true=>rw[if_pos rfl] at q1;exact BR ⟨w1,S1,τ,bK,sl.mono c8,q1⟩
 |false=>rw[if_neg zal] at q1;exact BQ ⟨w1,S1,τ,bK,sl.mono c8,q1⟩
noncomputable def ak:En->Cs->R (List Tr):=λ_ S=>.ok [] S
noncomputable def af (f:Em)(r:En->Cs->R (List Tr)):En->Cs->R (List Tr):=λτ S=>(f τ S).aF λt S1=>(r τ S1).aF λts S2=>.ok (t::ts) S2
theorem Aq:xm G k X [] ak:=.mk<|λ_=>oX.wk λσ H Q h=>by
 obtain⟨w,S,τ,hr,sl,q⟩:=h;exact q w H [] (.refl w) hr .nil
theorem nL (ha:TV G k X e f)(hr:xm G k X es fr)(hs:autoParam (c_ e=false) zp_0):xm G k X (e::es) (af f fr):=.mk<|λo=>(gn (ha o) (hr o) (cE hs)).wk λσ H Q h=>by
 obtain⟨w,S,τ,hr,sl,q⟩:=h;refine⟨w,S,τ,hr,sl,(bh.aF q).mono λx H1 uy=>?_⟩
 obtain⟨w1,S1,t1,c8,bK,r1,_,q1⟩:=uy;refine⟨w1,S1,τ,bK,sl.mono c8,(bh.aF q1).mono λxs H2 Fi=>?_⟩
 obtain⟨w2,S2,ts,fG,dP,r2,_,q2⟩:=Fi;exact q2 w2 H2 _ (.refl _) dP (.cons (RT.mono fG _ _ r1) r2)
noncomputable def dm (fr:En->Cs->R (List Tr)):Em:=λτ S=>(fr τ S).aF λts S1=>if ts.length<=sizeLine then .ok (.tp ts) S1 else .aG
noncomputable def jX (fr:En->Cs->R (List Tr)):Em:=λτ S=>(fr τ S).aF λts S1=>if ts.length<=sizeLine then .ok (.ls ts) S1 else .aG
noncomputable def pX (fr:En->Cs->R (List Tr)):Em:=λτ S=>(fr τ S).aF λts S1=>if ts.length<=sizeLine then .ok (.hd S1.length) (S1++[.bS ts]) else .aG
theorem HR.ack {w:Wd}{S:Cs}{H:Hp}{ts:List Tr}{xs:List V}(hr:HR G w S H)(r:bL w ts xs){Q:VK}{S':Cs}(hS:S'=S)(q:bh RT G w (.ok (.tp ts) S') Q):∀p,H p=none->Q (.ref p) (bG H p (.gV xs)):=λp hp=>by
 subst hS;obtain⟨h2,le⟩:=hr.lay hp (.gV xs)
 refine q _ _ _ le h2 ?_
 unfold RT;exact⟨p,xs,rfl,av,bL.mono le _ _ r⟩
theorem HR.jY {w:Wd}{S:Cs}{H:Hp}{ts:List Tr}{xs:List V}(hr:HR G w S H)(r:bL w ts xs){Q:VK}{S':Cs}(hS:S'=S)(q:bh RT G w (.ok (.ls ts) S') Q):∀p,H p=none->Q (.ref p) (bG H p (.bS xs)):=λp hp=>by
 subst hS;obtain⟨h2,le⟩:=hr.lay hp (.bS xs)
 refine q _ _ _ le h2 ?_
 unfold RT;exact⟨p,xs,rfl,av,bL.mono le _ _ r⟩
theorem HR.aiB {w:Wd}{S:Cs}{H:Hp}{ts:List Tr}{xs:List V}(hr:HR G w S H)(r:bL w ts xs){Q:VK}{S':Cs}{n:Nat}(hS:S'=S++[.bS ts])(hn:n=S.length)(q:bh RT G w (.ok (.hd n) S') Q):∀p,H p=none->Q (.ref p) (bG H p (.bS xs)):=λp hp=>by
 subst hS hn;obtain⟨h2,le⟩:=hr.Kv (c:=.bS ts) hp (o:=.bS xs) rfl ⟨xs,av,bL.mono (w.uq p) _ _ r⟩
 refine q _ _ _ le h2 ?_
 unfold RT;refine⟨by rw[<-hr.n];exact zbo _,?_⟩
 show V.ref p=V.ref (if S.length=w.n then p else w.ρ S.length)
 rw[if_pos hr.n.symm]
theorem acm {x1}(h:xm G k X es fr):TV G k X (.Tuple es x1 pos) (dm fr):=.mk<|λo=>(M0 (h o)).wk λσ H Q h=>by
 obtain⟨w,S,τ,hr,sl,q⟩:=h;refine⟨w,S,τ,hr,sl,(bh.aF q).mono λxs H1 uz=>?_⟩
 obtain⟨w1,S1,ts,c8,bK,r1,_,q1⟩:=uz;split at q1
 ·exact⟨by rw[r1.len];assumption,bK.ack r1 rfl q1⟩
 ·exact q1.elim
theorem acn (h:xm G k X es fr):TV G k X (.List es pos) (jX fr):=.mk<|λo=>(M3 (h o)).wk λσ H Q h=>by
 obtain⟨w,S,τ,hr,sl,q⟩:=h;refine⟨w,S,τ,hr,sl,(bh.aF q).mono λxs H1 Fj=>?_⟩
 obtain⟨w1,S1,ts,c8,bK,r1,_,q1⟩:=Fj;split at q1
 ·exact⟨by rw[r1.len];assumption,bK.jY r1 rfl q1⟩
 ·exact q1.elim
theorem Ux (h:xm G k X es fr):TV G k X (.List es pos) (pX fr):=.mk<|λo=>(M3 (h o)).wk λσ H Q h=>by
 obtain⟨w,S,τ,hr,sl,q⟩:=h;refine⟨w,S,τ,hr,sl,(bh.aF q).mono λxs H1 aco=>?_⟩
 obtain⟨w1,S1,ts,c8,bK,r1,_,q1⟩:=aco;split at q1
 ·exact⟨by rw[r1.len];assumption,bK.aiB r1 rfl rfl q1⟩
 ·exact q1.elim
end
noncomputable def cM (S:Cs)(n:Nat):Option (List Tr):=match S[n]? with|some (.bS l)=>some l|_=>none
noncomputable def uA (S:Cs)(n:Nat):Option (List (d_×Tr)):=match S[n]? with|some (.jV l)=>some l|_=>none
noncomputable def iH (S:Cs)(n:Nat):Option (Str×List (Str×Tr)):=match S[n]? with|some (.e9 c l)=>some (c,l)|_=>none
theorem dD (h:cM S n=some l):S[n]? = some (.bS l):=by
 unfold cM at h;split at h
 ·cases h;assumption
 ·cases h
theorem g7 (h:uA S n=some l):S[n]? = some (.jV l):=by
 unfold uA at h;split at h
 ·cases h;assumption
 ·cases h
theorem eS (h:iH S n=some (c,l)):S[n]? = some (.e9 c l):=by
 unfold iH at h;split at h
 ·cases h;assumption
 ·cases h
noncomputable def Cd (S:Cs):Tr->Option (List Tr)
 |.ls l=>some l
 |.hd n=>cM S n
 |_=>none
noncomputable def Fl (S:Cs):Tr->Option (List Tr)
 |.ls l=>some l
 |.kl l=>some l
 |.hd n=>cM S n
 |_=>none
noncomputable def Xl:Tr->Option (List Tr)
 |.tp l=>some l
 |.kt l=>some l
 |_=>none
noncomputable def Cf (S:Cs):Tr->Option (List Tr)
 |.tp l=>some l
 |.kt l=>some l
 |.ls l=>some l
 |.kl l=>some l
 |.hd n=>cM S n
 |_=>none
noncomputable def Sn (S:Cs):Tr->Option (List (d_×Tr))
 |.hd n=>uA S n
 |_=>none
theorem RT.cS (r:RT w (.hd n) v):n<w.n/\v = .ref (w.ρ n):=by unfold RT at r;exact r
theorem mW (hr:HR G w S H)(r:RT w t v)(e:Cd S t=some l):∃a xs,v = .ref a/\H a=some (.bS xs)/\bL w l xs:=by
 cases t with
 |ls m =>
  cases e;unfold RT at r;obtain⟨a,xs,rfl,h,r⟩:=r;exact⟨a,xs,rfl,hr.sub _ _ h,r⟩
 |hd n =>
  obtain⟨xs,h1,h2⟩:=hr.cell n _ (dD e)
  exact⟨_,xs,r.cS.2,h1,h2⟩
 |_=>cases e
theorem mX (hr:HR G w S H)(r:RT w t v)(e:Fl S t=some l):∃a xs,v = .ref a/\jC G.K H a xs/\bL w l xs:=by
 cases t with
 |ls m =>
  cases e;unfold RT at r;obtain⟨a,xs,rfl,h,r⟩:=r;exact⟨a,xs,rfl,jC.of (hr.sub _ _ h),r⟩
 |kl m =>
  cases e;unfold RT at r;obtain⟨a,xs,rfl,h,r⟩:=r;exact⟨a,xs,rfl,hr.sqL h,r⟩
 |hd n =>
  obtain⟨xs,h1,h2⟩:=hr.cell n _ (dD e)
  exact⟨_,xs,r.cS.2,jC.of h1,h2⟩
 |_=>cases e
theorem mY (hr:HR G w S H)(r:RT w t v)(e:Xl t=some l):∃a xs,v = .ref a/\oV G.K H a xs/\bL w l xs:=by
 cases t with
 |tp m =>
  cases e;unfold RT at r;obtain⟨a,xs,rfl,h,r⟩:=r;exact⟨a,xs,rfl,oV.of (hr.sub _ _ h),r⟩
 |kt m =>
  cases e;unfold RT at r;obtain⟨a,xs,rfl,h,r⟩:=r;exact⟨a,xs,rfl,hr.sqT h,r⟩
 |_=>cases e
theorem Ar (hr:HR G w S H)(r:RT w t v)(e:Cf S t=some l):∃a xs,v = .ref a/\(jC G.K H a xs\/oV G.K H a xs)/\bL w l xs:=by
 cases t with
 |ls m=>obtain⟨a,xs,h1,h2,h3⟩:=mX hr r (l:=l) (e);exact⟨a,xs,h1,.inl h2,h3⟩
 |kl m=>obtain⟨a,xs,h1,h2,h3⟩:=mX hr r (l:=l) (e);exact⟨a,xs,h1,.inl h2,h3⟩
 |hd n=>obtain⟨a,xs,h1,h2,h3⟩:=mX hr r (l:=l) (e);exact⟨a,xs,h1,.inl h2,h3⟩
 |tp m=>obtain⟨a,xs,h1,h2,h3⟩:=mY hr r (l:=l) (e);exact⟨a,xs,h1,.inr h2,h3⟩
 |kt m=>obtain⟨a,xs,h1,h2,h3⟩:=mY hr r (l:=l) (e);exact⟨a,xs,h1,.inr h2,h3⟩
 |_=>cases e
theorem As (hr:HR G w S H)(r:RT w t v)(e:Sn S t=some m):∃n aU,t = .hd n/\S[n]? = some (.jV m)/\v = .ref (w.ρ n)/\H (w.ρ n)=some (.dK aU)/\RK w m aU:=by
 cases t with
 |hd n =>
  obtain⟨xs,h1,h2⟩:=hr.cell n _ (g7 e)
  exact⟨n,xs,rfl,g7 e,r.cS.2,h1,h2⟩
 |_=>cases e
theorem bL.iX (h:bL w l xs)(e:L2.iX l i=some t):∃v,L2.iX xs i=some v/\RT w t v:=by
 unfold L2.iX at e ⊢
 rw[h.len];cases q:Bk l.length i with
 |none=>rw[q] at e;cases e
 |some j=>rw[q] at e;exact h.get e
noncomputable def cU:Tr->Tr->Cs->R Tr:=λt1 t2 S=>match t1,t2 with
 |.int i,.int j=>.ok (.int (i+j)) S
 |.str a,.str b=>if a.length+b.length<=sizeLine then .ok (.str (a++b)) S else .aG
 |.tp a,.tp b=>if a.isEmpty=false/\a.length+b.length<=sizeLine then .ok (.tp (a++b)) S else .aG
 |t1,t2=>match Cd S t1,Cd S t2 with
  |some a,some b=>if a.length+b.length<=sizeLine then .ok (.ls (a++b)) S else .aG
  |_,_=>.aG
noncomputable def pY:Tr->Tr->Cs->R Tr:=λt1 t2 S=>match Cd S t1,Cd S t2 with
  |some a,some b=>if a.length+b.length<=sizeLine then .ok (.hd S.length) (S++[.bS (a++b)]) else .aG
  |_,_=>.aG
noncomputable def gI (g:Int->Int->Tr):Tr->Tr->Cs->R Tr:=λt1 t2 S=>match t1,t2 with
 |.int i,.int j=>.ok (g i j) S
 |_,_=>.aG
noncomputable def Fo (c:Int->Int->Bool)(g:Int->Int->Tr):Tr->Tr->Cs->R Tr:=λt1 t2 S=>match t1,t2 with
 |.int i,.int j=>if c i j=true then .ok (g i j) S else .aG
 |_,_=>.aG
noncomputable abbrev dF:=gI λi j=>.int (i - j)
noncomputable abbrev Uy:=Fo (λ_ j=>decide (0<j/\j<1073741824)) λi j=>.int (i / j)
noncomputable abbrev ou:=Fo (λ_ j=>decide (0<j)) λi j=>.int (i % j)
noncomputable abbrev aiC:=Fo (λi j=>decide (0<=j/\j<=1000000/\i.natAbs<2 ^ 64)) λi j=>.int (i ^ j.toNat)
noncomputable def sH:Tr->Tr->Cs->R Tr:=λt1 t2 S=>match t1,t2 with
 |.int i,.int j=>xB ((-(2 ^ 64)<i/\i<2 ^ 64)\/(-(2 ^ 64)<j/\j<2 ^ 64)) (.ok (.int (i * j)) S) .aG
 |.str a,.int n=>if 0<=n/\n<1000000/\a.length * n.toNat<=1000000 then .ok (.str (ua a n.toNat)) S else .aG
 |_,_=>.aG
noncomputable abbrev Bl:=gI λi j=>.bl (decide (i<j))
noncomputable abbrev So:=gI λi j=>.bl (decide (i<=j))
noncomputable abbrev Eo:=gI λi j=>.bl (decide (j<i))
noncomputable abbrev gGe:=gI λi j=>.bl (decide (j<=i))
noncomputable def Au:Tr->Cs->R Tr:=λt S=>match t with|.int i=>.ok (.int (-i)) S|_=>.aG
theorem bA (r:RT w (.int i) v):v = .int i:=by unfold RT at r;exact r
theorem cJ (r:RT w (.str i) v):v = .str i:=by unfold RT at r;exact r
theorem qV (r:RT w (.bl i) v):v = .bl i:=by unfold RT at r;exact r
theorem lA (r:RT w .bz v):v = .bz:=by unfold RT at r;exact r
theorem Cg (h:∀X:Cx,jH G k X->kQ X f (SS gv))(rg:∀(w:Wd) i j,RT w (g i j) (gv i j)):oq G k f (gI g):=.mk<|λX o ah s σ H x y v u Q I rx ry cA=>by
 obtain⟨w,S,t1,t2,hr,r1,r2,q⟩:=cA;unfold gI at q;split at q
 ·exact h X o ah s σ H x y v u Q I rx ry ⟨_,_,bA r1,bA r2,q w H _ (.refl w) hr (rg _ _ _)⟩
 ·exact q.elim
theorem Fp (h:∀X:Cx,jH G k X->kQ X f (rI C gv))(hc:∀i j,c i j=true->C i j)(rg:∀(w:Wd) i j,RT w (g i j) (gv i j)):oq G k f (Fo c g):=.mk<|λX o ah s σ H x y v u Q I rx ry dR=>by
 obtain⟨w,S,t1,t2,hr,r1,r2,q⟩:=dR;unfold Fo at q;split at q
 ·split at q
  ·exact h X o ah s σ H x y v u Q I rx ry ⟨_,_,bA r1,bA r2,hc _ _ (by assumption),q w H _ (.refl w) hr (rg _ _ _)⟩
  ·exact q.elim
 ·exact q.elim
theorem aiE:oq G k (binaryOp .Sub) dF:=Cg (λX _=>aa7) λ_ _ _=>d7
theorem aiF:oq G k (binaryOp .FloorDiv) Uy:=Fp (λX _=>SW) (λi j h=>(of_decide_eq_true h:0<j/\j<1073741824)) λ_ _ _=>d7
theorem aiG:oq G k (binaryOp .Mod) ou:=Fp (λX _=>aa9) (λi j h=>of_decide_eq_true h) λ_ _ _=>d7
theorem aiH:oq G k (binaryOp .Pow) aiC:=Fp (λX _=>aba) (λi j h=>(of_decide_eq_true h:0<=j/\j<=1000000/\i.natAbs<2 ^ 64)) λ_ _ _=>d7
theorem Ky:oq G k (compareOp .Lt) Bl:=Cg (λX _=>ahs) λ_ _ _=>gM
theorem Kz:oq G k (compareOp .LtE) So:=Cg (λX _=>aht) λ_ _ _=>gM
theorem aiI:oq G k (compareOp .Gt) Eo:=Cg (λX _=>ahu) λ_ _ _=>gM
theorem aiJ:oq G k (compareOp .GtE) gGe:=Cg (λX _=>ahv) λ_ _ _=>gM
theorem aiK:oq G k (binaryOp .Mult) sH:=.mk<|λX o ah s σ H x y v u Q I rx ry fj=>by
 obtain⟨w,S,t1,t2,hr,r1,r2,q⟩:=fj;unfold sH at q;split at q
 ·unfold xB at q
  split at q
  ·exact aa8 ah s σ H x y v u Q I rx ry ⟨_,_,bA r1,bA r2,(by assumption),q w H _ (.refl w) hr d7⟩
  ·exact q.elim
 ·split at q
  ·rename_i h
   exact EX ah s σ H x y v u Q I rx ry ⟨_,_,cJ r1,bA r2,h.1,h.2.1,h.2.2,q w H _ (.refl w) hr lq⟩
  ·exact q.elim
 ·exact q.elim
theorem aiL:oq G k (binaryOp .Add) cU:=.mk<|λX o ah s σ H x y v u Q I rx ry je=>by
 obtain⟨w,S,t1,t2,hr,r1,r2,q⟩:=je;unfold cU at q;split at q
 ·exact aa6 ah s σ H x y v u Q I rx ry ⟨_,_,bA r1,bA r2,q w H _ (.refl w) hr d7⟩
 ·split at q
  ·exact EF ah s σ H x y v u Q I rx ry ⟨_,_,cJ r1,cJ r2,(by assumption),q w H _ (.refl w) hr lq⟩
  ·exact q.elim
 ·split at q
  ·rename_i a b h
   obtain⟨p,xs,e1,s1,R1⟩:=mY hr r1 (l:=a) rfl
   obtain⟨p2,ys,e2,s2,R2⟩:=mY hr r2 (l:=b) rfl
   rw[<-o.K] at s1 s2;refine TL ah s σ H x y v u Q I rx ry ⟨p,p2,xs,ys,e1,e2,s1,s2,?_,by rw[R1.len,R2.len];exact h.2,λz=>?_,λz=>hr.ack (R1.sV R2) rfl q⟩
   ·intro z
    have:=R1.len
    rw[z] at this;have h1:=h.1;cases a with
    |nil=>simp at h1
    |cons _ _=>simp at this
   ·have hb:b=[]:=by
     have:=R2.len
     rw[z] at this;cases b with
     |nil=>rfl
     |cons _ _=>simp at this
    subst hb;rw[zau] at q;rw[<-e1];exact q w H _ (.refl w) hr r1
  ·exact q.elim
 ·split at q
  ·rename_i a b ea eb
   split at q
   ·obtain⟨p,xs,e1,s1,R1⟩:=mW hr r1 ea
    obtain⟨p2,ys,e2,s2,R2⟩:=mW hr r2 eb;exact Nm ah s σ H x y v u Q I rx ry ⟨p,p2,xs,ys,e1,e2,s1,s2,by rw[R1.len,R2.len];assumption,hr.jY (R1.sV R2) rfl q⟩
   ·exact q.elim
  ·exact q.elim
theorem Fq:oq G k (binaryOp .Add) pY:=.mk<|λX o ah s σ H x y v u Q I rx ry jf=>by
 obtain⟨w,S,t1,t2,hr,r1,r2,q⟩:=jf;unfold pY at q;split at q
 ·rename_i a b ea eb
  split at q
  ·obtain⟨p,xs,e1,s1,R1⟩:=mW hr r1 ea
   obtain⟨p2,ys,e2,s2,R2⟩:=mW hr r2 eb;exact Nm ah s σ H x y v u Q I rx ry ⟨p,p2,xs,ys,e1,e2,s1,s2,by rw[R1.len,R2.len];assumption,hr.aiB (R1.sV R2) rfl rfl q⟩
  ·exact q.elim
 ·exact q.elim
theorem aiM:∀X:Cx,jH G k X->UnR X (unaryOp .USub) (r1 G Au):=λX o ah s σ H x v Q I rx ku=>by
 obtain⟨w,S,t1,hr,r1,q⟩:=ku;unfold Au at q;split at q
 ·exact abb ah s σ H x v Q I rx ⟨_,bA r1,q w H _ (.refl w) hr d7⟩
 ·exact q.elim
noncomputable def Og:Tr->Tr->Option Bool
 |.int i,.int j=>some (decide (i=j))
 |.str i,.str j=>some (decide (i=j))
 |.bl i,.bl j=>some (i == j)
 |.bz,.bz=>some true
 |.bz,.int _=>some false
 |.int _,.bz=>some false
 |.bz,.bl _=>some false
 |.bl _,.bz=>some false
 |.bz,.str _=>some false
 |.str _,.bz=>some false
 |.int _,.str _=>some false
 |.str _,.int _=>some false
 |.bl _,.str _=>some false
 |.str _,.bl _=>some false
 |_,_=>none
mutual
noncomputable def Tr.nM:Tr->Bool
 |.tp l=>Tr.mE l
 |.ls l=>Tr.mE l
 |.kt _=>false
 |.kl _=>false
 |.hd _=>false
 |_=>true
noncomputable def Tr.mE:List Tr->Bool
 |[]=>true
 |t::l=>Tr.nM t && Tr.mE l
end
mutual
noncomputable def Tr.dp:Tr->Nat
 |.tp l=>Tr.sI l+1
 |.ls l=>Tr.sI l+1
 |_=>0
noncomputable def Tr.sI:List Tr->Nat
 |[]=>0
 |t::l=>max (Tr.dp t) (Tr.sI l)
end
mutual
noncomputable def Tr.dv:Tr->DV
 |.tp l=>.tp (Tr.Mx l)
 |.ls l=>.ls (Tr.Mx l)
 |.int i=>.fl (.int i)
 |.bl i=>.fl (.bl i)
 |.str i=>.fl (.str i)
 |_=>.fl .bz
noncomputable def Tr.Mx:List Tr->List DV
 |[]=>[]
 |t::l=>Tr.dv t::Tr.Mx l
end
mutual
theorem Tr.Av:∀t:Tr,DV.yc t.dv=t.dp
 |.tp l=>by unfold Tr.dv Tr.dp DV.yc;rw[Tr.Aw l]
 |.ls l=>by unfold Tr.dv Tr.dp DV.yc;rw[Tr.Aw l]
 |.int _=>by unfold Tr.dv Tr.dp DV.yc;rfl
 |.bl _=>by unfold Tr.dv Tr.dp DV.yc;rfl
 |.str _=>by unfold Tr.dv Tr.dp DV.yc;rfl
 |.bz=>by unfold Tr.dv Tr.dp DV.yc;rfl
 |.kt _=>by unfold Tr.dv Tr.dp DV.yc;rfl
 |.kl _=>by unfold Tr.dv Tr.dp DV.yc;rfl
 |.hd _=>by unfold Tr.dv Tr.dp DV.yc;rfl
theorem Tr.Aw:∀l:List Tr,DV.B4 (Tr.Mx l)=Tr.sI l
 |[]=>by unfold Tr.Mx Tr.sI DV.B4;rfl
 |t::l=>by unfold Tr.Mx Tr.sI DV.B4;rw[Tr.Av t,Tr.Aw l]
end
noncomputable def vw:Nat->Cs->Tr->Tr
 |n+1,S,.hd i=>(match cM S i with|some l=>.ls (l.map (vw n S))|none=>.hd i)
 |n+1,S,.ls l=>.ls (l.map (vw n S))
 |n+1,S,.kl l=>.ls (l.map (vw n S))
 |n+1,S,.tp l=>.tp (l.map (vw n S))
 |n+1,S,.kt l=>.tp (l.map (vw n S))
 |_,_,t=>t
section
variable {G:Gx}{w:Wd}{S:Cs}{H:Hp}
theorem kG (hg:∀t v,RT w t v->(g t).nM=true->iG G.K H (g t).dv v):∀{l:List Tr} {xs:List V},bL w l xs->Tr.mE (l.map g)=true->kD G.K H (Tr.Mx (l.map g)) xs
 |[],xs,h,_=>by rw[h.cD];unfold List.map Tr.Mx kD;rfl
 |t::l,xs,h,n=>by
  obtain⟨x,r,rfl,h1,h2⟩:=h.bD;simp only[zas] at n ⊢
  unfold Tr.mE at n;unfold Tr.Mx kD;have n:=zbi.mp n;exact⟨x,r,rfl,hg t x h1 n.1,kG hg h2 n.2⟩
mutual
theorem kH (hr:HR G w S H):∀(t:Tr) (v:V),RT w t v->t.nM=true->iG G.K H t.dv v
 |.tp l,v,r,n=>by
  unfold RT at r;unfold Tr.nM at n;unfold Tr.dv iG
  obtain⟨a,xs,e,h,r⟩:=r;exact⟨a,xs,e,oV.of (hr.sub _ _ h),qW hr l xs r n⟩
 |.ls l,v,r,n=>by
  unfold RT at r;unfold Tr.nM at n;unfold Tr.dv iG
  obtain⟨a,xs,e,h,r⟩:=r;exact⟨a,xs,e,jC.of (hr.sub _ _ h),qW hr l xs r n⟩
 |.int _,v,r,n=>by unfold Tr.dv iG;exact⟨bA r,rfl⟩
 |.bl _,v,r,n=>by unfold Tr.dv iG;exact⟨qV r,rfl⟩
 |.str _,v,r,n=>by unfold Tr.dv iG;exact⟨cJ r,rfl⟩
 |.bz,v,r,n=>by unfold Tr.dv iG;exact⟨lA r,rfl⟩
 |.kt _,v,r,n=>by unfold Tr.nM at n;cases n
 |.kl _,v,r,n=>by unfold Tr.nM at n;cases n
 |.hd _,v,r,n=>by unfold Tr.nM at n;cases n
theorem qW (hr:HR G w S H):∀(l:List Tr) (xs:List V),bL w l xs->Tr.mE l=true->kD G.K H (Tr.Mx l) xs
 |[],xs,r,n=>by unfold Tr.Mx kD;exact r.cD
 |t::l,xs,r,n=>by
  obtain⟨x,r',rfl,h1,h2⟩:=r.bD;unfold Tr.mE at n;unfold Tr.Mx kD;have n:=zbi.mp n;exact⟨x,r',rfl,kH hr t x h1 n.1,qW hr l r' h2 n.2⟩
end
theorem lB (hr:HR G w S H):∀(n:Nat) (t:Tr) (v:V),RT w t v->(vw n S t).nM=true->iG G.K H (vw n S t).dv v
 |0,t,v,r,n=>by unfold vw at n ⊢;exact kH hr t v r n
 |m+1,t,v,r,n=>by
  cases t with
  |hd i =>
   unfold vw at n ⊢
   split at n
   ·rename_i l e
    unfold Tr.nM at n;obtain⟨xs,h1,h2⟩:=hr.cell i _ (dD e)
    rw[r.cS.2];unfold Tr.dv iG;exact⟨_,xs,rfl,jC.of h1,kG (lB hr m) h2 n⟩
   ·unfold Tr.nM at n;cases n
  |ls l =>
   unfold vw at n ⊢
   unfold Tr.nM at n;unfold RT at r;obtain⟨a,xs,e,h,r⟩:=r;unfold Tr.dv iG;exact⟨a,xs,e,jC.of (hr.sub _ _ h),kG (lB hr m) r n⟩
  |kl l =>
   unfold vw at n ⊢
   unfold Tr.nM at n;unfold RT at r;obtain⟨a,xs,e,h,r⟩:=r;unfold Tr.dv iG;exact⟨a,xs,e,hr.sqL h,kG (lB hr m) r n⟩
  |tp l =>
   unfold vw at n ⊢
   unfold Tr.nM at n;unfold RT at r;obtain⟨a,xs,e,h,r⟩:=r;unfold Tr.dv iG;exact⟨a,xs,e,oV.of (hr.sub _ _ h),kG (lB hr m) r n⟩
  |kt l =>
   unfold vw at n ⊢
   unfold Tr.nM at n;unfold RT at r;obtain⟨a,xs,e,h,r⟩:=r;unfold Tr.dv iG;exact⟨a,xs,e,hr.sqT h,kG (lB hr m) r n⟩
  |bz=>unfold vw at n ⊢;exact kH hr _ v r n
  |int=>unfold vw at n ⊢;exact kH hr _ v r n
  |bl=>unfold vw at n ⊢;exact kH hr _ v r n
  |str=>unfold vw at n ⊢;exact kH hr _ v r n
end
open Classical in
noncomputable def cY (neg:Bool):Tr->Tr->Cs->R Tr:=λt1 t2 S=>match Og t1 t2 with
 |some b=>.ok (.bl (if neg then !b else b)) S
 |none=>if vw 6 S t1=vw 6 S t2/\(vw 6 S t1).nM=true/\(vw 6 S t1).dp<=50/\(vw 6 S t1).dp≠0 then .ok (.bl (!neg)) S else .aG
theorem Uz (h:Og t1 t2=some b)(r1:RT w t1 x)(r2:RT w t2 y):abc x y=true/\decide (x=y)=b:=by
 unfold Og at h;split at h<;>(first | (cases h;done)|skip)<;>(unfold RT at r1 r2;subst r1;subst r2;cases h;first|exact⟨rfl,EA⟩|exact⟨rfl,by simp⟩|exact⟨rfl,by rw[zbe];simp⟩)
theorem Oh:oq G k (compareOp (if neg then .NotEq else .Eq)) (cY neg):=.mk<|λX o ah s σ H x y v u Q I rx ry kC=>by
 obtain⟨w,S,t1,t2,hr,r1,r2,q⟩:=kC;unfold cY at q;split at q
 ·rename_i b e
  obtain⟨h1,h2⟩:=Uz e r1 r2;have q:=q w H _ (.refl w) hr gM
  cases neg with
  |true=>exact ahr ah s σ H x y v u Q I rx ry ⟨h1,by rw[h2];exact q⟩
  |false=>exact ahq ah s σ H x y v u Q I rx ry ⟨h1,by rw[h2];exact q⟩
 ·split at q
  ·rename_i h
   obtain⟨e1,e2,e3,e4⟩:=h;have d1:=lB hr 6 t1 x r1 e2;have d2:=lB hr 6 t2 y r2 (by rw[<-e1];exact e2)
   rw[<-e1] at d2;rw[<-o.K] at d1 d2;have q:=q w H _ (.refl w) hr gM
   have hn:∀z,(vw 6 S t1).dv ≠ .fl z:=λz hz=>e4 (by rw[<-Tr.Av,hz];unfold DV.yc;rfl)
   cases neg with
   |true=>exact abV o.hu ah s σ H x y v u Q I rx ry ⟨_,by rw[Tr.Av];exact e3,hn,d1,d2,q⟩
   |false=>exact abU o.hu ah s σ H x y v u Q I rx ry ⟨_,by rw[Tr.Av];exact e3,hn,d1,d2,q⟩
  ·exact q.elim
theorem UA:oq G k (compareOp .Eq) (cY false):=Oh (neg:=false)
theorem aiN:oq G k (compareOp .NotEq) (cY true):=Oh (neg:=true)
noncomputable def isN:Tr->Bool|.bz=>true|_=>false
noncomputable def jj (neg:Bool):Tr->Tr->Cs->R Tr:=λt1 t2 S=>match t2 with
 |.bz=>.ok (.bl (if neg then !isN t1 else isN t1)) S
 |_=>.aG
theorem Oi (r:RT w t x):decide (x=V.bz)=isN t:=by
 cases t<;>unfold RT at r<;>(first | (subst r;rfl) | (obtain⟨a,xs,rfl,_⟩:=r;rfl) | (rw[r.2];rfl))
theorem Xm:oq G k (compareOp (if neg then .IsNot else .Is)) (jj neg):=.mk<|λX o ah s σ H x y v u Q I rx ry kF=>by
 obtain⟨w,S,t1,t2,hr,r1,r2,q⟩:=kF;unfold jj at q;split at q
 ·have q:=q w H _ (.refl w) hr gM
  cases neg with
  |true=>exact SX ah s σ H x y v u Q I rx ry ⟨lA r2,by rw[Oi r1];exact q⟩
  |false=>exact abd ah s σ H x y v u Q I rx ry ⟨lA r2,by rw[Oi r1];exact q⟩
 ·exact q.elim
theorem aiO:oq G k (compareOp .Is) (jj false):=Xm (neg:=false)
theorem HX:oq G k (compareOp .IsNot) (jj true):=Xm (neg:=true)
noncomputable def jI:Tr->Option d_|.int i=>some (.inl i)|.str x=>some (.inr x)|_=>none
noncomputable def aR {κ:Type}[DecidableEq κ](k:κ):List (κ × Tr)->Option Tr
 |[]=>none
 | (j,t)::r=>if j=k then some t else aR k r
noncomputable def lY {κ:Type}[DecidableEq κ](l:List (κ × Tr))(k:κ)(t:Tr):List (κ × Tr):=
 if (l.any λkv=>decide (kv.1=k))=true then l.map (λkv=>if kv.1=k then (kv.1,t) else kv) else l++[(k,t)]
noncomputable def b_ (f:Str)(v:Tr):List (Str×Tr)->List (Str×Tr)
 |[]=>[(f,v)]
 | (g,x)::r=>if g=f then (g,v)::r else (g,x)::b_ f v r
noncomputable def fR (aU jT:List (d_×Tr)):List (d_×Tr):=jT.foldl (λbY kv=>lY bY kv.1 kv.2) aU
section
variable {w:Wd}{κ:Type}[DecidableEq κ]
theorem pZ:∀{l:List (κ × Tr)} {m:List (κ × V)} {k:κ},RK w l m->(∀t,aR k l=some t->∃v,mq m k=some v/\RT w t v)/\(aR k l=none->mq m k=none)
 |[],m,k,h=>by rw[h.cD];exact⟨λt e=>(by cases e),λ_=>rfl⟩
 | (j,t)::l,m,k,h=>by
  obtain⟨v,r,rfl,h1,h2⟩:=h.bD;unfold aR;by_cases e:j=k
  ·rw[if_pos e,pM (p:=(j,v)) e]
   exact⟨λu z=>by cases z;exact⟨v,rfl,h1⟩,λz=>by cases z⟩
  ·rw[if_neg e,pN (p:=(j,v)) e]
   exact pZ h2
theorem fL:∀{l:List (Str×Tr)} {m:List (Str×V)} {k:Str},RK w l m->(∀t,aR k l=some t->∃v,m.lookup k=some v/\RT w t v)/\(aR k l=none->m.lookup k=none)
 |[],m,k,h=>by rw[h.cD];exact⟨λt e=>(by cases e),λ_=>rfl⟩
 | (j,t)::l,m,k,h=>by
  obtain⟨v,r,rfl,h1,h2⟩:=h.bD;unfold aR;by_cases e:j=k
  ·subst e
   rw[if_pos rfl,List.lookup_cons_self];exact⟨λu z=>by cases z;exact⟨v,rfl,h1⟩,λz=>by cases z⟩
  ·have hb:(k == j)=false:=beq_eq_false_iff_ne.mpr λz=>e z.symm
   rw[if_neg e,zaP,hb];exact fL h2
theorem RK.EL (h:RK w l m)(k:κ)(r:RT w t v):RK w (lY l k t) (kY m k v):=by
 have an0:(l.any λkv=>decide (kv.1=k))=m.any λkv=>decide (kv.1=k):=by
  have e1:(l.any λkv=>decide (kv.1=k))=(l.map Prod.fst).any λj=>decide (j=k):=by rw[zcE];rfl
  have e2:(m.any λkv=>decide (kv.1=k))=(m.map Prod.fst).any λj=>decide (j=k):=by rw[zcE];rfl
  rw[e1,e2,h.1]
 have an1:∀{l:List (κ × Tr)} {m:List (κ × V)},RK w l m->RK w (l.map λkv=>if kv.1=k then (kv.1,t) else kv) (m.map λkv=>if kv.1=k then (kv.1,v) else kv):=by
  intro l;induction l with
  |nil=>intro m h;rw[h.cD];exact .nil
  |cons p l ih =>
   intro m h;obtain⟨j,u⟩:=p;obtain⟨x,r',rfl,h1,h2⟩:=h.bD;simp only[zas];by_cases e:j=k
   ·rw[if_pos e,if_pos e];exact .cons r (ih h2)
   ·rw[if_neg e,if_neg e];exact .cons h1 (ih h2)
 unfold lY kY;rw[an0];split
 ·exact an1 h
 ·exact⟨by simp[h.1],by simp only[zaO,zas,zbM];exact h.2.snoc r⟩
theorem RK.gH:∀{l:List (Str×Tr)} {m:List (Str×V)},RK w l m->(f:Str)->{t:Tr}->{v:V}->RT w t v->RK w (b_ f t l) (L2.gH f v m)
 |[],m,h,f,t,v,r=>by rw[h.cD];exact .cons r .nil
 | (j,u)::l,m,h,f,t,v,r=>by
  obtain⟨x,r',rfl,h1,h2⟩:=h.bD;unfold b_ L2.gH;split
  ·exact .cons r h2
  ·exact .cons h1 (RK.gH h2 f r)
theorem RK.BK:∀{jT:List (d_×Tr)} {mv:List (d_×V)} {l:List (d_×Tr)} {m:List (d_×V)},RK w jT mv->RK w l m->RK w (fR l jT) (gB m mv)
 |[],mv,l,m,h,g=>by rw[h.cD];exact g
 | (k,t)::jT,mv,l,m,h,g=>by
  obtain⟨x,r',rfl,h1,h2⟩:=h.bD;show RK w (fR (lY l k t) jT) (gB (kY m k x) r')
  exact RK.BK h2 (g.EL k h1)
theorem iI (e:jI t=some k)(r:RT w t v):v=kV k:=by
 cases t with
 |int i=>cases e;exact bA r
 |str i=>cases e;exact cJ r
 |_=>cases e
end
noncomputable def fZ:Tr->Bool|.bz=>true|.bl _=>true|.int _=>true|.str _=>true|_=>false
noncomputable def Sq:Tr->Tr->Bool
 |.bz,.bz=>true
 |.bl a,.bl b=>a == b
 |.bl a,.int b=>(if a then 1 else 0) == b
 |.int a,.bl b=>a == (if b then 1 else 0)
 |.int a,.int b=>a == b
 |.str a,.str b=>a == b
 |_,_=>false
noncomputable def Mz (t:Tr)(l:List Tr):Bool:=l.any λu=>Sq u t
noncomputable def Bm (neg:Bool):Tr->Tr->Cs->R Tr:=λt1 t2 S=>match t2 with
 |.str z=>(match t1 with|.str y=>.ok (.bl (if neg then !(!(Builtin.Str.occurrences z y 0 z.length 1).isEmpty) else !(Builtin.Str.occurrences z y 0 z.length 1).isEmpty)) S|_=>.aG)
 |t2=>match Cf S t2 with
  |some l=>if fZ t1=true/\l.all fZ=true then .ok (.bl (if neg then !Mz t1 l else Mz t1 l)) S else .aG
  |none=>.aG
section
variable {G:Gx}{k:Nat}{w:Wd}
theorem p_ (h:fZ t=true)(r:RT w t v):iU v=true:=by
 cases t<;>first | (cases h;done) | (unfold RT at r;subst r;rfl)
theorem nN:∀{l:List Tr} {xs:List V},l.all fZ=true->bL w l xs->xs.all iU=true
 |[],xs,_,r=>by rw[r.cD];rfl
 |t::l,xs,h,r=>by
  obtain⟨x,r',rfl,h1,h2⟩:=r.bD;have h:=zbi.mp (show (fZ t && l.all fZ)=true from h)
  show (iU x && r'.all iU)=true
  rw[p_ h.1 h1,nN h.2 h2];rfl
theorem Ft (h1:fZ t=true)(h2:fZ u=true)(r1:RT w t x)(r2:RT w u y):Ab x y=Sq t u:=by
 cases t<;>(first | (cases h1;done)|skip)<;>(unfold RT at r1;subst r1)<;>cases u<;>(first | (cases h2;done)|skip)<;>(unfold RT at r2;subst r2;rfl)
theorem Oj (h1:fZ t=true)(r:RT w t x):∀{l:List Tr} {xs:List V},l.all fZ=true->bL w l xs->inV x xs=Mz t l
 |[],xs,_,q=>by rw[q.cD];rfl
 |u::l,xs,h,q=>by
  obtain⟨y,r',rfl,g1,g2⟩:=q.bD;have h:=zbi.mp (show (fZ u && l.all fZ)=true from h)
  show (Ab y x || inV x r')=(Sq u t || Mz t l)
  rw[Ft h.1 h1 g1 r,Oj h1 r h.2 g2]
theorem Xn:oq G k (compareOp (if neg then .NotIn else .In)) (Bm neg):=.mk<|λX o ah s σ H x y v u Q I rx ry cA=>by
 obtain⟨w,S,t1,t2,hr,r1,r2,q⟩:=cA;unfold Bm at q;split at q
 ·split at q
  ·have q:=q w H _ (.refl w) hr gM
   cases neg with
   |true=>exact Ae ah s σ H x y v u Q I rx ry ⟨_,_,cJ r1,cJ r2,q⟩
   |false=>exact J2 ah s σ H x y v u Q I rx ry ⟨_,_,cJ r1,cJ r2,q⟩
  ·exact q.elim
 ·split at q
  ·rename_i l e
   split at q
   ·rename_i h
    obtain⟨a,xs,e1,sq,R⟩:=Ar hr r2 e;have q:=q w H _ (.refl w) hr gM
    rw[<-o.K] at sq;rw[<-Oj h.1 r1 h.2 R] at q;cases neg with
    |true=>exact Ac ah s σ H x y v u Q I rx ry ⟨a,xs,e1,sq,p_ h.1 r1,nN h.2 R,q⟩
    |false=>exact Ka ah s σ H x y v u Q I rx ry ⟨a,xs,e1,sq,p_ h.1 r1,nN h.2 R,q⟩
   ·exact q.elim
  ·exact q.elim
theorem KA:oq G k (compareOp .In) (Bm false):=Xn (neg:=false)
theorem Ci:oq G k (compareOp .NotIn) (Bm true):=Xn (neg:=true)
noncomputable def Cj (neg:Bool):Tr->Tr->Cs->R Tr:=λt1 t2 S=>match Sn S t2,jI t1 with
 |some m,some j=>.ok (.bl (if neg then !(aR j m).isSome else (aR j m).isSome)) S
 |_,_=>.aG
variable {X:Cx}{a b c:Expr}{fa fb fc:Em}{pos Um:Pos}
theorem Ck (r:RK w m aU)(j:d_):(mq aU j).isSome=(aR j m).isSome:=by
 obtain⟨h1,h2⟩:=pZ (k:=j) r
 cases e:aR j m with
 |none=>rw[h2 e];rfl
 |some t=>obtain⟨v,ev,_⟩:=h1 t e;rw[ev];rfl
theorem Ol (h:fK G (ai (Cj neg) fa fb) σ H Q):(if neg then HC (fK G fa) (fK G fb) else ahL (fK G fa) (fK G fb)) σ H Q:=by
 have h:=qT h;have go:∀{σ H Q},tOp (r2 G (Cj neg)) (fK G fa) (fK G fb) σ H Q->fK G fa σ H λy H1=>fK G fb σ H1 λx H2=>∃a o,x=V.ref a/\oZ H2 a y o/\Q (.bl (if neg then !o.isSome else o.isSome)) H2:=λ{σ H Q} h=>by
  obtain⟨w,S,τ,hr,sl,q⟩:=h;refine⟨w,S,τ,hr,sl,q.mono λy H1 ⟨w1,S1,eN,bK,E8,q1⟩=>⟨w1,S1,eN,bK,E8,q1.mono λx H2 fj=>?_⟩⟩
  obtain⟨w2,S2,t1,t2,dP,r1,r2,q2⟩:=fj;unfold Cj at q2;split at q2
  ·rename_i m j em ej
   obtain⟨n,aU,_,_,ev,hH,R⟩:=As dP r2 em;refine⟨w2.ρ n,mq aU j,ev,?_,?_⟩
   ·rw[iI ej r1]
    exact oZ.k hH
   ·rw[Ck R]
    exact q2 w2 H2 _ (.refl _) dP gM
  ·exact q2.elim
 cases neg with
 |true=>exact go h
 |false=>exact go h
theorem UB (ha:TV G k X a fa)(hb:TV G k X b fb)(hm:autoParam (behindInMarks .NotIn b=false) zp_5):TV G k X (.Compare a [.NotIn] [b] pos) (ai (Cj true) fa fb):=.mk<|λo=>(aaM (J_ o.hu1 (ha o) (hb o)) hm).wk λ_ _ _ h=>Ol (neg:=true) h
theorem acq (ha:TV G k X a fa)(hb:TV G k X b fb)(hm:autoParam (behindInMarks .In b=false) zp_5):Ca G k X (.Compare a [.In] [b] pos) (mB (ai (Cj false) fa fb)):=.mk<|λo=>(aaN (abl o.hu1 (ha o) (hb o)) hm).wk λ_ _ _ h=>Ol (neg:=false) (sW h)
noncomputable def bM:Tr->Tr->Cs->R Tr:=λt1 t2 S=>match t1,t2 with
 |.str z,.int i=>if z.length<=sizeLine then (match iX z.cps.toList i with|some c=>.ok (.str ⟨#[c]⟩) S|none=>.aG) else .aG
 |t1,.int i=>(match Cf S t1 with
  |some l=>(match iX l i with|some t=>.ok t S|none=>.aG)
  |none=>.aG)
 |_,_=>.aG
theorem aiP (ha:TV G k X a fa)(hb:TV G k X b fb)(hs:autoParam (HG b) zp_8):TV G k X (.Subscript a b pos) (ai bM fa fb):=.mk<|λo=>(ahS abv (ha o) (hb o) hs).wk λσ H Q h=>by
 obtain⟨w,S,τ,hr,sl,q⟩:=qT h;refine⟨w,S,τ,hr,sl,q.mono λx H1 ⟨w1,S1,eN,bK,E8,q1⟩=>⟨w1,S1,eN,bK,E8,q1.mono λy H2 jf=>?_⟩⟩
 obtain⟨w2,S2,t1,t2,dP,r1,r2,q2⟩:=jf;unfold bM at q2;split at q2
 ·split at q2
  ·split at q2
   ·rename_i c e
    exact .inr (.inr ⟨_,_,c,cJ r1,bA r2,(by assumption),e,q2 w2 H2 _ (.refl _) dP lq⟩)
   ·exact q2.elim
  ·exact q2.elim
 ·split at q2
  ·rename_i l e
   split at q2
   ·rename_i t et
    obtain⟨p,xs,e1,sq,R⟩:=Ar dP r1 e;obtain⟨v,ev,rv⟩:=R.iX et;have q:=q2 w2 H2 v (.refl _) dP rv
    rw[<-o.K] at sq;rcases sq with sq|sq
    ·exact .inl ⟨p,xs,_,v,e1,bA r2,sq,ev,q⟩
    ·exact .inr (.inl ⟨p,xs,_,v,e1,bA r2,sq,ev,q⟩)
   ·exact q2.elim
  ·exact q2.elim
 ·exact q2.elim
noncomputable def iV (f:Em):En->Cs->R (Option Int):=λτ S=>(f τ S).aF λt S1=>match t with|.int i=>.ok (some i) S1|_=>.aG
noncomputable def gq:En->Cs->R (Option Int):=λ_ S=>.ok none S
noncomputable def UC (G:Gx)(f:En->Cs->R (Option Int)):TO:=λσ H Q=>∃w S τ,HR G w S H/\Sl w τ σ /\ bh (λ_ a b=>a=b) G w (f τ S) Q
structure TVO (G:Gx) (k:Nat) (X:Cx) (e:Option Expr) (f:En->Cs->R (Option Int)):Prop where
 jE:jH G k X->PO X e (UC G f)
noncomputable instance {G:Gx}{k:Nat}{X:Cx}{e:Option Expr}{f:En->Cs->R (Option Int)}:CoeFun (TVO G k X e f) (λ_=>jH G k X->PO X e (UC G f)):=⟨TVO.jE⟩
theorem UD:TVO G k X none gq:=.mk<|λo ah s σ H Q I kF=>by obtain⟨w,S,τ,hr,sl,q⟩:=kF;exact Tz ah s σ H Q I (q w H _ (.refl w) hr rfl)
theorem UE (ha:TV G k X a fa):TVO G k X (some a) (iV fa):=.mk<|λo ah s σ H Q I ⟨w,S,τ,hr,sl,q⟩=>TH (ha o) ah s σ H Q I ⟨w,S,τ,hr,sl,(bh.aF q).mono λx H1 pW=>by
 obtain⟨w1,S1,t1,c8,bK,r1,_,q1⟩:=pW;split at q1
 ·exact⟨_,bA r1,q1 w1 H1 _ (.refl _) bK rfl⟩
 ·exact q1.elim⟩
noncomputable def qa (l:List Tr)(lo hi:Option Int):List Tr:=(l.drop (HT.gK l.length 0 lo)).take (HT.gK l.length l.length hi - HT.gK l.length 0 lo)
theorem bL.cut (h:bL w l xs)(lo hi:Option Int):bL w (qa l lo hi) (BN xs lo hi):=by
 unfold qa BN;rw[h.len];exact (h.drop _).take _
noncomputable def qX (t:Tr)(lo hi:Option Int)(S:Cs):R Tr:=match t with
 |.str z=>if z.length<=sizeLine then .ok (.str (Txt.slice z lo hi)) S else .aG
 |t=>match Fl S t with
  |some l=>.ok (.ls (qa l lo hi)) S
  |none=>match Xl t with
   |some l=>if ¬ (HT.gK l.length 0 lo=0/\HT.gK l.length l.length hi=l.length) then .ok (.tp (qa l lo hi)) S else .aG
   |none=>.aG
noncomputable def Fv (g:Tr->Option Int->Option Int->Cs->R Tr)(fa:Em)(fl fh:En->Cs->R (Option Int)):Em:=λτ S=>(fa τ S).aF λt S1=>(fl τ S1).aF λlo S2=>(fh τ S2).aF λhi S3=>g t lo hi S3
variable {lo hi:Option Expr}{fl fh:En->Cs->R (Option Int)}
theorem Om (h:fK G (Fv g fa fl fh) σ H Q):tSl (λx l u H3 Q=>∃w S t,HR G w S H3/\RT w t x/\bh RT G w (g t l u S) Q) (fK G fa) (UC G fl) (UC G fh) σ H Q:=by
 obtain⟨w,S,τ,hr,sl,q⟩:=h;refine⟨w,S,τ,hr,sl,(bh.aF q).mono λx H1 lz=>?_⟩
 obtain⟨w1,S1,t1,c8,bK,r1,_,q1⟩:=lz;refine⟨w1,S1,τ,bK,sl.mono c8,(bh.aF q1).mono λl H2 o7=>?_⟩
 obtain⟨w2,S2,t2,fG,dP,r2,_,q2⟩:=o7;refine⟨w2,S2,τ,dP,(sl.mono c8).mono fG,(bh.aF q2).mono λu H3 ji=>?_⟩
 obtain⟨w3,S3,t3,mz,pV,r3,_,q3⟩:=ji;subst r2 r3;exact⟨w3,S3,t1,pV,RT.mono (fG.trans mz) _ _ r1,q3⟩
theorem aiQ (ha:TV G k X a fa)(hl:TVO G k X lo fl)(hh:TVO G k X hi fh):TV G k X (.Subscript a (.Slice lo hi none p2) pos) (Fv qX fa fl fh):=.mk<|λo =>
 (Ng (r:=λx l u H Q=>∃w S t,HR G w S H/\RT w t x/\bh RT G w (qX t l u S) Q) (λah s σ H x v vl vu lo hi sl Q I rx hs pl pu o8=>by
  obtain⟨w,S,t,hr,r,q⟩:=o8;unfold qX at q;split at q
  ·split at q
   ·exact abE ah s σ H x v vl vu lo hi sl Q I rx hs pl pu ⟨_,cJ r,by assumption,q w H _ (.refl w) hr lq⟩
   ·exact q.elim
  ·split at q
   ·rename_i l e
    obtain⟨a,xs,e1,sq,R⟩:=mX hr r e;rw[<-o.K] at sq;exact TQ ah s σ H x v vl vu lo hi sl Q I rx hs pl pu ⟨a,xs,e1,sq,hr.jY (R.cut lo hi) rfl q⟩
   ·split at q
    ·rename_i l e
     split at q
     ·rename_i hn
      obtain⟨a,xs,e1,sq,R⟩:=mY hr r e;rw[<-o.K] at sq;exact abr ah s σ H x v vl vu lo hi sl Q I rx hs pl pu ⟨a,xs,e1,sq,by rw[R.len];exact hn,hr.ack (R.cut lo hi) rfl q⟩
     ·exact q.elim
    ·exact q.elim) (ha o) (hl o) (hh o)).wk λ_ _ _ h=>Om h
end
section
variable {G:Gx}{k:Nat}{X:Cx}{a b c o e:Expr}{es:List Expr}{fa fb fc fo f:Em}{fr:En->Cs->R (List Tr)}{pos p fE iE:Pos}{x:Str}{id T:String}
noncomputable def rN (G:Gx)(g:List Tr->Cs->R Tr):List V->Hp->VK->Prop:=λxs H Q=>∃w S ts,HR G w S H/\bL w ts xs/\bh RT G w (g ts S) Q
noncomputable def cC (g:List Tr->Cs->R Tr)(fr:En->Cs->R (List Tr)):Em:=λτ S=>(fr τ S).aF λts S1=>g ts S1
structure oR (G:Gx) (k:Nat) (f:Value) (g:List Tr->Cs->R Tr):Prop where
 jE:∀X:Cx,jH G k X->jD X f (rN G g)
noncomputable instance {G:Gx}{k:Nat}{f:Value}{g:List Tr->Cs->R Tr}:CoeFun (oR G k f g) (λ_=>∀X:Cx,jH G k X->jD X f (rN G g)):=⟨oR.jE⟩
theorem HY (h:fK G (cC g fr) σ H Q):tCB (rN G g) (Fe G fr) σ H Q:=by
 obtain⟨w,S,τ,hr,sl,q⟩:=h;exact⟨w,S,τ,hr,sl,(bh.aF q).mono λxs H1 cA=>by obtain⟨w1,S1,ts,c8,bK,r1,_,q1⟩:=cA;exact⟨w1,S1,ts,bK,r1,q1⟩⟩
theorem cT (hc:oR G k (.builtin id) g)(hm:X.mg x=none)(hv:bootBuiltins x=some (.builtin id))(ha:xm G k X (e::es) fr)(hg:autoParam (Gl X x) zp_0)(hn:autoParam (x ≠ "__name__") zp_1)(tZ:autoParam ((x == ("__debug__" : Str))=false) zp_1)
  (he:autoParam (c_ e=false) zp_0) (hpl:autoParam (cX es=true) zp_0):TV G k X (.Call (.Name x p) (e::es) [] pos) (cC g fr):=.mk<|λo =>
 (pL (hc X o) hg hm hv (ha o) hn tZ (cE he) (dS hpl)).wk λ_ _ _ h=>HY h
theorem jb (hc:oR G k (.type T) g)(hm:X.mg x=none)(hv:bootBuiltins x=some (.type T))(ha:xm G k X (e::es) fr)(hg:autoParam (Gl X x) zp_0)(hn:autoParam (x ≠ "__name__") zp_1)(tZ:autoParam ((x == ("__debug__" : Str))=false) zp_1)
  (he:autoParam (c_ e=false) zp_0) (hpl:autoParam (cX es=true) zp_0):TV G k X (.Call (.Name x p) (e::es) [] pos) (cC g fr):=.mk<|λo =>
 (J6 (hc X o) hg hm hv (ha o) hn tZ (cE he) (dS hpl)).wk λ_ _ _ h=>HY h
theorem gr (r:bL w [t] xs):∃x,xs=[x]/\RT w t x:=by
 obtain⟨x,r',rfl,h1,h2⟩:=r.bD;exact⟨x,by rw[h2.cD],h1⟩
theorem HZ (r:bL w [t,u] xs):∃x y,xs=[x,y]/\RT w t x/\RT w u y:=by
 obtain⟨x,r',rfl,h1,h2⟩:=r.bD;obtain⟨y,rfl,h3⟩:=gr h2;exact⟨x,y,rfl,h1,h3⟩
noncomputable def gW:List Tr->Cs->R Tr:=λts S=>match ts with
 |[.str z]=>if z.length<=sizeLine then .ok (.int z.length) S else .aG
 |[t]=>(match Cf S t with|some l=>.ok (.int l.length) S|none=>match Sn S t with|some m=>.ok (.int m.length) S|none=>.aG)
 |_=>.aG
theorem kI:oR G k (.builtin "len") gW:=.mk<|λX o ah s σ H xs us Q I rv dR=>by
 obtain⟨w,S,ts,hr,r,q⟩:=dR;unfold gW at q;split at q
 ·split at q
  ·obtain⟨x,rfl,r1⟩:=gr r
   exact Ag ah s σ H _ us Q I rv ⟨_,by rw[cJ r1],by assumption,q w H _ (.refl w) hr d7⟩
  ·exact q.elim
 ·obtain⟨x,rfl,r1⟩:=gr r
  split at q
  ·rename_i l e
   obtain⟨a,xs,e1,sq,R⟩:=Ar hr r1 e;rw[<-o.K] at sq;have q:=q w H (.int xs.length) (.refl w) hr (by rw[R.len];exact d7)
   exact Af ah s σ H _ us Q I rv ⟨a,xs,by rw[e1],sq,q⟩
  ·split at q
   ·rename_i m e
    obtain⟨n,aU,_,_,ev,hH,R⟩:=As hr r1 e;have q:=q w H (.int aU.length) (.refl w) hr (by rw[R.len];exact d7)
    exact Kh ah s σ H _ us Q I rv ⟨w.ρ n,aU,by rw[ev],hH,q⟩
   ·exact q.elim
 ·exact q.elim
noncomputable def rT:List Tr->Cs->R Tr:=λts S=>match ts with
 |[t]=>(match Cf S t with|some l=>.ok (.ls l) S|none=>.aG)
 |_=>.aG
theorem uB:oR G k (.type "list") rT:=.mk<|λX o ah s σ H xs us Q I rv fj=>by
 obtain⟨w,S,ts,hr,r,q⟩:=fj;unfold rT at q;split at q
 ·obtain⟨x,rfl,r1⟩:=gr r
  split at q
  ·rename_i l e
   obtain⟨a,xs,e1,sq,R⟩:=Ar hr r1 e;rw[<-o.K] at sq;exact Ah ah s σ H _ us Q I rv ⟨a,xs,by rw[e1],sq,hr.jY R rfl q⟩
  ·exact q.elim
 ·exact q.elim
noncomputable def aqE:List Tr->Cs->R Tr:=λts S=>match ts with
 |[.int i,.int j]=>.ok (.int (if j > i then j else i)) S
 |_=>.aG
noncomputable def yh:List Tr->Cs->R Tr:=λts S=>match ts with
 |[.int i,.int j]=>.ok (.int (if j<i then j else i)) S
 |_=>.aG
theorem acr (hk:autoParam (0<k) zp_2):oR G k (.builtin "min") yh:=.mk<|λX o ah s σ H xs us Q I rv pW=>by
 obtain⟨w,S,ts,hr,r,q⟩:=pW;unfold yh at q;split at q
 ·obtain⟨x,y,rfl,r1,r2⟩:=HZ r
  exact J3 (o.e_ hk) ah s σ H _ us Q I rv ⟨_,_,by rw[bA r1,bA r2],q w H _ (.refl w) hr d7⟩
 ·exact q.elim
noncomputable def mZ:List Tr->Option (List Int)|[]=>some []|.int i::l=>(mZ l).map (i::·)|_=>none
noncomputable def rV:List Tr->Option (List Bool)|[]=>some []|.bl i::l=>(rV l).map (i::·)|_=>none
theorem Cm:∀{l:List Tr} {xs:List V} {ns:List Int},mZ l=some ns->bL w l xs->xs=ns.map V.int
 |[],xs,ns,h,r=>by cases h;exact r.cD
 |t::l,xs,ns,h,r=>by
  obtain⟨x,r',rfl,h1,h2⟩:=r.bD;cases t with
  |int i =>
   cases e:mZ l with
   |none=>unfold mZ at h;rw[e] at h;cases h
   |some ms=>unfold mZ at h;rw[e] at h;cases h;rw[Cm e h2,bA h1];rfl
  |_=>cases h
theorem Cn:∀{l:List Tr} {xs:List V} {ns:List Bool},rV l=some ns->bL w l xs->xs=ns.map V.bl
 |[],xs,ns,h,r=>by cases h;exact r.cD
 |t::l,xs,ns,h,r=>by
  obtain⟨x,r',rfl,h1,h2⟩:=r.bD;cases t with
  |bl i =>
   cases e:rV l with
   |none=>unfold rV at h;rw[e] at h;cases h
   |some ms=>unfold rV at h;rw[e] at h;cases h;rw[Cn e h2,qV h1];rfl
  |_=>cases h
noncomputable def Fw:List Tr->Cs->R Tr:=λts S=>match ts with
 |[t]=>(match Fl S t with|some l=>(match mZ l with|some ns=>.ok (.int ns.sum) S|none=>.aG)|none=>.aG)
 |_=>.aG
theorem Xo (hk:autoParam (0<k) zp_2):oR G k (.builtin "sum") Fw:=.mk<|λX o ah s σ H xs us Q I rv lz=>by
 obtain⟨w,S,ts,hr,r,q⟩:=lz;unfold Fw at q;split at q
 ·obtain⟨x,rfl,r1⟩:=gr r
  split at q
  ·rename_i l e
   split at q
   ·rename_i ns en
    obtain⟨a,xs,e1,sq,R⟩:=mX hr r1 e;rw[<-o.K,Cm en R] at sq;exact NY (o.e_ hk) ah s σ H _ us Q I rv ⟨a,ns,by rw[e1],sq,q w H _ (.refl w) hr d7⟩
   ·exact q.elim
  ·exact q.elim
 ·exact q.elim
noncomputable def UG:List Tr->Cs->R Tr:=λts S=>match ts with
 |[t]=>(match Cd S t with|some l=>(match rV l with|some ns=>.ok (.bl (ns.any _root_.id)) S|none=>.aG)|none=>.aG)
 |_=>.aG
theorem aiR (hk:autoParam (0<k) zp_2):oR G k (.builtin "any") UG:=.mk<|λX o ah s σ H xs us Q I rv ji=>by
 obtain⟨w,S,ts,hr,r,q⟩:=ji;unfold UG at q;split at q
 ·obtain⟨x,rfl,r1⟩:=gr r
  split at q
  ·rename_i l e
   split at q
   ·rename_i ns en
    obtain⟨a,xs,e1,sq,R⟩:=mW hr r1 e;rw[Cn en R] at sq;exact N1 (o.e_ hk) ah s σ H _ us Q I rv ⟨a,ns,by rw[e1],sq,q w H _ (.refl w) hr gM⟩
   ·exact q.elim
  ·exact q.elim
 ·exact q.elim
noncomputable def rM (G:Gx)(g:Tr->List Tr->Cs->R Tr):V->List V->Hp->VK->Prop:=λx xs H Q=>∃w S t ts,HR G w S H/\RT w t x/\bL w ts xs/\bh RT G w (g t ts S) Q
noncomputable def sJ (ck:Cs->Tr->Bool)(g:Tr->List Tr->Cs->R Tr)(fo:Em)(fr:En->Cs->R (List Tr)):Em:=λτ S=>(fo τ S).aF λt S1=>if ck S1 t=true then (fr τ S1).aF λts S2=>g t ts S2 else .aG
structure KC (G:Gx) (k:Nat) (id:String) (g:Tr->List Tr->Cs->R Tr):Prop where
 jE:∀X:Cx,jH G k X->MtR X id (rM G g)
noncomputable instance {G:Gx}{k:Nat}{id:String}{g:Tr->List Tr->Cs->R Tr}:CoeFun (KC G k id g) (λ_=>∀X:Cx,jH G k X->MtR X id (rM G g)):=⟨KC.jE⟩
noncomputable def KD (S:Cs)(t:Tr):Bool:=(Fl S t).isSome
noncomputable def ckD (S:Cs)(t:Tr):Bool:=(Sn S t).isSome
noncomputable def aiT (ck:Cs->Tr->Bool)(T:String):Prop:=∀(G:Gx) (w:Wd) (S:Cs) (H:Hp) (t:Tr) (v:V),HR G w S H->RT w t v->ck S t=true->tyV G.K T v H
theorem lC:aiT KD "list" := λG w S H t v hr r e=>by
 unfold KD at e;obtain⟨l,el⟩:=zbT.mp e;obtain⟨a,xs,rfl,sq,_⟩:=mX hr r el;exact .inl ⟨rfl,xs,sq⟩
theorem acs (hs:c_ e=false)(Mv:cX es=true)(dB:decide (es.length<29)=true):((backTo iE (starEach (e::es) env)).all (λx=>!x.1) && (backToKw iE (keywordEach [] env)).all (λx=>x.1.isSome)
   && decide ((e::es).length+([]:List Keyword).length+(if ([]:List Keyword).isEmpty then 0 else 1)<30))=true:=by
 have h1:cX (e::es)=true:=by show (!c_ e && cX es)=true;rw[hs,Mv];rfl
 rw[Cb h1];have h2:es.length<29:=of_decide_eq_true dB
 show (true && true && decide (es.length+1+0+0<30))=true
 rw[decide_eq_true (by omega)];rfl
theorem lD (pa:PlainAttrs T)(slot:Slot T name id)(hty:typeOf (.builtin id)=pure (.type "method_descriptor"))(hck:aiT ck T)(hm:KC G k id g)(ho:TV G k X o fo)(ha:xm G k X (e::es) fr)
  (Nj:autoParam (attributeBase o name X.env (eval o X.env)=eval o X.env) zp_0)
  (hs:autoParam (c_ e=false) zp_0) (Mv:autoParam (cX es=true) zp_0) (dB:autoParam (decide (es.length<29)=true) zp_0) (Nk:autoParam ((fE.endLine == iE.line)=true) zp_0):
  TV G k X (.Call (.Attribute o name fE) (e::es) [] iE) (sJ ck g fo fr):=.mk<|λox =>
 (ahX pa slot hty (hm X ox) (ho ox) (ha ox) Nj (acs hs Mv dB) Nk (cE hs) (dS Mv)).wk λσ H Q h=>by
  obtain⟨w,S,τ,hr,sl,q⟩:=h;refine⟨w,S,τ,hr,sl,(bh.aF q).mono λx H1 ux=>?_⟩
  obtain⟨w1,S1,t1,c8,bK,r1,_,q1⟩:=ux;split at q1
  ·rename_i hk
   rw[ox.K];exact⟨hck G w1 S1 H1 t1 x bK r1 hk,w1,S1,τ,bK,sl.mono c8,(bh.aF q1).mono λxs H2 uy=>by obtain⟨w2,S2,ts,fG,dP,r2,_,q2⟩:=uy;exact⟨w2,S2,t1,ts,dP,RT.mono fG _ _ r1,r2,q2⟩⟩
  ·exact q1.elim
noncomputable def xC:Tr->List Tr->Cs->R Tr:=λt ts S=>match t,ts with
 |.hd n,[u]=>(match cM S n with|some l=>if l.length<sizeLine then .ok .bz (S.set n (.bS (l++[u]))) else .aG|none=>.aG)
 |_,_=>.aG
noncomputable def UH:Tr->List Tr->Cs->R Tr:=λt ts S=>match t,ts with
 |.hd n,[u]=>(match cM S n,Cd S u with|some l,some m=>if l.length+m.length<=sizeLine then .ok .bz (S.set n (.bS (l++m))) else .aG|_,_=>.aG)
 |_,_=>.aG
theorem putL (hr:HR G w S H)(e:cM S n=some l)(r:bL w l' ys):HR G w (S.set n (.bS l')) (bG H (w.ρ n) (.bS ys)):=
 hr.EL (dD e) rfl rfl ⟨ys,av,r⟩
theorem jk:KC G k "list.append" xC:=.mk<|λX o ah s σ H x xs v us Q I rx rv uz=>by
 obtain⟨w,S,t,ts,hr,r,rs,q⟩:=uz;unfold xC at q;split at q
 ·split at q
  ·rename_i l e
   split at q
   ·obtain⟨y,rfl,r1⟩:=gr rs
    obtain⟨ys,h1,h2⟩:=hr.cell _ _ (dD e)
    exact xV ah s σ H x _ v us Q I rx rv ⟨_,ys,y,r.cS.2,rfl,h1,by rw[h2.len];assumption,q w _ _ (.refl w) (putL hr e (h2.snoc r1)) ur⟩
   ·exact q.elim
  ·exact q.elim
 ·exact q.elim
theorem Oo:KC G k "list.extend" UH:=.mk<|λX o ah s σ H x xs v us Q I rx rv Fj=>by
 obtain⟨w,S,t,ts,hr,r,rs,q⟩:=Fj;unfold UH at q;split at q
 ·split at q
  ·rename_i l m e em
   split at q
   ·obtain⟨y,rfl,r1⟩:=gr rs
    obtain⟨ys,h1,h2⟩:=hr.cell _ _ (dD e)
    obtain⟨b,zs,rfl,hb,R⟩:=mW hr r1 em;exact Kd ah s σ H x _ v us Q I rx rv ⟨_,b,ys,zs,r.cS.2,rfl,h1,hb,by rw[h2.len,R.len];assumption,q w _ _ (.refl w) (putL hr e (h2.sV R)) ur⟩
   ·exact q.elim
  ·exact q.elim
 ·exact q.elim
noncomputable def Ax (t:Tr):List Tr->Option Nat
 |[]=>none
 |u::l=>if Sq u t=true then some 0 else (Ax t l).map (· + 1)
theorem H_ {x:V}(ft:fZ t=true)(r:RT w t x):∀{l:List Tr} {xs:List V} {j:Nat},l.all fZ=true->bL w l xs->Ax t l=some j->∃z,xs[j]? = some z/\Ab z x=true/\∀m z',m<j->xs[m]? = some z'->Ab z' x=false
 |[],xs,j,_,_,e=>by cases e
 |u::l,xs,j,h,q,e=>by
  obtain⟨y,r',rfl,g1,g2⟩:=q.bD;have h:=zbi.mp (show (fZ u && l.all fZ)=true from h)
  unfold Ax at e;split at e
  ·rename_i he
   cases e;exact⟨y,rfl,by rw[Ft h.1 ft g1 r];exact he,λm z' hm=>by omega⟩
  ·rename_i he
   cases ei:Ax t l with
   |none=>rw[ei] at e;cases e
   |some i =>
    rw[ei] at e;cases e;obtain⟨z,k1,k2,k3⟩:=H_ ft r h.2 g2 ei;refine⟨z,by simpa using k1,k2,λm z' hm hz=>?_⟩
    cases m with
    |zero =>
     simp at hz
     subst hz;rw[Ft h.1 ft g1 r];exact Bool.eq_false_iff.mpr he
    |succ m=>exact k3 m z' (by have hm:m+1<i+1:=hm;omega) (by simpa using hz)
noncomputable def qY:Tr->List Tr->Cs->R Tr:=λt ts S=>match ts with
 |[u]=>(match Cd S t with|some l=>if fZ u=true/\l.all fZ=true then (match Ax u l with|some j=>.ok (.int (j:Int)) S|none=>.aG) else .aG|none=>.aG)
 |_=>.aG
theorem UI:KC G k "list.index" qY:=.mk<|λX o ah s σ H x xs v us Q I rx rv acu=>by
 obtain⟨w,S,t,ts,hr,r,rs,q⟩:=acu;unfold qY at q;split at q
 ·split at q
  ·rename_i l e
   split at q
   ·rename_i h
    split at q
    ·rename_i j ej
     obtain⟨y,rfl,r1⟩:=gr rs;obtain⟨a,ys,rfl,ha,R⟩:=mW hr r e;obtain⟨z,k1,k2,k3⟩:=H_ h.1 r1 h.2 R ej;exact NL ah s σ H _ _ v us Q I rx rv ⟨a,ys,y,z,j,rfl,rfl,ha,p_ h.1 r1,nN h.2 R,k1,k2,k3,q w H _ (.refl w) hr d7⟩
    ·exact q.elim
   ·exact q.elim
  ·exact q.elim
 ·exact q.elim
theorem bL.ints:∀(l:List Int),bL w (l.map Tr.int) (l.map V.int)
 |[]=>.nil
 |x::l=>.cons d7 (bL.ints l)
end
section
variable {G:Gx}{k:Nat}{X:Cx}{a b c o e value:Expr}{es:List Expr}{fa fb fc fo fi fv f:Em}{fr:En->Cs->R (List Tr)}{pos kh p fE iE:Pos}{x:Str}
noncomputable def cg (i:Nat):Tr->En->Cs->R En:=λt τ S=>.ok (τ.set i (some t)) S
theorem UJ (hN:X.N.Nodup)(hi:X.N[i]? = some x)(hx:W3 X.env.scope x)(hf:autoParam (X.fn x=true\/X.env.scope.names.lookup x=some .local) zp_4):Oa G k X (.Name x pos) (cg i):=.mk<|λ_=>(SM hN hi hx hf).wk λv σ H Q h=>by
 obtain⟨w,S,τ,t,hr,sl,r,q⟩:=h;exact q w H _ (.refl w) hr (sl.set i r)
noncomputable abbrev Bs:=List Tr->En->Cs->R En
noncomputable def sL:Bs:=λts τ S=>match ts with|[]=>.ok τ S|_=>.aG
noncomputable def gc (b:Tr->En->Cs->R En)(r:Bs):Bs:=λts τ S=>match ts with|t::l=>(b t τ S).aF λeN S1=>r l eN S1|[]=>.aG
noncomputable def Xp (G:Gx)(f:Bs):TGs:=λvs σ H Q=>∃w S τ ts,HR G w S H/\Sl w τ σ /\ bL w ts vs/\bh Sl G w (f ts τ S) Q
structure KG (G:Gx) (k:Nat) (X:Cx) (ts:List Expr) (f:Bs):Prop where
 jE:jH G k X->SK X ts (Xp G f)
noncomputable instance {G:Gx}{k:Nat}{X:Cx}{ts:List Expr}{f:Bs}:CoeFun (KG G k X ts f) (λ_=>jH G k X->SK X ts (Xp G f)):=⟨KG.jE⟩
theorem SK.wk (h:SK X ts t)(g:∀vs σ H Q,t' vs σ H Q->t vs σ H Q):SK X ts t':=λah s σ H vs us Q I r q=>h ah s σ H vs us Q I r (g _ _ _ _ q)
theorem UK:KG G k X [] sL:=.mk<|λ_=>SN.wk λvs σ H Q h=>by
 obtain⟨w,S,τ,ts,hr,sl,r,q⟩:=h;unfold sL at q;split at q
 ·exact⟨r.cD,q w H _ (.refl w) hr sl⟩
 ·exact q.elim
theorem Oq {b:Tr->En->Cs->R En}(h1:Oa G k X e b)(h2:KG G k X es r)(hs:autoParam ((assignEach (e::es) X.env).map (·.2)=assign e X.env::(assignEach es X.env).map (·.2)) zp_0):KG G k X (e::es) (gc b r):=.mk<|λo=>(MM (h1 o) (h2 o) hs).wk λvs σ H Q h=>by
 obtain⟨w,S,τ,ts,hr,sl,r,q⟩:=h;unfold gc at q;split at q
 ·obtain⟨v,vr,rfl,r1,r2⟩:=r.bD
  exact⟨v,vr,rfl,w,S,τ,_,hr,sl,r1,(bh.aF q).mono λσ1 H1 cA=>by obtain⟨w1,S1,eN,c8,bK,E8,_,q1⟩:=cA;exact⟨w1,S1,eN,_,bK,E8,bL.mono c8 _ _ r2,q1⟩⟩
 ·exact q.elim
noncomputable def lZ (n:Nat)(r:Bs):Tr->En->Cs->R En:=λt τ S=>match Xl t with|some l=>if l.length=n then r l τ S else .aG|none=>.aG
theorem m5 (h:KG G k X es r)(hn:autoParam ((assignEach es X.env).length=n) zp_0)(oK:autoParam ((assignEach es X.env).findIdx? (·.1)=none) zp_0)(hk:autoParam (0<k) zp_2):Oa G k X (.Tuple es kk pos) (lZ n r):=.mk<|λo=>(aaX (o.e_ hk) (h o) hn oK).wk λv σ H Q h=>by
 obtain⟨w,S,τ,t,hr,sl,r,q⟩:=h;unfold lZ at q;split at q
 ·rename_i l el
  split at q
  ·obtain⟨a,xs,e1,sq,R⟩:=mY hr r el
   rw[<-o.K] at sq;exact⟨a,xs,e1,sq,by rw[R.len];assumption,w,S,τ,l,hr,sl,R,q⟩
  ·exact q.elim
 ·exact q.elim
noncomputable def acv (fo fi:Em):Tr->En->Cs->R En:=λt τ S=>(fo τ S).aF λu S1=>(fi τ S1).aF λj S2=>match u,j with
 |.hd n,.int i=>(match cM S2 n with|some l=>(match Bk l.length i with|some m=>.ok τ (S2.set n (.bS (l.set m t)))|none=>.aG)|none=>.aG)
 |_,_=>.aG
theorem acw (ho:TV G k X o fo)(hi:TV G k X i fi)(ha:autoParam (∀v,assign (.Subscript o i pos) X.env v=(do
   let ov <-holding [v] (eval o X.env)
   let iv <-holding [v,ov] (eval i X.env)
   standAt pos
   holding [v,ov,iv] (setItem ov iv v)
   release [v,ov,iv] [])) zp_3):Oa G k X (.Subscript o i pos) (acv fo fi):=.mk<|λox=>(aaY (ho ox) (hi ox) ail ha).wk λv σ H Q h=>by
 obtain⟨w,S,τ,t,hr,sl,r,q⟩:=h;refine⟨w,S,τ,hr,sl,(bh.aF q).mono λx H1 dR=>?_⟩
 obtain⟨w1,S1,t1,c8,bK,r1,_,q1⟩:=dR;refine⟨w1,S1,τ,bK,sl.mono c8,(bh.aF q1).mono λy H2 fj=>?_⟩
 obtain⟨w2,S2,t2,fG,dP,r2,_,q2⟩:=fj;split at q2
 ·split at q2
  ·rename_i l el
   split at q2
   ·rename_i m em
    have r1':=(RT.mono fG _ _ r1).cS
    obtain⟨ys,h1,h2⟩:=dP.cell _ _ (dD el)
    refine⟨_,_,r1'.2,bA r2,?_⟩
    rw[h1];show match Bk ys.length _ with|some j=>_|none=>False
    rw[h2.len,em];exact q2 w2 _ _ (.refl _) (putL dP el (h2.set (RT.mono (c8.trans fG) _ _ r) m)) ((sl.mono c8).mono fG)
   ·exact q2.elim
  ·exact q2.elim
 ·exact q2.elim
noncomputable def aI:Sm:=λτ S=>.nx τ S
noncomputable def ao (f g:Sm):Sm:=λτ S=>match f τ S with|.nx eN S1=>g eN S1|r=>r
noncomputable def dG (f:Em):Sm:=λτ S=>(f τ S).bR λ_ S1=>.nx τ S1
noncomputable def aJ (f:Em):Sm:=λτ S=>(f τ S).bR λt S1=>.rt t S1
noncomputable def cW (c:En->Cs->R Bool)(f g:Sm):Sm:=λτ S=>(c τ S).bR λb S1=>if b=true then f τ S1 else g τ S1
noncomputable def bf (i:Nat)(f:Em):Sm:=λτ S=>(f τ S).bR λt S1=>.nx (τ.set i (some t)) S1
noncomputable def acy (f:Em)(b:Tr->En->Cs->R En):Sm:=λτ S=>(f τ S).bR λt S1=>(b t τ S1).bR λeN S2=>.nx eN S2
variable {st:Stmt}{dz:List Stmt}{s1 s2:Sm}
theorem acz:HW G k X [] aI:=.mk<|λ_=>SJ.wk λD σ H h=>by
 obtain⟨w,S,τ,hr,sl,q⟩:=h;exact q w H σ (.refl w) hr sl
theorem acA (h:An G k X st s1):HW G k X [st] s1:=.mk<|λo=>zX (h o)
theorem UL (h1:An G k X st s1)(h2:HW G k X dz s2):HW G k X (st::dz) (ao s1 s2):=.mk<|λo=>(pJ (h1 o) (h2 o)).wk λD σ H h=>by
 obtain⟨w,S,τ,hr,sl,q⟩:=h;refine⟨w,S,τ,hr,sl,?_⟩
 unfold ao at q;split at q
 ·rename_i eN S1 e
  rw[e];exact λw' H' dX le ow Bw=>⟨w',S1,eN,ow,Bw,cG.wd le q⟩
 ·rename_i r Ej
  cases e:s1 τ S with
  |nx eN S1=>exact absurd e (Ej eN S1)
  |rt t S1=>rw[e] at q;exact q
  |bk t S1=>rw[e] at q;exact q
  |ct t S1=>rw[e] at q;exact q
  |ex t S1=>rw[e] at q;exact q
  |aG=>rw[e] at q;exact q
theorem UM (he:TV G k X e f)(hs:autoParam (swapsWith e none pos.line X.env=pure false) zp_0):An G k X (.Expr e pos) (dG f):=.mk<|λo=>(zY (he o) hs).wk λD σ H h=>by
 obtain⟨w,S,τ,hr,sl,q⟩:=h;exact⟨w,S,τ,hr,sl,(cG.aF q).mono λv H1 je=>by obtain⟨w1,S1,t1,c8,bK,r1,_,q1⟩:=je;exact q1 w1 H1 σ (.refl _) bK (sl.mono c8)⟩
theorem acB (he:TV G k X e f):An G k X (.Return (some e) pos) (aJ f):=.mk<|λo=>(aaV (he o)).wk λD σ H h=>by
 obtain⟨w,S,τ,hr,sl,q⟩:=h;exact⟨w,S,τ,hr,sl,(cG.aF q).mono λv H1 jf=>by obtain⟨w1,S1,t1,c8,bK,r1,_,q1⟩:=jf;exact q1 w1 H1 v (.refl _) bK r1⟩
theorem aiU (hc:Ca G k X c ta)(ha:HW G k X as s1)(hb:HW G k X bs s2):An G k X (.If c as bs pos) (cW ta s1 s2):=.mk<|λo=>(ahf (hc o) (ha o) (hb o)).wk λD σ H h=>by
 obtain⟨w,S,τ,hr,sl,q⟩:=h;refine⟨w,S,τ,hr,sl,(cG.aF q).mono λx H1 ku=>?_⟩
 obtain⟨w1,S1,t1,c8,bK,r1,_,q1⟩:=ku;subst r1;cases t1 with
 |true=>rw[if_pos rfl] at q1;exact BR ⟨w1,S1,τ,bK,sl.mono c8,q1⟩
 |false=>rw[if_neg zal] at q1;exact BQ ⟨w1,S1,τ,bK,sl.mono c8,q1⟩
theorem Ot (h:N9 G (bf i f) D σ H):SO (fK G f) (Hu i) D σ H:=by
 obtain⟨w,S,τ,hr,sl,q⟩:=h;exact⟨w,S,τ,hr,sl,(cG.aF q).mono λv H1 kC=>by obtain⟨w1,S1,t1,c8,bK,r1,_,q1⟩:=kC;exact q1 w1 H1 _ (.refl _) bK ((sl.mono c8).set i r1)⟩
theorem acC (hN:X.N.Nodup)(hi:X.N[i]? = some x)(hx:W3 X.env.scope x)(he:TV G k X e f)(hs:autoParam (swapsWith e (some (.Name x kh)) pos.line X.env=pure false) zp_0)(hf:autoParam (X.fn x=true\/X.env.scope.names.lookup x=some .local) zp_4):
  An G k X (.Assign [.Name x kh] e pos) (bf i f):=.mk<|λo=>(aa0 hN hi hx (he o) hs hf).wk λ_ _ _ h=>Ot h
theorem acD {b:Tr->En->Cs->R En}(he:TV G k X e f)(hg:Oa G k X tg b)(hs:autoParam (swapsWithSole [tg] e pos.line X.env=pure false) zp_0)(hw:autoParam (swappedStores [tg] e X.env=pure none) zp_0)
  (h1:autoParam ((assignEach [tg] X.env).map (·.2)=[assign tg X.env]) zp_0):An G k X (.Assign [tg] e pos) (acy f b):=.mk<|λo=>(aaZ (he o) (hg o) hs hw h1).wk λD σ H h=>by
 obtain⟨w,S,τ,hr,sl,q⟩:=h;exact⟨w,S,τ,hr,sl,(cG.aF q).mono λv H1 kF=>by obtain⟨w1,S1,t1,c8,bK,r1,_,q1⟩:=kF;exact⟨w1,S1,τ,t1,bK,sl.mono c8,r1,(cG.aF q1).mono λBj H2 Oe=>by obtain⟨w2,S2,jz,fG,dP,Nd,_,q2⟩:=Oe;exact q2 w2 H2 Bj (.refl _) dP Nd⟩⟩
noncomputable def an3 (i j:Nat)(fr:En->Cs->R (List Tr)):Sm:=λτ S=>(fr τ S).bR λts S1=>match ts with|[t,u]=>.nx ((τ.set i (some t)).set j (some u)) S1|_=>.aG
noncomputable def qb (u j t:Tr)(S:Cs):R Unit:=match u with
 |.hd n=>(match jI j with|some q=>(match uA S n with|some m=>if m.length<sizeLine then .ok () (S.set n (.jV (lY m q t))) else .aG|none=>.aG)|none=>.aG)
 |_=>.aG
theorem Ou {x y v:V}(hr:HR G w S H)(ru:RT w u x)(rj:RT w j y)(rt:RT w t v)(e:qb u j t S = .ok () S'):∃a H',x = .ref a/\J7 H a y v H'/\HR G w S' H':=by
 unfold qb at e;split at e
 ·split at e
  ·rename_i q ek
   split at e
   ·rename_i m em
    split at e
    ·cases e
     obtain⟨aU,h1,h2⟩:=hr.cell _ _ (g7 em)
     refine⟨_,_,ru.cS.2,by rw[iI ek rj];exact J7.k h1 (by rw[h2.len];assumption),?_⟩
     exact hr.EL (g7 em) rfl rfl ⟨_,av,h2.EL q rt⟩
    ·cases e
   ·cases e
  ·cases e
 ·cases e
noncomputable def Ia (fo fi fv:Em):Sm:=λτ S=>(fv τ S).bR λt S1=>(fo τ S1).bR λu S2=>(fi τ S2).bR λj S3=>(qb u j t S3).bR λ_ S4=>.nx τ S4
theorem Fx:qb u j t S ≠ .ex n S':=by
 unfold qb;split<;>(try split)<;>(try split)<;>(try split)<;>simp
theorem Ib (ho:TV G k X o fo)(hi:TV G k X i fi)(hv:TV G k X value fv)(hs:autoParam (swapsWith value (some (.Subscript o i kh)) pos.line X.env=pure false) zp_0):An G k X (.Assign [.Subscript o i kh] value pos) (Ia fo fi fv):=.mk<|λox=>(Tp ox.hu1 (ho ox) (hi ox) (hv ox) hs).wk λD σ H h=>by
 obtain⟨w,S,τ,hr,sl,q⟩:=h;refine⟨w,S,τ,hr,sl,(cG.aF q).mono λv H1 lz=>?_⟩
 obtain⟨w1,S1,t,c8,bK,r1,_,q1⟩:=lz;refine⟨w1,S1,τ,bK,sl.mono c8,(cG.aF q1).mono λx H2 o7=>?_⟩
 obtain⟨w2,S2,u,fG,dP,r2,_,q2⟩:=o7;refine⟨w2,S2,τ,dP,(sl.mono c8).mono fG,(cG.aF q2).mono λy H3 ji=>?_⟩
 obtain⟨w3,S3,j,mz,pV,r3,_,q3⟩:=ji;cases e:qb u j t S3 with
 |ok z S4 =>
  rw[e] at q3;obtain⟨a,H4,e1,d,Mw⟩:=Ou pV (RT.mono mz _ _ r2) r3 (RT.mono (fG.trans mz) _ _ r1) e
  exact⟨a,H4,e1,d,q3 w3 _ σ (.refl _) Mw (((sl.mono c8).mono fG).mono mz)⟩
 |ex n S4=>exact absurd e Fx
 |aG=>rw[e] at q3;exact q3.elim
noncomputable def d8 (G:Gx)(cs:List Str)(f:Str):Prop:=∀c∈cs,sj G.K (G.cl c)/\bW G.K (G.cl c) f
noncomputable def KH (cs:List Str)(f:Str)(t:Tr)(S:Cs):R Tr:=match t with
 |.hd n=>(match iH S n with|some (c,fs)=>if c∈cs then (match aR f fs with|some u=>.ok u S|none=>.aG) else .aG|none=>.aG)
 |_=>.aG
noncomputable def aQ (cs:List Str)(f:Str)(fo:Em):Em:=λτ S=>(fo τ S).aF λt S1=>KH cs f t S1
theorem ay {f:Str}(hf:d8 G cs f)(ho:TV G k X o fo)(hb:autoParam (attributeBase o f X.env (eval o X.env)=eval o X.env) zp_0):TV G k X (.Attribute o f pos) (aQ cs f fo):=.mk<|λox=>(abf (ho ox) hb).wk λσ H Q h=>by
 obtain⟨w,S,τ,hr,sl,q⟩:=h;refine⟨w,S,τ,hr,sl,(bh.aF q).mono λx H1 o8=>?_⟩
 obtain⟨w1,S1,t1,c8,bK,r1,_,q1⟩:=o8;unfold KH at q1;split at q1
 ·split at q1
  ·rename_i c fs ei
   split at q1
   ·rename_i hc
    split at q1
    ·rename_i u eu
     obtain⟨dx,pR,h1,h2⟩:=bK.cell _ _ (eS ei)
     obtain⟨v,ev,rv⟩:=(fL (k:=f) h2).1 u eu
     obtain⟨c1,c2⟩:=hf c hc;rw[<-ox.K] at c1 c2;exact⟨_,_,dx,pR,v,r1.cS.2,h1,c1,c2,ev,q1 w1 H1 v (.refl _) bK rv⟩
    ·exact q1.elim
   ·exact q1.elim
  ·exact q1.elim
 ·exact q1.elim
noncomputable def qc (cs:List Str)(f:Str)(t v:Tr)(S:Cs):R Unit:=match t with
 |.hd n=>(match iH S n with|some (c,fs)=>if c∈cs/\fs.length<1000 then .ok () (S.set n (.e9 c (b_ f v fs))) else .aG|none=>.aG)
 |_=>.aG
noncomputable def bU (cs:List Str)(f:Str)(fo fv:Em):Sm:=λτ S=>(fv τ S).bR λt S1=>(fo τ S1).bR λu S2=>(qc cs f u t S2).bR λ_ S3=>.nx τ S3
theorem UN {f:Str}{x y:V}(hf:d8 G cs f)(hr:HR G w S H)(rt:RT w t x)(ru:RT w u y)(e:qc cs f t u S = .ok () S'):
  ∃a C dx fs,x = .ref a/\H a=some (.e9 C dx fs)/\sj G.K C/\bW G.K C f/\fs.length<1000/\HR G w S' (bG H a (.e9 C dx (gH f y fs))):=by
 unfold qc at e;split at e
 ·split at e
  ·rename_i c fs ei
   split at e
   ·rename_i hc
    cases e;obtain⟨dx,pR,h1,h2⟩:=hr.cell _ _ (eS ei)
    obtain⟨c1,c2⟩:=hf c hc.1;exact⟨_,_,dx,pR,rt.cS.2,h1,c1,c2,by rw[h2.len];exact hc.2,hr.EL (eS ei) rfl rfl ⟨dx,_,av,h2.gH f ru⟩⟩
   ·cases e
  ·cases e
 ·cases e
theorem aV {f:Str}(hf:d8 G cs f)(ho:TV G k X o fo)(hv:TV G k X value fv)(hs:autoParam (swapsWith value (some (.Attribute o f kh)) pos.line X.env=pure false) zp_0):An G k X (.Assign [.Attribute o f kh] value pos) (bU cs f fo fv):=.mk<|λox=>(abg (ho ox) (hv ox) hs).wk λD σ H h=>by
 obtain⟨w,S,τ,hr,sl,q⟩:=h;refine⟨w,S,τ,hr,sl,(cG.aF q).mono λv H1 ux=>?_⟩
 obtain⟨w1,S1,t,c8,bK,r1,_,q1⟩:=ux;refine⟨w1,S1,τ,bK,sl.mono c8,(cG.aF q1).mono λx H2 uy=>?_⟩
 obtain⟨w2,S2,u,fG,dP,r2,_,q2⟩:=uy;cases e:qc cs f u t S2 with
 |ok z S3 =>
  rw[e] at q2;obtain⟨a,C,dx,fs,e1,h1,c1,c2,hl,pV⟩:=UN hf dP r2 (RT.mono fG _ _ r1) e
  rw[<-ox.K] at c1 c2;exact⟨a,C,dx,fs,e1,h1,c1,c2,hl,q2 w2 _ σ (.refl _) pV ((sl.mono c8).mono fG)⟩
 |ex n S3=>exact absurd e (by unfold qc;split<;>(try split)<;>(try split)<;>simp)
 |aG=>rw[e] at q2;exact q2.elim
noncomputable def yi (cs:List Str)(f:Str)(g:Int->Int->Int)(fo fv:Em):Sm:=λτ S=>(fo τ S).bR λt S1=>match t with
 |.hd n=>(match iH S1 n with
  |some (c,fs)=>if c∈cs then (match aR f fs with
   |some (.int i)=>(fv τ S1).bR λy S2=>(match y with
    |.int j=>(match iH S2 n with|some (c',Ms)=>if c'=c/\Ms.length<1000 then .nx τ (S2.set n (.e9 c (b_ f (.int (g i j)) Ms))) else .aG|none=>.aG)
    |_=>.aG)
   |_=>.aG) else .aG
  |none=>.aG)
 |_=>.aG
theorem sX {f:Str}(hop:∀X:Cx,Td X op (λx y H Q=>∃i j,x = .int i/\y = .int j/\Q (.int (g i j)) H))(hf:d8 G cs f)(ho:TV G k X o fo)(hv:TV G k X value fv):An G k X (.AugAssign (.Attribute o f kh) op value pos) (yi cs f g fo fv):=.mk<|λox=>(J4 (ho ox) (hv ox) (hop X)).wk λD σ H h=>by
 obtain⟨w,S,τ,hr,sl,q⟩:=h;refine⟨w,S,τ,hr,sl,(cG.aF q).mono λx H1 Fi=>?_⟩
 obtain⟨w1,S1,t,c8,bK,r1,_,q1⟩:=Fi;split at q1
 ·rename_i n
  split at q1
  ·rename_i c fs ei
   split at q1
   ·rename_i hc
    split at q1
    ·rename_i i eu
     obtain⟨dx,pR,h1,h2⟩:=bK.cell _ _ (eS ei)
     obtain⟨v,ev,rv⟩:=(fL (k:=f) h2).1 _ eu
     obtain⟨c1,c2⟩:=hf c hc;rw[<-ox.K] at c1 c2;refine⟨_,_,dx,pR,v,r1.cS.2,h1,c1,c2,ev,w1,S1,τ,bK,sl.mono c8,(cG.aF q1).mono λy H2 uz=>?_⟩
     obtain⟨w2,S2,t2,fG,dP,r2,_,q2⟩:=uz;split at q2
     ·rename_i j
      split at q2
      ·rename_i c' Ms ei'
       split at q2
       ·rename_i hl
        obtain⟨rfl,hl⟩:=hl;obtain⟨dx',an4,h1',Ic⟩:=dP.cell _ _ (eS ei')
        have e0:=fG.r _ r1.cS.1;rw[e0] at h1';refine⟨i,_,bA rv,bA r2,dx',an4,h1',by rw[Ic.len];exact hl,q2 w2 _ σ (.refl _) ?_ ((sl.mono c8).mono fG)⟩
        rw[<-e0];exact dP.EL (eS ei') rfl rfl ⟨dx',_,av,Ic.gH f d7⟩
       ·exact q2.elim
      ·exact q2.elim
     ·exact q2.elim
    ·exact q1.elim
   ·exact q1.elim
  ·exact q1.elim
 ·exact q1.elim
theorem sY:∀X:Cx,Td X .Add (λx y H Q=>∃i j,x = .int i/\y = .int j/\Q (.int (i+j)) H):=λ_=>abh
end
structure Co where
 items:List Tr
 g8:Cs->Prop
noncomputable def UO (G:Gx)(w:Wd)(s:Co)(J:It):Prop:=∀(w1:Wd) (S1:Cs) (H1:Hp) (i:Nat),w.K=w1.K->w.n<=w1.n->(∀i,i<w.n->w1.ρ i=w.ρ i)->(∀b o,w.F b=some o->w1.F b=some o)->HR G w1 S1 H1->s.g8 S1 ->
 (∀t,s.items[i]? = some t->J.go i H1/\∀x H2,J.yld i H1 x H2->∃w2,w1.le w2/\HR G w2 S1 H2/\RT w2 t x)/\(i=s.items.length->J.stop i H1)
noncomputable def UP (G:Gx)(f:En->Cs->R Co):TI:=λσ H Q=>∃w S τ,HR G w S H/\Sl w τ σ /\ bh (λw s J=>UO G w s J) G w (f τ S) Q
structure Ss (G:Gx) (k:Nat) (X:Cx) (tg eO:Expr) (f:En->Cs->R Co):Prop where
 jE:jH G k X->PI X tg eO (UP G f)
noncomputable instance {G:Gx}{k:Nat}{X:Cx}{tg eO:Expr}{f:En->Cs->R Co}:CoeFun (Ss G k X tg eO f) (λ_=>jH G k X->PI X tg eO (UP G f)):=⟨Ss.jE⟩
section
variable {G:Gx}{k:Nat}{X:Cx}{a b c o e tg:Expr}{es:List Expr}{fa fb f:Em}{fr:En->Cs->R (List Tr)}{pos p:Pos}
theorem PI.wk (h:PI X tg eO t)(g:∀ σ H Q,t' σ H Q->t σ H Q):PI X tg eO t':=λah s σ H R I q=>h ah s σ H R I (g _ _ _ q)
theorem RT.yj (hK:w.K=w1.K)(hn:w.n<=w1.n)(ja:∀i,i<w.n->w1.ρ i=w.ρ i)(hF:∀b o,w.F b=some o->w1.F b=some o)(r:RT w t v):RT w1 t v:=
 RT.mono (w:={w with hid:=w1.hid}) ⟨hK.symm,hn,ja,hF,rfl⟩ t v (RT.bF _ t v r)
theorem bL.yj (hK:w.K=w1.K)(hn:w.n<=w1.n)(ja:∀i,i<w.n->w1.ρ i=w.ρ i)(hF:∀b o,w.F b=some o->w1.F b=some o)(r:bL w l xs):bL w1 l xs:=
 bL.mono (w:={w with hid:=w1.hid}) ⟨hK.symm,hn,ja,hF,rfl⟩ l xs (bL.bF _ l xs r)
noncomputable def iL:Tr->Cs->R Co:=λt S=>match t with
 |.ls l=>.ok ⟨l,λ_=>True⟩ S
 |.kl l=>.ok ⟨l,λ_=>True⟩ S
 |.hd n=>(match cM S n with|some l=>.ok ⟨l,λS'=>cM S' n=some l⟩ S|none=>.aG)
 |_=>.aG
noncomputable def iT:Tr->Cs->R Co:=λt S=>match t with
 |.tp l=>.ok ⟨l,λ_=>True⟩ S
 |.kt l=>.ok ⟨l,λ_=>True⟩ S
 |_=>.aG
noncomputable def sM (g:Tr->Cs->R Co)(f:Em):En->Cs->R Co:=λτ S=>(f τ S).aF λt S1=>g t S1
noncomputable def aiV (G:Gx)(w:Wd)(s:Co)(a:Addr)(l:List Tr):Prop:=s.items=l/\∀(w1:Wd) (S1:Cs) (H1:Hp),w.K=w1.K->w.n<=w1.n->(∀i,i<w.n->w1.ρ i=w.ρ i)->(∀b o,w.F b=some o->w1.F b=some o)->HR G w1 S1 H1->s.g8 S1->∃xs,jC G.K H1 a xs/\bL w1 l xs
theorem Ie (hr:HR G w S H)(r:RT w t v)(e:iL t S = .ok s S'):S'=S/\∃a l,v = .ref a/\(∃xs,jC G.K H a xs/\bL w l xs)/\aiV G w s a l:=by
 unfold iL at e;split at e
 ·cases e
  unfold RT at r;obtain⟨a,xs,rfl,h,r⟩:=r;exact⟨rfl,a,_,rfl,⟨xs,jC.of (hr.sub _ _ h),r⟩,rfl,λw1 S1 H1 hK hn ja hF bK _=>⟨xs,jC.of (bK.sub _ _ (hF _ _ h)),r.yj hK hn ja hF⟩⟩
 ·cases e
  unfold RT at r;obtain⟨a,xs,rfl,h,r⟩:=r;exact⟨rfl,a,_,rfl,⟨xs,hr.sqL h,r⟩,rfl,λw1 S1 H1 hK hn ja hF bK _=>⟨xs,bK.sqL (by rw[<-hK];exact h.mono hF),r.yj hK hn ja hF⟩⟩
 ·rename_i n
  split at e
  ·rename_i l el
   cases e;obtain⟨xs,h1,h2⟩:=hr.cell _ _ (dD el)
   have hi:=r.cS;refine⟨rfl,_,l,hi.2,⟨xs,jC.of h1,h2⟩,rfl,λw1 S1 H1 hK hn ja hF bK hc=>?_⟩
   obtain⟨ys,h3,h4⟩:=bK.cell _ _ (dD hc)
   rw[ja _ hi.1] at h3;exact⟨ys,jC.of h3,h4⟩
  ·cases e
 ·cases e
theorem Ig:iL t S ≠ .ex n S':=by
 unfold iL;split<;>(try split)<;>simp
theorem UQ (ha:TV G k X a fa):Ss G k X tg a (sM iL fa):=.mk<|λox=>(SQ (ha ox)).wk λσ H Q h=>by
 obtain⟨w,S,τ,hr,sl,q⟩:=h;refine⟨w,S,τ,hr,sl,(bh.aF q).mono λx H1 cA=>?_⟩
 obtain⟨w1,S1,t1,c8,bK,r1,_,q1⟩:=cA;cases e:iL t1 S1 with
 |ok s S2 =>
  rw[e] at q1;obtain⟨rfl,p,l,rfl,⟨xs,sq,R⟩,ei,st⟩:=Ie bK r1 e
  refine⟨p,rfl,⟨xs,by rw[ox.K];exact sq⟩,q1 w1 H1 _ (.refl _) bK λw2 S2 H2 i hK hn ja hF dP hc=>?_⟩
  obtain⟨ys,Ov,R2⟩:=st w2 S2 H2 hK hn ja hF dP hc;rw[ei];refine⟨λt et=>?_,λhi=>⟨ys,by rw[ox.K];exact Ov,by rw[R2.len,hi];exact zah _⟩⟩
  obtain⟨v,ev,rv⟩:=R2.get et;refine⟨⟨ys,v,by rw[ox.K];exact Ov,ev⟩,λy H3 dR=>?_⟩
  obtain⟨e3,hy⟩:=dR;subst e3
  have:=hy ys (by rw[ox.K];exact Ov)
  rw[ev] at this;cases this;exact⟨w2,.refl _,dP,rv⟩
 |ex n S2=>exact absurd e Ig
 |aG=>rw[e] at q1;exact q1.elim
theorem acE (ha:TV G k X a fa):Ss G k X tg a (sM iT fa):=.mk<|λox=>(aa1 (ha ox)).wk λσ H Q h=>by
 obtain⟨w,S,τ,hr,sl,q⟩:=h;refine⟨w,S,τ,hr,sl,(bh.aF q).mono λx H1 fj=>?_⟩
 obtain⟨w1,S1,t1,c8,bK,r1,_,q1⟩:=fj;have go:∀{l:List Tr},Xl t1=some l->bh (λw s J=>UO G w s J) G w1 (.ok ⟨l,λ_=>True⟩ S1) Q->∃a,x = .ref a/\(∃xs,oV X.K H1 a xs)/\Q (Itt X.K a) H1:=λ{l} el q1=>by
  obtain⟨p,xs,rfl,sq,R⟩:=mY bK r1 el;refine⟨p,rfl,⟨xs,by rw[ox.K];exact sq⟩,q1 w1 H1 _ (.refl _) bK λw2 S2 H2 i hK hn ja hF dP hc=>?_⟩
  obtain⟨_,ys,ep,Ov,R2⟩:=mY dP (r1.yj hK hn ja hF) el
  cases ep;refine⟨λt et=>?_,λhi=>⟨ys,by rw[ox.K];exact Ov,by rw[R2.len,hi];exact zah _⟩⟩
  obtain⟨v,ev,rv⟩:=R2.get et;refine⟨⟨ys,v,by rw[ox.K];exact Ov,ev⟩,λy H3 je=>?_⟩
  obtain⟨e3,hy⟩:=je;subst e3
  have:=hy ys (by rw[ox.K];exact Ov)
  rw[ev] at this;cases this;exact⟨w2,.refl _,dP,rv⟩
 unfold iT at q1;split at q1
 ·exact go rfl q1
 ·exact go rfl q1
 ·exact q1.elim
noncomputable def sN (lo:Int)(n:Nat):List Tr:=(List.range n).map λ(j:Nat)=>Tr.int (lo+j)
noncomputable def uC (fr:En->Cs->R (List Tr)):En->Cs->R Co:=λτ S=>(fr τ S).aF λts S1=>match ts with
 |[.int j]=>xB (-(2 ^ 62)<=j/\j<2 ^ 62) (.ok ⟨sN 0 j.toNat,λ_=>True⟩ S1) .aG
 |_=>.aG
theorem acF {lo:Int}:UO G w ⟨sN lo n,λ_=>True⟩ (Itr lo n):=λw2 S2 H2 i hK hn ja hF dP hc=>by
 refine⟨λt et=>?_,λhi=>?_⟩
 ·have et:(sN lo n)[i]? = some t:=et
  unfold sN at et;rw[zat] at et;have jU:i<n:=by
   cases ec:(List.range n)[i]? with
   |none=>rw[ec] at et;cases et
   |some c=>simpa using (zab.mp ec).1
  rw[zde jU] at et;cases et;refine⟨jU,λy H3 kC=>?_⟩
  obtain⟨e3,ey⟩:=kC;subst e3;subst ey;exact⟨w2,.refl _,dP,d7⟩
 ·show n<=i
  have hi:i=(sN lo n).length:=hi
  unfold sN at hi;simp at hi
  omega
theorem qd (hm:X.mg "range"=none)(ha:xm G k X [a] fr)(hg:autoParam (Gl X "range") zp_0)(hs:autoParam (c_ a=false) zp_0):Ss G k X tg (.Call (.Name "range" p) [a] [] pos) (uC fr):=.mk<|λox=>(J0 hg hm (ha ox) (cE hs)).wk λσ H Q h=>by
 obtain⟨w,S,τ,hr,sl,q⟩:=h;refine⟨w,S,τ,hr,sl,(bh.aF q).mono λxs H1 kF=>?_⟩
 obtain⟨w1,S1,ts,c8,bK,r1,_,q1⟩:=kF;split at q1
 ·unfold xB at q1
  split at q1
  ·rename_i h
   obtain⟨x,rfl,rx⟩:=gr r1;exact⟨_,by rw[bA rx],h.1,h.2,q1 w1 H1 _ (.refl _) bK acF⟩
  ·exact q1.elim
 ·exact q1.elim
noncomputable def rW (st:Nat)(l:List Tr):List Tr:=(l.zip (List.range l.length)).map λp=>Tr.tp [.int ((st+p.2:Nat):Int),p.1]
noncomputable def mEn (st:Nat)(fr:En->Cs->R (List Tr)):En->Cs->R Co:=λτ S=>(fr τ S).aF λts S1=>match ts with
 |[t]=>(iL t S1).aF λs S2=>.ok ⟨rW st s.items,s.g8⟩ S2
 |_=>.aG
theorem yk {st:Nat}{t:Tr}(h:(rW st l)[i]? = some t):∃u,l[i]? = some u/\t = .tp [.int ((st+i:Nat):Int),u]:=by
 unfold rW at h;rw[zat] at h;cases e:(l.zip (List.range l.length))[i]? with
 |none=>rw[e] at h;cases h
 |some p =>
  rw[e] at h;cases h;obtain⟨u,j⟩:=p;rw[List.getElem?_zip_eq_some] at e;obtain⟨e1,e2⟩:=e;have jU:i<l.length:=(zab.mp e1).1
  rw[zde jU] at e2;cases e2;exact⟨u,e1,rfl⟩
theorem qZ {st:Nat}:(rW st l).length=l.length:=by simp[rW]
theorem aiW {st:Nat}(hK:X.K=G.K){Q:It->Hp->Prop}(h:UP G (mEn st fr) σ H Q):iEn X.K st (Fe G fr) σ H Q:=by
 obtain⟨w,S,τ,hr,sl,q⟩:=h;refine⟨w,S,τ,hr,sl,(bh.aF q).mono λxs H1 o7=>?_⟩
 obtain⟨w1,S1,ts,c8,bK,r1,_,q1⟩:=o7;split at q1
 ·rename_i t _
  obtain⟨x,rfl,rx⟩:=gr r1;cases e:iL t S1 with
  |ok s S2 =>
   rw[e] at q1;obtain⟨rfl,p,l,rfl,⟨xs,sq,R⟩,ei,qK⟩:=Ie bK rx e
   refine⟨p,xs,rfl,by rw[hK];exact sq,q1 w1 H1 _ (.refl _) bK λw2 S2 H2 i hK2 hn ja hF dP hc=>?_⟩
   obtain⟨ys,Ov,R2⟩:=qK w2 S2 H2 hK2 hn ja hF dP hc;refine⟨λt et=>?_,λhi=>⟨ys,by rw[hK];exact Ov,?_⟩⟩
   ·obtain⟨u,eu,rfl⟩:=yk et
    rw[ei] at eu;obtain⟨v,ev,rv⟩:=R2.get eu;refine⟨⟨ys,v,by rw[hK];exact Ov,ev⟩,λy H3 ji=>?_⟩
    obtain⟨T,z,hT,ey,eH,hz⟩:=ji
    have:=hz ys (by rw[hK];exact Ov)
    rw[ev] at this;cases this;subst ey;subst eH;obtain⟨h3,mz⟩:=dP.lay hT (.gV [.int ((st+i:Nat):Int),v])
    refine⟨_,mz,h3,?_⟩
    unfold RT;exact⟨T,_,rfl,av,.cons d7 (.cons (RT.mono mz _ _ rv) .nil)⟩
   ·have hi:i=(rW st s.items).length:=hi
    rw[qZ,ei] at hi;rw[R2.len,hi]
  |ex n S2=>exact absurd e Ig
  |aG=>rw[e] at q1;exact q1.elim
 ·exact q1.elim
theorem Ay {x1}(hm:X.mg "enumerate"=none)(ha:xm G k X [a] fr)(hg:autoParam (Gl X "enumerate") zp_0)(hs:autoParam (c_ a=false) zp_0):Ss G k X (.Tuple Ud x1 tp) (.Call (.Name "enumerate" p) [a] [] pos) (mEn 0 fr):=.mk<|λox=>(Ui hg hm (ha ox) (cE hs)).wk λσ H Q h=>aiW ox.K h
noncomputable def Xq (r:RS)(g:Sm):RS:=match r with|.nx τ S=>g τ S|.ct τ S=>g τ S|.bk τ S=>.nx τ S|.rt t S=>.rt t S|.ex n S=>.ex n S|.aG=>.aG
open Classical in
noncomputable def fS (g8:Cs->Prop)(b:Tr->En->Cs->R En)(f:Sm):List Tr->En->Cs->RS
 |[],τ,S=>if g8 S then .nx τ S else .aG
 |t::r,τ,S=>if g8 S then (b t τ S).bR λeN S1=>Xq (f eN S1) (fS g8 b f r) else .aG
noncomputable def o9 (fi:En->Cs->R Co)(b:Tr->En->Cs->R En)(f:Sm):Sm:=λτ S=>(fi τ S).bR λs S1=>fS s.g8 b f s.items τ S1
theorem UR (h:cG G w (Xq r g) D)(hN:∀w' H' dX τ S,w.le w'->HR G w' S H'->Sl w' τ dX->cG G w' (g τ S) D->N dX H'):cG G w r {D with nx:=N,ct:=N,bk:=D.nx}:=by
 cases r with
 |nx τ S=>exact λw' H' dX le hr sl=>hN w' H' dX τ S le hr sl (cG.wd le h)
 |ct τ S=>exact λw' H' dX le hr sl=>hN w' H' dX τ S le hr sl (cG.wd le h)
 |bk τ S=>exact h
 |rt τ S=>exact h
 |ex τ S=>exact h
 |aG=>exact h
theorem jZ (hp:PassesOwn (model X.prog X.w) X.A X.env X.xe)(hi:Ss G k X tg eO fi)(hg:Oa G k X tg bt)(hb:HW G k X body sb)(hs:autoParam (∀x,foldedSetIterable eO X.env x=pure x) zp_3)(hk:autoParam (0<k) zp_2):An G k X (.For tg eO body [] pos) (o9 fi bt sb):=.mk<|λox =>
 (aa2 hp (ox.e_ hk) (hi ox) (hg ox) (hb ox) hs).wk λD σ H h=>by
  obtain⟨w,S,τ,hr,sl,q⟩:=h;refine⟨w,S,τ,hr,sl,(cG.aF q).mono λJ H1 o8=>?_⟩
  obtain⟨w1,S1,s,c8,bK,it,_,q1⟩:=o8;refine⟨λi m Bj H2=>∃w2 S2 jz,w1.le w2/\HR G w2 S2 H2/\Sl w2 jz Bj/\i<=s.items.length/\m=s.items.length - i/\cG G w2 (fS s.g8 bt sb (s.items.drop i) jz S2) D,⟨_,w1,S1,τ,.refl _,bK,sl.mono c8,zcL _,rfl,q1⟩,?_⟩
  rintro i m Bj H2 ⟨w2,S2,jz,fG,dP,Nd,hi,rfl,q2⟩
  by_cases jU:i<s.items.length
  ·have ed:s.items.drop i=s.items[i]::s.items.drop (i+1):=zdE jU
   rw[ed] at q2;unfold fS at q2;split at q2
   ·rename_i hc
    obtain⟨go,yl⟩:=(it w2 S2 H2 i fG.K.symm fG.n fG.r fG.F dP hc).1 s.items[i] (zaf jU)
    refine .inr ⟨go,λdX H'=>∃m',m' < s.items.length - i/\∃w2 S2 jz,w1.le w2/\HR G w2 S2 H'/\Sl w2 jz dX/\i+1<=s.items.length/\m'=s.items.length - (i+1)/\cG G w2 (fS s.g8 bt sb (s.items.drop (i+1)) jz S2) D,λdX H' h=>h,λx H' hy=>?_⟩
    obtain⟨w3,mz,pV,r3⟩:=yl x H' hy;refine⟨w3,S2,jz,_,pV,Nd.mono mz,r3,(cG.aF (cG.wd mz q2)).mono λσ4 H4 ⟨w4,S4,Ep,Oc,Mw,sl4,_,q4⟩=>⟨w4,S4,Ep,Mw,sl4,UR q4 λw5 H5 σ5 τ5 S5 le5 hr5 sl5 q5=>?_⟩⟩
    exact⟨_,by omega,w5,S5,τ5,((fG.trans mz).trans Oc).trans le5,hr5,sl5,jU,rfl,q5⟩
   ·exact q2.elim
  ·have e:i=s.items.length:=by omega
   subst e;rw[List.drop_length] at q2;unfold fS at q2;split at q2
   ·rename_i hc
    exact .inl ⟨(it w2 S2 H2 _ fG.K.symm fG.n fG.r fG.F dP hc).2 rfl,q2 w2 H2 Bj (.refl _) dP Nd⟩
   ·exact q2.elim
end
noncomputable def Gx.nx (G:Gx):Gx:={G with E:=E0}
theorem bJ.nx:bJ G.nx w H a c↔bJ G w H a c:=by cases c<;>exact Iff.rfl
theorem HR.nx (h:HR G w S H):HR G.nx w S H:=⟨h.K,h.n,h.F,λi c e=>bJ.nx.mpr (h.cell i c e),h.inj,h.hid,h.kE,h.hl⟩
theorem HR.unx (h:HR G.nx w S H):HR G w S H:=⟨h.K,h.n,h.F,λi c e=>bJ.nx.mp (h.cell i c e),h.inj,h.hid,h.kE,h.hl⟩
noncomputable def iB {α:Type}(r:R α):R α:= match r with|.ok a s=>.ok a s|_=>.aG
noncomputable def j6 (fr:List Nat)(n:Nat)(τ:En):En:=(fr.map λj=>(τ[j]?).join)++List.replicate n none
noncomputable def jJ:En->Cs->R Bool:=λ_ S=>.ok true S
open Classical in
noncomputable def dh (g8:Cs->Prop)(b:Tr->En->Cs->R En)(c:En->Cs->R Bool)(f:Em):List Tr->En->List Tr->Cs->R (List Tr)
 |[],_,bY,S=>if g8 S then .ok bY S else .aG
 |t::r,τ,bY,S=>if g8 S then (iB (b t τ S)).aF λeN S1=>(iB (c eN S1)).aF λx S2=>if x=true then (iB (f eN S2)).aF λu S3=>(if bY.length<sizeLine then dh g8 b c f r eN (bY++[u]) S3 else .aG) else dh g8 b c f r eN bY S2 else .aG
noncomputable def gE (fi:En->Cs->R Co)(fr:List Nat)(n:Nat)(b:Tr->En->Cs->R En)(c:En->Cs->R Bool)(f:Em):Em:=λτ S=>(fi τ S).aF λs S1=>(dh s.g8 b c f s.items (j6 fr n τ) [] S1).aF λl S2=>.ok (.ls l) S2
structure KI (G:Gx) (k:Nat) (X:Cx) (sA:List Expr) (c:En->Cs->R Bool):Prop where
 jE:jH G k X->EW X sA (B_ G c)
noncomputable instance {G:Gx}{k:Nat}{X:Cx}{sA:List Expr}{c:En->Cs->R Bool}:CoeFun (KI G k X sA c) (λ_=>jH G k X->EW X sA (B_ G c)):=⟨KI.jE⟩
section
variable {G:Gx}{k:Nat}{X:Cx}
theorem US:KI G k X [] jJ:=.mk<|λ_ ah s σ H Q I cA=>by obtain⟨w,S,τ,hr,sl,q⟩:=cA;exact TZ ah s σ H Q I (q w H _ (.refl w) hr rfl)
theorem UT (h:Ca G k X c t):KI G k X [c] t:=.mk<|λo=>T4 (h o)
theorem jH.comp (o:jH G k X):jH G.nx k (rS X N sc C fp s H xe):=⟨o.K,o.e_,o.room,o.un⟩
theorem UU (sl:Sl w τ σ)(j:Nat)(h:(τ[j]?).join=some t):∃v,(σ[j]?).join=some v/\RT w t v:=by
 have e:τ[j]? = some (some t):=by
  cases q:τ[j]? with
  |none=>rw[q] at h;cases h
  |some x=>rw[q] at h;cases x with
   |none=>cases h
   |some y=>cases h;rfl
 obtain⟨v,ev,rv⟩:=sl.sr j t e;exact⟨v,by rw[ev];rfl,rv⟩
theorem Sl.comp (sl:Sl w τ σ)(fr:List Nat)(T:List Str):Sl w (j6 fr T.length τ) (k9 fr T σ):=by
 unfold j6 k9;refine⟨by simp,λi t e=>?_⟩
 by_cases hi:i<fr.length
 ·rw[zai (by simpa using hi),zat] at e
  rw[zai (by simpa using hi),zat]
  rw[zaf hi] at e ⊢
  have e1:(τ[fr[i]]?).join=some t:=by simpa using e
  obtain⟨v,ev,rv⟩:=UU sl _ e1;exact⟨v,by simp[ev],rv⟩
 ·rw[zaq (by simpa using hi)] at e
  rw[zcI] at e;split at e<;>cases e
variable {F T:List Str}{fr:List Nat}{sc:Scope}{xx target eO:Expr}{sA:List Expr}{pos:Pos}{fi:En->Cs->R Co}{bt:Tr->En->Cs->R En}{fc:En->Cs->R Bool}{fe:Em}
inductive acG|val|cel
noncomputable def acG.fu:acG->List Tr->Cs->R Tr|.val,l,S=>.ok (.ls l) S|.cel,l,S=>.ok (.hd S.length) (S++[.bS l])
theorem Ih (ce:acG)(hK:X.K=G.K)(h:fK G (λτ S=>(fi τ S).aF λs S1=>(dh s.g8 bt fc fe s.items (j6 fr T.length τ) [] S1).aF λl S2=>ce.fu l S2) σ H Q):
  HK (UP G fi) fr T (ab7 G.nx bt) (B_ G.nx fc) (fK G.nx fe) σ H Q:=by
 obtain⟨w,S,τ,hr,sl,q⟩:=h;refine⟨w,S,τ,hr,sl,(bh.aF q).mono λJ H1 ⟨w1,S1,s,c8,bK,it,_,q1⟩=>λD hD=>?_⟩
 have hhD:=bK.HV hD;refine⟨λi m Bj xs H2=>∃w2 S2 jz bY,w2.hid=bG w1.hid D (.bS xs)/\w2.K=w1.K/\w1.n<=w2.n/\(∀i,i<w1.n->w2.ρ i=w1.ρ i)/\(∀b o,w1.F b=some o->w2.F b=some o)/\HR G w2 S2 H2/\Sl w2 jz Bj/\bL w2 bY xs/\i<=s.items.length/\m=s.items.length - i /\
   bh RT G w1 ((dh s.g8 bt fc fe (s.items.drop i) jz bY S2).aF λl S3=>ce.fu l S3) Q,?_,?_⟩
 ·refine⟨_,{w1 with hid:=bG w1.hid D (.bS [])},S1,_,[],rfl,rfl,zah _,λ_ _=>rfl,λ_ _ e=>e,bK.anY hD _ (λ_ z=>by cases z),?_,.nil,zcL _,rfl,q1⟩
  have:=(sl.mono c8).comp fr T
  exact⟨this.len,λi t e=>let ⟨v,ev,rv⟩:=this.sr i t e;⟨v,ev,RT.bF _ t v rv⟩⟩
 ·rintro i m Bj xs H2 ⟨w2,S2,jz,bY,eh,eK,hn,ja,hF,dP,Nd,ra,hi,rfl,q2⟩
  have hDx:w2.hid D=some (.bS xs):=by rw[eh];exact av
  refine⟨dP.hid D _ hDx,?_⟩
  by_cases jU:i<s.items.length
  ·have ed:s.items.drop i=s.items[i]::s.items.drop (i+1):=zdE jU
   rw[ed] at q2;unfold dh at q2;split at q2
   ·rename_i hc
    obtain⟨go,yl⟩:=(it w2 S2 H2 i eK.symm hn ja hF dP hc).1 s.items[i] (zaf jU)
    refine .inr ⟨go,λdX ys H'=>∃m',m' < s.items.length - i/\∃w2 S2 jz bY,w2.hid=bG w1.hid D (.bS ys)/\w2.K=w1.K/\w1.n<=w2.n/\(∀i,i<w1.n->w2.ρ i=w1.ρ i)/\(∀b o,w1.F b=some o->w2.F b=some o)/\HR G w2 S2 H'/\Sl w2 jz dX/\bL w2 bY ys/\i+1<=s.items.length/\m'=s.items.length - (i+1) /\
     bh RT G w1 ((dh s.g8 bt fc fe (s.items.drop (i+1)) jz bY S2).aF λl S3=>ce.fu l S3) Q,λdX ys H' h=>h,λx H' hy=>?_⟩
    obtain⟨w3,mz,pV,r3⟩:=yl x H' hy;refine⟨w3,S2,jz,_,pV.nx,Nd.mono mz,r3,?_⟩
    cases eb:bt s.items[i] jz S2 with
    |ok Ep S4 =>
     rw[eb] at q2;intro w4 H4 σ4 Oc Mw sl4;refine⟨w4,S4,Ep,Mw,sl4,?_⟩
     have q2:bh RT G w1 (((iB (fc Ep S4)).aF λx S2=>if x=true then (iB (fe Ep S2)).aF λu S3=>(if bY.length<sizeLine then dh s.g8 bt fc fe (s.items.drop (i+1)) Ep (bY++[u]) S3 else .aG) else dh s.g8 bt fc fe (s.items.drop (i+1)) Ep bY S2).aF λl S3=>ce.fu l S3) Q:=q2
     cases ec:fc Ep S4 with
     |ok bb S5 =>
      rw[ec] at q2;have q2:bh RT G w1 ((if bb=true then (iB (fe Ep S5)).aF λu S3=>(if bY.length<sizeLine then dh s.g8 bt fc fe (s.items.drop (i+1)) Ep (bY++[u]) S3 else .aG) else dh s.g8 bt fc fe (s.items.drop (i+1)) Ep bY S5).aF λl S3=>ce.fu l S3) Q:=q2
      intro w5 H5 b' le5 hr5 eb';subst eb';have Fy:=(mz.trans Oc).trans le5
      have Cp:w5.hid=bG w1.hid D (.bS xs)/\w5.K=w1.K/\w1.n<=w5.n/\(∀i,i<w1.n->w5.ρ i=w1.ρ i)/\(∀b o,w1.F b=some o->w5.F b=some o):=⟨Fy.hid.trans eh,Fy.K.trans eK,zag hn Fy.n,λi hi=>(Fy.r i (zak hi hn)).trans (ja i hi),λb o e=>Fy.F b o (hF b o e)⟩
      cases bb with
      |true =>
       rw[if_pos rfl] at q2;refine BR ⟨w5,S5,Ep,hr5,sl4.mono le5,?_⟩
       cases ef:fe Ep S5 with
       |ok u S6 =>
        rw[ef] at q2;have q2:bh RT G w1 ((if bY.length<sizeLine then dh s.g8 bt fc fe (s.items.drop (i+1)) Ep (bY++[u]) S6 else .aG).aF λl S3=>ce.fu l S3) Q:=q2
        intro w6 H6 v le6 hr6 r6;have FA:=Fy.trans le6;split at q2
        ·rename_i dB
         have ra6:=bL.mono FA _ _ ra;have hD6:w6.hid D=some (.bS xs):=by rw[FA.hid];exact hDx
         have e6:w6.hid=bG w1.hid D (.bS xs):=FA.hid.trans eh
         refine⟨hr6.unx.hid D _ hD6,by rw[ra.len];exact dB,_,by omega,{w6 with hid:=bG w6.hid D (.bS (xs++[v]))},S6,Ep,bY++[u],?_,FA.K.trans eK,zag hn FA.n,λi hi=>(FA.r i (zak hi hn)).trans (ja i hi),λb o e=>FA.F b o (hF b o e),hr6.unx.ab4 hD6 _ (λ_ z=>by cases z),?_,?_,jU,rfl,q2⟩
         ·show bG w6.hid D _=_
          rw[e6,Hr]
         ·have:=(sl4.mono le5).mono le6
          exact⟨this.len,λi t e=>let ⟨v,ev,rv⟩:=this.sr i t e;⟨v,ev,RT.bF _ t v rv⟩⟩
         ·exact bL.bF _ _ _ (ra6.snoc r6)
        ·exact q2.elim
       |ex n S6=>rw[ef] at q2;exact q2.elim
       |aG=>rw[ef] at q2;exact q2.elim
      |false =>
       rw[if_neg zal] at q2;refine BQ ⟨_,by omega,w5,S5,Ep,bY,Cp.1,Cp.2.1,Cp.2.2.1,Cp.2.2.2.1,Cp.2.2.2.2,hr5.unx,sl4.mono le5,bL.mono Fy _ _ ra,jU,rfl,q2⟩
     |ex n S5=>rw[ec] at q2;exact q2.elim
     |aG=>rw[ec] at q2;exact q2.elim
    |ex n S4=>rw[eb] at q2;exact q2.elim
    |aG=>rw[eb] at q2;exact q2.elim
   ·exact q2.elim
  ·have e:i=s.items.length:=by omega
   subst e;rw[List.drop_length] at q2;unfold dh at q2;split at q2
   ·rename_i hc
    refine .inl ⟨(it w2 S2 H2 _ eK.symm hn ja hF dP hc).2 rfl,?_⟩
    have hF2:w2.F D=none:=by rw[dP.F];unfold Fz;rw[if_pos (.inr (by rw[hDx];simp))]
    cases ce with
    |val =>
     have q2:bh RT G w1 (.ok (.ls bY) S2) Q:=q2
     refine q2 _ _ _ ?_ (dP.ait eh hhD) ?_
     ·exact⟨eK,hn,ja,λb o e=>lg hF2 (hF b o e),rfl⟩
     ·unfold RT
      exact⟨D,xs,rfl,av,bL.yj (w:=w2) rfl (zah _) (λ_ _=>rfl) (λb o e=>lg hF2 e) ra⟩
    |cel =>
     have q2:bh RT G w1 (.ok (.hd S2.length) (S2++[.bS bY])) Q:=q2
     have lu:=({w2 with hid:=w1.hid}:Wd).uq D
     refine q2 _ _ _ ?_ (dP.Ut eh hhD (c:=.bS bY) rfl ⟨xs,dP.hid D _ hDx,?_⟩) ?_
     ·exact⟨eK,zag hn lu.n,λi hi=>(lu.r i (zak hi hn)).trans (ja i hi),λb o e=>hF b o e,rfl⟩
     ·exact bL.mono lu _ _ (bL.bF _ _ _ ra)
     ·unfold RT
      refine⟨by show S2.length<w2.n+1;rw[dP.n];exact zbo _,?_⟩
      show V.ref D=V.ref (if S2.length=w2.n then D else w2.ρ S2.length)
      rw[if_pos dP.n.symm]
   ·exact q2.elim
theorem iZ (S:dO X F T fr sc)(hi:Ss G k X target eO fi)(hg:∀C fp s H xe,Oa G.nx k (rS X (F++T) sc C fp s H xe) target bt)(T5:∀C fp s H xe,KI G.nx k (rS X (F++T) sc C fp s H xe) sA fc)
  (he:∀C fp s H xe,TV G.nx k (rS X (F++T) sc C fp s H xe) xx fe) (hs:autoParam (∀x,foldedSetIterable eO X.env x=pure x) zp_3) (hk:autoParam (0<k) zp_2):TV G k X (.ListComp xx [⟨target,eO,sA,0⟩] sc pos) (gE fi fr T.length bt fc fe):=.mk<|λo =>
 (T9 S (o.e_ hk) (hi o) (λC fp s H xe=>hg C fp s H xe o.comp) (λC fp s H xe=>T5 C fp s H xe o.comp) (λC fp s H xe=>he C fp s H xe o.comp) hs).wk λ_ _ _ h=>Ih .val o.K h
theorem Az (S:dO X F T fr sc)(hi:Ss G k X target eO fi)(hg:∀C fp s H xe,Oa G.nx k (rS X (F++T) sc C fp s H xe) target bt)(T5:∀C fp s H xe,KI G.nx k (rS X (F++T) sc C fp s H xe) sA fc)
  (he:∀C fp s H xe,TV G.nx k (rS X (F++T) sc C fp s H xe) xx fe) (hN:X.N.Nodup) (hiy:X.N[i0]? = some y) (hly:X.env.scope.names.lookup y=some .local) (hex:X.ex=[])
  (Kn:autoParam (swapsWith (.ListComp xx [⟨target,eO,sA,0⟩] sc pos) (some (.Name y py)) abO.line X.env=pure true) zp_0) (hs:autoParam (∀x,foldedSetIterable eO X.env x=pure x) zp_3) (hk:autoParam (0<k) zp_2):
  An G k X (.Assign [.Name y py] (.ListComp xx [⟨target,eO,sA,0⟩] sc pos) abO) (bf i0 (gE fi fr T.length bt fc fe)):=.mk<|λo =>
 (Uj S (o.e_ hk) (hi o) (λC fp s H xe=>hg C fp s H xe o.comp) (λC fp s H xe=>T5 C fp s H xe o.comp) (λC fp s H xe=>he C fp s H xe o.comp) hN hiy hly hex Kn hs).wk λD σ H h=>Ih .val o.K (Ot h)
end
noncomputable abbrev Fn:=List Tr->Cs->R Tr
noncomputable def dM (K:W.Frag)(cl:Str->Addr)(n:Nat)(q:Fn):Sp:=λvs H Q E=>∃w S ts,HR ⟨K,cl,E⟩ w S H/\bL w ts vs/\ts.length=n/\bh RT ⟨K,cl,E⟩ w (q ts S) Q
noncomputable def gF (n:Nat)(q:Fn)(fr:En->Cs->R (List Tr)):Em:=λτ S=>(fr τ S).aF λts S1=>if ts.length=n then q ts S1 else .aG
section
variable {G:Gx}{k j n:Nat}{X:Cx}{CX:BE}{f C:Addr}{fd:FuncData}{ps:List Str}{q:Fn}{x m:Str}{p pos fE iE:Pos}{e o:Expr}{es:List Expr}{fr:En->Cs->R (List Tr)}{fo:Em}
theorem aiY (h:fK G (gF n q fr) σ H Q):W6 (dM G.K G.cl n q) [] G.E (Fe G fr) σ H Q:=by
 obtain⟨w,S,τ,hr,sl,qq⟩:=h;refine⟨w,S,τ,hr,sl,(bh.aF qq).mono λvs H1 cA=>?_⟩
 obtain⟨w1,S1,ts,c8,bK,r1,_,q1⟩:=cA;split at q1
 ·rename_i hn
  rw[zau];exact⟨w1,S1,ts,bK,r1,hn,q1⟩
 ·exact q1.elim
theorem UW (F:aO X.prog X.w X.K X.mg X.base CX j f fd ps (dM G.K G.cl n q))(hj:j<=k)(hm:X.mg x=some (.ref f))(hk:W.keepIn X.K (.ref f)=true)(hb:dQ X.K fd ps [])(hx:fH CX X G.E)(ha:xm G k X (e::es) fr)
  (hg:autoParam (Gl X x) zp_0) (tZ:autoParam ((x == ("__debug__" : Str))=false) zp_1) (he:autoParam (c_ e=false) zp_0) (hpl:autoParam (cX es=true) zp_0) (sZ:autoParam (0<k) zp_2):
  TV G k X (.Call (.Name x p) (e::es) [] pos) (gF n q fr):=.mk<|λox=>(Tf F ((ox.room sZ).mono hj) hg hm hk hb .nil hx (ha ox) tZ (cE he) (dS hpl)).wk λ_ _ _ h=>aiY h
noncomputable def aH (c m:Str)(n:Nat)(q:Fn)(fo:Em)(fr:En->Cs->R (List Tr)):Em:=λτ S=>(fo τ S).aF λt S1=>match t with
 |.hd i=>(match iH S1 i with
  |some (c',fs)=>if c'=c/\(aR m fs).isNone=true then (fr τ S1).aF λts S2=>(if (t::ts).length=n then q (t::ts) S2 else .aG) else .aG
  |none=>.aG)
 |_=>.aG
theorem AA (h:fK G (aH c m n q fo fr) σ H Q):BF (G.cl c) m (dM G.K G.cl n q) [] G.E (fK G fo) (Fe G fr) σ H Q:=by
 obtain⟨w,S,τ,hr,sl,qq⟩:=h;refine⟨w,S,τ,hr,sl,(bh.aF qq).mono λv H1 dR=>?_⟩
 obtain⟨w1,S1,t,c8,bK,r1,_,q1⟩:=dR;split at q1
 ·split at q1
  ·rename_i c' fs ei
   split at q1
   ·rename_i hc
    obtain⟨rfl,hm⟩:=hc;obtain⟨dx,pR,h1,h2⟩:=bK.cell _ _ (eS ei)
    refine⟨_,dx,pR,r1.cS.2,h1,(fL (k:=m) h2).2 (zcz.mp hm),w1,S1,τ,bK,sl.mono c8,(bh.aF q1).mono λvs H2 fj=>?_⟩
    obtain⟨w2,S2,ts,fG,dP,r2,_,q2⟩:=fj;split at q2
    ·rename_i hn
     rw[zau];exact⟨w2,S2,_,dP,.cons (RT.mono fG _ _ r1) r2,hn,q2⟩
    ·exact q2.elim
   ·exact q1.elim
  ·exact q1.elim
 ·exact q1.elim
theorem bE (hc:sj G.K (G.cl c))(hM:cL G.K (G.cl c) m f)(F:aO X.prog X.w X.K X.mg X.base CX j f fd ps (dM G.K G.cl n q))(hj:j<=k)(hb:dQ X.K fd ps [])(hx:fH CX X G.E)(ho:TV G k X o fo)(ha:xm G k X (e::es) fr)
  (oK:autoParam (c_ e=false) zp_0) (hpl:autoParam (cX es=true) zp_0)
  (ht:autoParam (eval (.Call (.Attribute o m fE) (e::es) [] pos) X.env=(do
   let ov <-eval o X.env
   standAt fE.atName
   let (f,first) <-holding [ov] (getMethod ov m pl)
   callWith pos f first (backTo pos (starEach (e::es) X.env)) (backToKw pos (keywordEach [] X.env)))) zp_0) (sZ:autoParam (0<k) zp_2):TV G k X (.Call (.Attribute o m fE) (e::es) [] pos) (aH c m n q fo fr):=.mk<|λox =>
 (HA (ho ox) (by rw[ox.K];exact hc) (by rw[ox.K];exact hM) F ((ox.room sZ).mono hj) hb .nil hx (ha ox) (cE oK) (dS hpl) ht).wk λ_ _ _ h=>AA h
theorem aL (hc:sj G.K (G.cl c))(hM:cL G.K (G.cl c) m f)(F:aO X.prog X.w X.K X.mg X.base CX j f fd ps (dM G.K G.cl n q))(hj:j<=k)(hb:dQ X.K fd ps [])(hx:fH CX X G.E)(ho:TV G k X o fo)
  (ht:autoParam (eval (.Call (.Attribute o m fE) [] [] pos) X.env=(do
   let ov <-eval o X.env
   standAt fE.atName
   let (f,first) <-holding [ov] (getMethod ov m pl)
   callWith pos f first (backTo pos (starEach [] X.env)) (backToKw pos (keywordEach [] X.env)))) zp_0) (sZ:autoParam (0<k) zp_2):TV G k X (.Call (.Attribute o m fE) [] [] pos) (aH c m n q fo ak):=.mk<|λox =>
 (M4 (ho ox) (by rw[ox.K];exact hc) (by rw[ox.K];exact hM) F ((ox.room sZ).mono hj) hb .nil hx ht).wk λσ H Q h=>by
  obtain⟨w,S,τ,hr,sl,qq⟩:=AA h;refine⟨w,S,τ,hr,sl,qq.mono λv H1 ⟨a,dx,fs,e1,h1,hl,⟨w1,S1,eN,bK,E8,q1⟩⟩=>⟨a,dx,fs,e1,h1,hl,?_⟩⟩
  exact q1 w1 H1 [] (.refl _) bK .nil
noncomputable def m6 (c:Str)(n:Nat)(q:Fn)(fr:En->Cs->R (List Tr)):Em:=λτ S=>(fr τ S).aF λts S1=>if ts.length+1=n then (q (.hd S1.length::ts) (S1++[.e9 c []])).aF λr S2=>(match r with|.bz=>.ok (.hd S1.length) S2|_=>.aG) else .aG
theorem UX (h:fK G (m6 c n q fr) σ H Q):W7 (G.cl c) (dM G.K G.cl n q) [] G.E (Fe G fr) σ H Q:=by
 obtain⟨w,S,τ,hr,sl,qq⟩:=h;refine⟨w,S,τ,hr,sl,(bh.aF qq).mono λvs H1 ⟨w1,S1,ts,c8,bK,r1,_,q1⟩=>λx dx hx hdx ne=>?_⟩
 split at q1
 ·rename_i hn
  obtain⟨h2,fG⟩:=bK.lay hdx (.tM x)
  have hx2:bG H1 dx (.tM x) x=none:=by rw[au (zbg ne)];exact hx
  obtain⟨h3,mz⟩:=h2.Kv hx2 (o:=.e9 (G.cl c) dx []) (c:=.e9 c []) rfl ⟨dx,[],av,.nil⟩
  have ja:(({w1 with F:=bG w1.F dx (.tM x)}:Wd).up x).ρ S1.length=x:=by
   show (if S1.length=w1.n then x else w1.ρ S1.length)=x
   rw[if_pos bK.n.symm]
  rw[zau];refine⟨_,_,.hd S1.length::ts,h3,.cons ?_ (bL.mono (fG.trans mz) _ _ r1),by simpa using hn,(bh.aF (bh.wd (fG.trans mz) q1)).mono λv H4 ⟨w4,S4,t4,Oc,Mw,r4,_,q4⟩=>?_⟩
  ·unfold RT
   exact⟨by show S1.length<w1.n+1;rw[bK.n];exact zbo _,by rw[ja]⟩
  ·split at q4
   ·refine⟨lA r4,q4 w4 H4 _ (.refl _) Mw ?_⟩
    have jU:S1.length<(({w1 with F:=bG w1.F dx (.tM x)}:Wd).up x).n:=by show S1.length<w1.n+1;rw[bK.n];exact zbo _
    unfold RT;exact⟨zak jU Oc.n,by rw[Oc.r _ jU,ja]⟩
   ·exact q4.elim
 ·exact q1.elim
theorem lF (M:Mk G.K (G.cl c) f)(F:aO X.prog X.w X.K X.mg X.base CX j f fd ps (dM G.K G.cl n q))(hj:j+1<=k)(hm:X.mg x=some (.ref (G.cl c)))(hb:dQ X.K fd ps [])(hx:fH CX X G.E)(ha:xm G k X (e::es) fr)
  (hg:autoParam (Gl X x) zp_0) (tZ:autoParam ((x == ("__debug__" : Str))=false) zp_1) (he:autoParam (c_ e=false) zp_0) (hpl:autoParam (cX es=true) zp_0) (sZ:autoParam (0<k) zp_2):
  TV G k X (.Call (.Name x p) (e::es) [] pos) (m6 c n q fr):=.mk<|λox=>(Tg (by rw[ox.K];exact M) F ((ox.room sZ).mono hj) hg hm hb .nil hx (ha ox) tZ (cE he) (dS hpl)).wk λ_ _ _ h=>UX h
noncomputable def gO (N:List Str)(ts:List Tr):En:=ts.map some++List.replicate (N.length - ts.length) none
noncomputable def dw (N:List Str)(sb:Sm):Fn:=λts S=>match sb (gO N ts) S with|.nx _ S'=>.ok .bz S' | .rt t S'=>.ok t S' | _=>.aG
theorem Sl.dg (N:List Str)(r:bL w ts vs):Sl w (gO N ts) (dg N vs):=by
 unfold gO L2.dg;refine⟨by simp[r.len],λi t e=>?_⟩
 by_cases hi:i<ts.length
 ·rw[zai (by simpa using hi),zat] at e
  rw[zai (by rw[zae,r.len];exact hi),zat]
  cases et:ts[i]? with
  |none=>rw[et] at e;cases e
  |some u =>
   rw[et] at e;cases e;obtain⟨v,ev,rv⟩:=r.get et;exact⟨v,by rw[ev];rfl,rv⟩
 ·rw[zaq (by simpa using hi)] at e
  rw[zcI] at e;split at e<;>cases e
variable {P:Program}{w:World}{K:W.Frag}{mg:Str->Option Value}{base:Heap}{cl:Str->Addr}{N:List Str}{bX:Str}{st:Stmt}{sb:Sm}
theorem bq (F:Nq K x bX st f fd)(Sc:aq N ps (aj st))
  (hb:∀fB A outer s H E,HW ⟨K,cl,E0⟩ k (iN eL P w K mg base N bX (aj st) f fB A outer s H E).sS (cI st) sb):aO P w K mg base eL (k+1) f fd ps (dM K cl ps.length (dw N sb)):=by
 refine F.ok Sc (λvs H Q E kC=>by obtain⟨w,S,ts,hr,r,hn,_⟩:=kC;rw[r.len,hn]) λfB A outer s H vs Q E hr kF=>?_
 obtain⟨w,S,ts,Su,r,hn,q⟩:=kF;refine⟨_,hb fB A outer s H E ⟨rfl,λ_=>rfl,λ_=>hr,zcF (Nat.add_le_add_right (zcq _ _) 200) hr.un⟩,w,S,gO N ts,⟨Su.K,Su.n,Su.F,λi c e=>Su.nx.cell i c e,Su.inj,Su.hid,Su.kE,Su.hl⟩,Sl.dg N r,?_⟩
 have conv:∀{w' S' H'},HR (⟨K,cl,E0⟩:Gx) w' S' H'->HR ⟨K,cl,E⟩ w' S' H':=λh=>HR.unx (G:=⟨K,cl,E⟩) h
 unfold dw at q;cases e:sb (gO N ts) S with
 |nx qe S'=>rw[e] at q;exact λw' H' dX le ow Bw=>q w' H' _ le (conv ow) ur
 |rt t S'=>rw[e] at q;exact λw' H' v le ow rv=>q w' H' v le (conv ow) rv
 |bk qe S'=>rw[e] at q;exact q.elim
 |ct qe S'=>rw[e] at q;exact q.elim
 |ex qe S'=>rw[e] at q;exact q.elim
 |aG=>rw[e] at q;exact q.elim
mutual
noncomputable def Tr.aF (m:Nat):Tr->Bool
 |.tp l=>Tr.j7 m l
 |.ls l=>Tr.j7 m l
 |.kt l=>Tr.j7 m l
 |.kl l=>Tr.j7 m l
 |.hd n=>decide (n<m)
 |_=>true
noncomputable def Tr.j7 (m:Nat):List Tr->Bool
 |[]=>true
 |t::l=>Tr.aF m t && Tr.j7 m l
end
mutual
theorem RT.aF {w:Wd}:∀(t:Tr) (v:V),RT w t v->t.aF w.n=true
 |.tp l,v,r=>by unfold RT at r;unfold Tr.aF;obtain⟨_,xs,_,_,r⟩:=r;exact bL.aF l xs r
 |.ls l,v,r=>by unfold RT at r;unfold Tr.aF;obtain⟨_,xs,_,_,r⟩:=r;exact bL.aF l xs r
 |.kt l,v,r=>by unfold RT at r;unfold Tr.aF;obtain⟨_,xs,_,_,r⟩:=r;exact bL.aF l xs r
 |.kl l,v,r=>by unfold RT at r;unfold Tr.aF;obtain⟨_,xs,_,_,r⟩:=r;exact bL.aF l xs r
 |.hd n,v,r=>by unfold Tr.aF;exact decide_eq_true r.cS.1
 |.bz,v,r=>by unfold Tr.aF;rfl
 |.bl _,v,r=>by unfold Tr.aF;rfl
 |.int _,v,r=>by unfold Tr.aF;rfl
 |.str _,v,r=>by unfold Tr.aF;rfl
theorem bL.aF {w:Wd}:∀(l:List Tr) (xs:List V),bL w l xs->Tr.j7 w.n l=true
 |[],xs,r=>by unfold Tr.j7;rfl
 |t::l,xs,r=>by
  obtain⟨x,r',rfl,h1,h2⟩:=r.bD;unfold Tr.j7;rw[RT.aF t x h1,bL.aF l r' h2];rfl
end
mutual
theorem RT.oz {w:Wd}{m:Nat}(hF:∀b o,w.F b=some o->F' b=some o):∀(t:Tr) (v:V),RT w t v->t.aF m=true->RT {w with n:=m,F:=F' } t v
 |.tp l,v,r,h=>by unfold RT at r ⊢;unfold Tr.aF at h;obtain⟨a,xs,e,s,r⟩:=r;exact⟨a,xs,e,hF _ _ s,bL.oz hF l xs r h⟩
 |.ls l,v,r,h=>by unfold RT at r ⊢;unfold Tr.aF at h;obtain⟨a,xs,e,s,r⟩:=r;exact⟨a,xs,e,hF _ _ s,bL.oz hF l xs r h⟩
 |.kt l,v,r,h=>by unfold RT at r ⊢;unfold Tr.aF at h;obtain⟨a,xs,e,s,r⟩:=r;exact⟨a,xs,e,s.mono hF,bL.oz hF l xs r h⟩
 |.kl l,v,r,h=>by unfold RT at r ⊢;unfold Tr.aF at h;obtain⟨a,xs,e,s,r⟩:=r;exact⟨a,xs,e,s.mono hF,bL.oz hF l xs r h⟩
 |.hd n,v,r,h=>by unfold RT;unfold Tr.aF at h;exact⟨of_decide_eq_true h,r.cS.2⟩
 |.bz,v,r,h=>by unfold RT at r ⊢;exact r
 |.bl _,v,r,h=>by unfold RT at r ⊢;exact r
 |.int _,v,r,h=>by unfold RT at r ⊢;exact r
 |.str _,v,r,h=>by unfold RT at r ⊢;exact r
theorem bL.oz {w:Wd}{m:Nat}(hF:∀b o,w.F b=some o->F' b=some o):∀(l:List Tr) (xs:List V),bL w l xs->Tr.j7 m l=true->bL {w with n:=m,F:=F' } l xs
 |[],xs,r,h=>by rw[r.cD];exact .nil
 |t::l,xs,r,h=>by
  obtain⟨x,r',rfl,h1,h2⟩:=r.bD;unfold Tr.j7 at h;have h:=zbi.mp h;exact .cons (RT.oz hF t x h1 h.1) (bL.oz hF l r' h2 h.2)
end
noncomputable def aiZ (m:Nat):Ce->Bool
 |.uo=>true
 |.bS l=>Tr.j7 m l
 |.jV l=>Tr.j7 m (l.map Prod.snd)
 |.e9 _ l=>Tr.j7 m (l.map Prod.snd)
 |.oQ _ l=>Tr.j7 m (l.map Prod.snd)
 |.Sk l=>Tr.j7 m (l.map Prod.snd)
 |.xA l=>Tr.j7 m (l.map Prod.snd)
 |.Fc l=>Tr.j7 m (l.map Prod.snd)
theorem bJ.aF {w:Wd}(h:bJ G w H a c):aiZ w.n c=true:=by
 cases c with
 |uo=>rfl
 |bS l=>obtain⟨xs,_,r⟩:=h;exact bL.aF _ _ r
 |jV l=>obtain⟨xs,_,r⟩:=h;exact bL.aF _ _ r.2
 |e9 c l=>obtain⟨_,xs,_,r⟩:=h;exact bL.aF _ _ r.2
 |oQ c l=>obtain⟨_,_,xs,_,_,_,_,_,r⟩:=h;exact bL.aF _ _ r.2
 |Sk l=>obtain⟨xs,_,r⟩:=h;exact bL.aF _ _ r.2
 |xA l=>obtain⟨_,xs,_,r⟩:=h;exact bL.aF _ _ r.2
 |Fc l=>obtain⟨_,xs,_,r⟩:=h;exact bL.aF _ _ r.2
theorem bJ.cut {w:Wd}{m:Nat}(hF:∀b o,w.F b=Option.some o->F' b=Option.some o)(h:bJ G w H a c)(hb:aiZ m c=true):bJ G {w with n:=m,F:=F' } H a c:=by
 cases c with
 |uo=>trivial
 |bS l=>obtain⟨xs,e,r⟩:=h;exact⟨xs,e,bL.oz hF _ _ r hb⟩
 |jV l=>obtain⟨xs,e,r⟩:=h;exact⟨xs,e,r.1,bL.oz hF _ _ r.2 hb⟩
 |e9 c l=>obtain⟨dx,xs,e,r⟩:=h;exact⟨dx,xs,e,r.1,bL.oz hF _ _ r.2 hb⟩
 |oQ c l=>obtain⟨T,d,xs,e,e2,e3,n1,n2,r⟩:=h;exact⟨T,d,xs,e,hF _ _ e2,hF _ _ e3,n1,n2,r.1,bL.oz hF _ _ r.2 hb⟩
 |Sk l=>obtain⟨xs,e,r⟩:=h;exact⟨xs,e,r.1,bL.oz hF _ _ r.2 hb⟩
 |xA l=>obtain⟨o,xs,e,r⟩:=h;exact⟨o,xs,hF _ _ e,r.1,bL.oz hF _ _ r.2 hb⟩
 |Fc l=>obtain⟨o,xs,e,r⟩:=h;exact⟨o,xs,hF _ _ e,r.1,bL.oz hF _ _ r.2 hb⟩
noncomputable def o_ (m:Nat)(S:Cs)(t:Tr):Option Tr:=match t with
 |.hd n=>if n<m then some (.hd n) else (match cM S n with|some l=>if Tr.j7 m l=true then some (.ls l) else none|none=>none)
 |t=>if t.aF m=true then some t else none
open Classical in
noncomputable def l5 (q:Fn):Fn:=λts S=>match q ts S with
 |.ok t S1=>if S1.take S.length=S then (match o_ S.length S1 t with|some u=>.ok u S|none=>.aG) else .aG
 |.ex n S1=>.ex n S1
 |.aG=>.aG
open Classical in
theorem UY {H:Hp}(h:dM K cl n (l5 q) vs H Q E):dM K cl n q vs H Q E:=by
 obtain⟨w,S,ts,hr,r,hn,qq⟩:=h;refine⟨w,S,ts,hr,r,hn,?_⟩
 unfold l5 at qq;cases e:q ts S with
 |ex m S1=>rw[e] at qq;exact qq
 |aG=>rw[e] at qq;exact qq
 |ok t S1 =>
  rw[e] at qq;have qq:bh RT ⟨K,cl,E⟩ w (if S1.take S.length=S then (match o_ S.length S1 t with|some u=>.ok u S|none=>.aG) else .aG) Q:=qq
  split at qq
  ·rename_i hS
   split at qq
   ·rename_i u eu
    intro w1 H1 v c8 bK rv;have hm:S.length<=S1.length:=by
     have:=congrArg List.length hS
     rw[zbh] at this;omega
    have hF:∀b o,w1.F b=some o->Fz w1.ρ w1.hid (S1.take S.length) H1 b=some o:=λb o e=>ab6 b o (by rw[<-bK.F];exact e)
    have dP:=bK.cut hm λi c ec=>by
     have hi:=(zab.mp ec).1
     rw[zbh] at hi;have ec1:S1[i]? = some c:=by rw[zbC (by omega)] at ec;exact ec
     rw[hS] at ec;have hb:=(hr.cell i c ec).aF
     rw[hr.n] at hb;exact (bK.cell i c ec1).cut hF hb
    have fG:w.le {w1 with n:=S.length,F:=Fz w1.ρ w1.hid (S1.take S.length) H1}:=⟨c8.K,by show w.n<=S.length;rw[hr.n];exact zah _,c8.r,λb o e=>hF b o (c8.F b o e),c8.hid⟩
    rw[hS] at dP fG hF;refine qq _ _ _ fG dP ?_
    unfold o_ at eu;split at eu
    ·rename_i n
     split at eu
     ·cases eu
      rename_i jU;unfold RT;exact⟨jU,rv.cS.2⟩
     ·rename_i hge
      split at eu
      ·rename_i l el
       split at eu
       ·rename_i hb
        cases eu;obtain⟨xs,h1,h2⟩:=bK.cell _ _ (dD el)
        have lv:fm S1 n:=⟨_,dD el,rfl⟩
        unfold RT;refine⟨_,xs,rv.cS.2,?_,bL.oz hF _ _ h2 hb⟩
        show Fz w1.ρ w1.hid S H1 (w1.ρ n)=_
        unfold Fz;rw[if_neg,h1];rintro (⟨i,li,ei⟩|z)
        ·have li1:fm S1 i:=by
          obtain⟨c,ec,nc⟩:=li;have hi:=(zab.mp ec).1
          rw[<-hS,zbC (by omega)] at ec
          exact⟨c,ec,nc⟩
         have:=bK.inj i n li1 lv ei
         subst this;exact hge li.lt
        ·exact z (bK.kE n lv)
       ·cases eu
      ·cases eu
    ·split at eu
     ·cases eu
      exact RT.oz hF _ _ rv (by assumption)
     ·cases eu
   ·exact qq.elim
  ·exact qq.elim
theorem aO.pure (F:aO P w K mg base CX j f fd ps (dM K cl n q)):aO P w K mg base CX j f fd ps (dM K cl n (l5 q)):=F.imp λ_ _ _ _ h=>UY h
end
section
variable {G:Gx}{k:Nat}{X:Cx}{a b c o e kx vx:Expr}{es:List Expr}{ks:List (Option Expr)}{vs:List Expr}{fo fe ff fk fv:Em}{pos fE iE:Pos}
noncomputable def FD:Em:=λ_ S=>.ok (.hd S.length) (S++[.jV []])
theorem Ow:TV G k X (.Dict [] [] pos) FD:=.mk<|λ_=>M_.wk λσ H Q h=>by
 obtain⟨w,S,τ,hr,sl,q⟩:=h;intro p hp;obtain⟨h2,le⟩:=hr.Kv (c:=.jV []) hp (o:=.dK []) rfl ⟨[],av,.nil⟩
 refine q _ _ _ le h2 ?_
 unfold RT;exact⟨by show S.length<w.n+1;rw[hr.n];exact zbo _,by show V.ref p=V.ref (if S.length=w.n then p else w.ρ S.length);rw[if_pos hr.n.symm]⟩
noncomputable def KJ:List (Em×Em)->En->Cs->R (List (d_×Tr))
 |[],_,S=>.ok [] S
 | (fk,fv)::r,τ,S=>(fk τ S).aF λt S1=>(fv τ S1).aF λu S2=>(KJ r τ S2).aF λl S3=>match jI t with|some j=>.ok ((j,u)::l) S3|none=>.aG
noncomputable def Ox (ps:List (Em×Em)):Em:=λτ S=>(KJ ps τ (S++[.jV []])).aF λl S1=>match uA S1 S.length with
 |some []=>if l.length<=15 then .ok (.hd S.length) (S1.set S.length (.jV (fR [] l))) else .aG
 |_=>.aG
noncomputable def Oz (G:Gx)(ps:List (Em×Em)):List (TE×TE):=ps.map λp=>(fK G p.1,fK G p.2)
structure TVP (G:Gx) (k:Nat) (X:Cx) (pos:Pos) (ks:List (Option Expr)) (vs:List Expr) (ps:List (Em×Em)):Prop where
 jE:jH G k X->PPs X pos ks vs (Oz G ps)
noncomputable instance {G:Gx}{k:Nat}{X:Cx}{pos:Pos}{ks:List (Option Expr)}{vs:List Expr}{ps:List (Em×Em)}:CoeFun (TVP G k X pos ks vs ps) (λ_=>jH G k X->PPs X pos ks vs (Oz G ps)):=⟨TVP.jE⟩
theorem acH:TVP G k X pos [] [] []:=.mk<|λ_=>Tq
theorem UZ (hk:TV G k X kx fk)(hv:TV G k X vx fv)(hr:TVP G k X pos ks vs ps):TVP G k X pos (some kx::ks) (vx::vs) ((fk,fv)::ps):=.mk<|λo=>Na (hk o) (hv o) (hr o)
theorem OA:∀(ps:List (Em×Em)) {w:Wd} {S:Cs} {τ:En} {σ:St} {H:Hp} {Q:List (V×V)->Hp->Prop},HR G w S H->Sl w τ σ ->
  bh (λw (l:List (d_×Tr)) (m:List (V×V))=>∃aU,m=aU.map (λkv=>(kV kv.1,kv.2))/\RK w l aU) G w (KJ ps τ S) Q->z7 (Oz G ps) σ H Q
 |[],w,S,τ,σ,H,Q,hr,sl,q=>q w H [] (.refl w) hr ⟨[],rfl,.nil⟩
 | (fk,fv)::r,w,S,τ,σ,H,Q,hr,sl,q=>by
  refine⟨w,S,τ,hr,sl,(bh.aF q).mono λx H1 cA=>?_⟩
  obtain⟨w1,S1,t,c8,bK,r1,_,q1⟩:=cA;refine⟨w1,S1,τ,bK,sl.mono c8,(bh.aF q1).mono λy H2 dR=>?_⟩
  obtain⟨w2,S2,u,fG,dP,r2,_,q2⟩:=dR;refine OA r dP ((sl.mono c8).mono fG) ((bh.aF q2).mono λm H3 fj=>?_)
  obtain⟨w3,S3,l,mz,pV,⟨aU,em,rk⟩,_,q3⟩:=fj
  split at q3
  ·rename_i j ej
   refine q3 w3 H3 _ (.refl _) pV ⟨(j,y)::aU,?_,.cons (RT.mono mz _ _ r2) rk⟩
   rw[em,zas,iI ej r1]
  ·exact q3.elim
theorem U0 (h:TVP G k X pos ks vs ps)(Nb:autoParam (ks.all (·.isSome)=true) zp_0)(hl:autoParam (ks.length=vs.length) zp_0)(h0:ks≠[]:=by simp)(h15:autoParam (ks.length<=15) zp_1):TV G k X (.Dict ks vs pos) (Ox ps):=.mk<|λox=>(Tt (h ox) Nb hl h0 h15).wk λσ H Q h=>by
 obtain⟨w,S,τ,hr,sl,q⟩:=h;intro p hp;obtain⟨h2,le⟩:=hr.Kv (c:=.jV []) hp (o:=.dK []) rfl ⟨[],av,.nil⟩
 have jU:S.length<(w.up p).n:=by show S.length<w.n+1;rw[hr.n];exact zbo _
 have ja:(w.up p).ρ S.length=p:=by show (if S.length=w.n then p else w.ρ S.length)=p;rw[if_pos hr.n.symm]
 refine OA ps h2 (sl.mono le) ((bh.aF (bh.wd le q)).mono λm H2 je=>?_)
 obtain⟨w2,S2,l,fG,dP,⟨aU,em,rk⟩,_,q2⟩:=je
 split at q2
 ·rename_i ed
  split at q2
  ·rename_i h15
   obtain⟨asL,h3,h4⟩:=dP.cell _ _ (g7 ed)
   have acI:w2.ρ S.length=p:=(fG.r _ jU).trans ja
   rw[acI,h4.cD] at h3;refine⟨h3,aU,em,by rw[rk.len];exact h15,?_⟩
   have h5:HR G w2 (S2.set S.length (.jV (fR [] l))) (bG H2 (w2.ρ S.length) (.dK (gB [] aU))):=dP.EL (g7 ed) rfl rfl ⟨_,av,RK.BK rk .nil⟩
   rw[acI] at h5;refine q2 w2 _ _ (.refl _) h5 ?_
   unfold RT;exact⟨zak jU fG.n,by rw[acI]⟩
  ·exact q2.elim
 ·exact q2.elim
noncomputable def Ii (fo fe ff:Em):Em:=λτ S=>(fo τ S).aF λt S1=>if ckD S1 t=true then (fe τ S1).aF λj S2=>(ff τ S2).aF λu S3=>(match Sn S3 t,jI j with|some m,some q=>.ok ((aR q m).getD u) S3|_,_=>.aG) else .aG
theorem acJ (hr:HR G w S H)(r:RT w t v)(h:ckD S t=true):∃n,t = .hd n/\v = .ref (w.ρ n)/\IsD H (w.ρ n):=by
 unfold ckD at h;obtain⟨m,em⟩:=zbT.mp h;obtain⟨n,aU,e1,_,e2,h1,_⟩:=As hr r em;exact⟨n,e1,e2,.inl ⟨aU,.inl h1⟩⟩
theorem KL {j:d_}(R:RK w m aU)(ru:RT w u z):RT w ((aR j m).getD u) ((mq aU j).getD z):=by
 obtain⟨h1,h2⟩:=pZ (k:=j) R
 cases e:aR j m with
 |none=>rw[h2 e];exact ru
 |some t=>obtain⟨v,ev,rv⟩:=h1 t e;rw[ev];exact rv
theorem Ij (ho:TV G k X o fo)(he:TV G k X e fe)(hf:TV G k X c ff)(m:autoParam (M2 X o "get" fE e c iE) zp_9):TV G k X (.Call (.Attribute o "get" fE) [e,c] [] iE) (Ii fo fe ff):=.mk<|λox=>(Nc ox.hu1 (ho ox) (he ox) (hf ox) m).wk λσ H Q h=>by
 obtain⟨w,S,τ,hr,sl,q⟩:=h;refine⟨w,S,τ,hr,sl,(bh.aF q).mono λx H1 jf=>?_⟩
 obtain⟨w1,S1,t,c8,bK,r1,_,q1⟩:=jf;split at q1
 ·rename_i hck
  obtain⟨n,rfl,e2,hd⟩:=acJ bK r1 hck;refine⟨_,e2,hd,w1,S1,τ,bK,sl.mono c8,(bh.aF q1).mono λy H2 ku=>?_⟩
  obtain⟨w2,S2,j,fG,dP,r2,_,q2⟩:=ku;refine⟨w2,S2,τ,dP,(sl.mono c8).mono fG,(bh.aF q2).mono λz H3 kC=>?_⟩
  obtain⟨w3,S3,u,mz,pV,r3,_,q3⟩:=kC;split at q3
  ·rename_i mm qk em ek
   obtain⟨n',aU,e4,_,_,h4,R⟩:=As pV (RT.mono (fG.trans mz) _ _ r1) em
   cases e4;rw[(fG.trans mz).r _ r1.cS.1] at h4;refine⟨mq aU qk,by rw[iI ek (RT.mono mz _ _ r2)];exact oZ.k h4,q3 w3 H3 _ (.refl _) pV (KL R r3)⟩
  ·exact q3.elim
 ·exact q1.elim
noncomputable def OB (f:Em):Em:=λτ S=>(f τ S).aF λt S1=>match t with
 |.str x=>if x.length<=sizeLine then .ok (.str x) S1 else .aG
 |.int i=>if i.natAbs.log2<1920 then .ok (.str (toString i)) S1 else .aG
 |_=>.aG
theorem OC (h:TV G k X a fo):TV G k X (.FormattedValue a (-1) none pos) (OB fo):=.mk<|λox=>(abL (h ox)).wk λσ H Q h=>by
 obtain⟨w,S,τ,hr,sl,q⟩:=h;refine⟨w,S,τ,hr,sl,(bh.aF q).mono λx H1 pW=>?_⟩
 obtain⟨w1,S1,t,c8,bK,r1,_,q1⟩:=pW;split at q1
 ·split at q1
  ·exact .inl ⟨_,cJ r1,by assumption,q1 w1 H1 _ (.refl _) bK lq⟩
  ·exact q1.elim
 ·split at q1
  ·exact .inr ⟨_,bA r1,by assumption,q1 w1 H1 _ (.refl _) bK lq⟩
  ·exact q1.elim
 ·exact q1.elim
noncomputable def fJ:List Em->Str->Em
 |[],bY,_,S=>if bY.length<=sizeLine then .ok (.str bY) S else .aG
 |f::r,bY,τ,S=>(f τ S).aF λt S1=>match t with|.str y=>if (bY++y).length<=sizeLine then fJ r (bY++y) τ S1 else .aG|_=>.aG
structure TVJ (G:Gx) (k:Nat) (X:Cx) (es:List Expr) (fs:List Em):Prop where
 jE:jH G k X->PJ X es (λbY=>fK G (fJ fs bY))
noncomputable instance {G:Gx}{k:Nat}{X:Cx}{es:List Expr}{fs:List Em}:CoeFun (TVJ G k X es fs) (λ_=>jH G k X->PJ X es (λbY=>fK G (fJ fs bY))):=⟨TVJ.jE⟩
theorem OD:TVJ G k X [] []:=.mk<|λ_ bY ah s σ H Q I ⟨w,S,τ,hr,sl,q⟩=>abN bY ah s σ H Q I (by
 unfold fJ at q;split at q
 ·exact⟨by assumption,q w H _ (.refl w) hr lq⟩
 ·exact q.elim)
theorem Ik (h1:TV G k X e f)(h2:TVJ G k X es fs):TVJ G k X (e::es) (f::fs):=.mk<|λox bY ah s σ H Q I ⟨w,S,τ,hr,sl,q⟩=>Ue (h1 ox) (h2 ox) bY ah s σ H Q I ⟨w,S,τ,hr,sl,(bh.aF q).mono λx H1 ji=>by
 obtain⟨w1,S1,t,c8,bK,r1,_,q1⟩:=ji;split at q1
 ·split at q1
  ·exact⟨_,cJ r1,by assumption,w1,S1,τ,bK,sl.mono c8,q1⟩
  ·exact q1.elim
 ·exact q1.elim⟩
theorem Il (h:TVJ G k X (a::b::es) fs):TV G k X (.JoinedStr (a::b::es) pos) (fJ fs Str.empty):=.mk<|λox=>Ug (h ox)
end
structure qG (K:W.Frag) (mg:Str->Option Value) (x:Str) (st:Stmt) (ps:List Str) (f:Addr) (fd:FuncData):Prop where
 F:Nq K x x st f fd
 m:mg x=some (.ref f)
 b:dQ K fd ps []
structure i6 (K:W.Frag) (C:Addr) (x bX:Str) (st:Stmt) (ps:List Str) (f:Addr) (fd:FuncData):Prop where
 F:Nq K x bX st f fd
 M:cL K C x f
 b:dQ K fd ps []
structure OE (K:W.Frag) (mg:Str->Option Value) (x:Str) (C f:Addr):Prop where
 m:mg x=some (.ref C)
 c:sj K C
 k:Mk K C f
theorem aB:fH eL X E:=λ_ _ _ _ _ _ _ h=>h.elim
noncomputable def RS.seq (r:RS)(g:Sm):RS:=match r with|.nx eN S1=>g eN S1|r=>r
noncomputable def RS.fu (r:RS):R Tr:=match r with|.nx _ S'=>.ok .bz S' | .rt t S'=>.ok t S' | _=>.aG
theorem acK (f g:Sm)(τ:En)(S:Cs):ao f g τ S=(f τ S).seq g:=rfl
theorem Cq (N:List Str)(sb:Sm)(ts:List Tr)(S:Cs):dw N sb ts S=(sb (gO N ts) S).fu:=rfl
theorem U1 {α β:Type}{c:Prop}(a b:R α)(k:α -> Cs->R β):(xB c a b).aF k=xB c (a.aF k) (b.aF k):=by unfold xB;split<;>rfl
theorem OF {α:Type}{c:Prop}(a b:R α)(k:α -> Cs->RS):(xB c a b).bR k=xB c (a.bR k) (b.bR k):=by unfold xB;split<;>rfl
theorem U3 {c:Prop}(a b:RS)(g:Sm):(xB c a b).seq g=xB c (a.seq g) (b.seq g):=by unfold xB;split<;>rfl
theorem U4 {c:Prop}(a b:RS):(xB c a b).fu=xB c a.fu b.fu:=by unfold xB;split<;>rfl
theorem acL (τ:En)(S:Cs)(g:Sm):(RS.nx τ S).seq g=g τ S:=rfl
theorem acM (t:Tr)(S:Cs)(g:Sm):(RS.rt t S).seq g = .rt t S:=rfl
theorem U5 (g:Sm):RS.aG.seq g = .aG:=rfl
theorem acN (τ:En)(S:Cs):(RS.nx τ S).fu = .ok .bz S:=rfl
theorem uD (t:Tr)(S:Cs):(RS.rt t S).fu = .ok t S:=rfl
theorem U6:RS.aG.fu = .aG:=rfl
theorem OG (τ:En)(S:Cs)(g:Sm):Xq (.nx τ S) g=g τ S:=rfl
theorem ai0 (τ:En)(S:Cs)(g:Sm):Xq (.ct τ S) g=g τ S:=rfl
theorem Xr (t:Tr)(S:Cs)(g:Sm):Xq (.rt t S) g = .rt t S:=rfl
theorem bH {n:Nat}(h:n<=1000000):(n<=sizeLine)=True:=eq_true (zag h (by decide))
theorem jm {n:Nat}(h:n<1000000):(n<sizeLine)=True:=eq_true (zak h (by decide))
theorem iy {α:Type}(a:α)(S:Cs):iB (.ok a S) = .ok a S:=rfl
theorem acO {p:Prop}[Decidable p]:(decide p=true)=p:=propext decide_eq_true_iff
theorem ai1 {α:Type}(a b:α):(if True then a else b)=a:=if_pos trivial
theorem an5 {α:Type}(a b:α):(if False then a else b)=b:=if_neg id
theorem OH {b:Tr->En->Cs->R En}{f:Sm}{τ:En}{S:Cs}:fS (λ_=>True) b f [] τ S = .nx τ S:=by unfold fS;rw[if_pos trivial]
theorem KN {b:Tr->En->Cs->R En}{f:Sm}{t:Tr}{r:List Tr}{τ:En}{S:Cs}:fS (λ_=>True) b f (t::r) τ S=(b t τ S).bR λeN S1=>Xq (f eN S1) (fS (λ_=>True) b f r):=by
 conv=>lhs;unfold fS
 rw[if_pos trivial]
theorem ym {b:Tr->En->Cs->R En}{c:En->Cs->R Bool}{f:Em}{τ:En}{bY:List Tr}{S:Cs}:dh (λ_=>True) b c f [] τ bY S = .ok bY S:=by unfold dh;rw[if_pos trivial]
theorem uE {b:Tr->En->Cs->R En}{c:En->Cs->R Bool}{f:Em}{t:Tr}{r:List Tr}{τ:En}{bY:List Tr}{S:Cs}:dh (λ_=>True) b c f (t::r) τ bY S =
  (iB (b t τ S)).aF λeN S1=>(iB (c eN S1)).aF λx S2=>if x=true then (iB (f eN S2)).aF λu S3=>(if bY.length<sizeLine then dh (λ_=>True) b c f r eN (bY++[u]) S3 else .aG) else dh (λ_=>True) b c f r eN bY S2:=by
 conv=>lhs;unfold dh
 rw[if_pos trivial]
theorem q8 {b:Tr->En->Cs->R En}{c:En->Cs->R Bool}{f:Em}{S:Cs}(τ0:En)(P:En->Prop)(g:Tr->Tr)(keep:Tr->Bool)
  : ∀(l:List Tr) (τ:En) (bY:List Tr),P τ -> (∀t∈l,∀ τ,P τ -> ∃eN,P eN/\b t τ S = .ok eN S/\c eN S = .ok (keep t) S/\(keep t=true->f eN S = .ok (g t) S))->bY.length+l.length<=1000000 ->
   dh (λ_=>True) b c f l τ bY S = .ok (bY++(l.filter keep).map g) S
 |[],τ,bY,hτ,h,hl=>by rw[ym];simp
 |t::r,τ,bY,hτ,h,hl=>by
  obtain⟨eN,p1,e1,e2,e3⟩:=h t (by simp) τ hτ
  rw[uE,e1,iy,R.dZ,e2,iy,R.dZ];have HH:bY.length+1+r.length<=1000000:=by simp at hl;omega
  cases hk:keep t with
  |true =>
   rw[if_pos rfl,e3 hk,iy,R.dZ,if_pos (zak (by omega:bY.length<1000000) (by decide)),q8 τ0 P g keep r eN _ p1 (λu hu=>h u (by simp[hu])) (by simp;omega)]
   simp[zbX,hk]
  |false =>
   rw[if_neg zal,q8 τ0 P g keep r eN _ p1 (λu hu=>h u (by simp[hu])) (by omega)]
   simp[zbX,hk]
theorem U7 {α:Type}(l:List α)(a b:α):(l++[a]).set l.length b=l++[b]:=by
 induction l with
 |nil=>rfl
 |cons x r ih=>simp only[zaL,zaF,zdp,ih]
theorem qf {α:Type}(l:List α)(a:α):(l++[a])[l.length]? = some a:=by simp
theorem KO (S:Cs)(l:List Tr):cM (S++[.bS l]) S.length=some l:=by unfold cM;rw[qf]
open Classical in
theorem fM {q:Fn}{ts:List Tr}{S S1:Cs}{t u:Tr}(h:q ts S = .ok t S1)(h1:S1.take S.length=S)(h2:o_ S.length S1 t=some u):l5 q ts S = .ok u S:=by
 unfold l5;rw[h];show (if S1.take S.length=S then _ else _)=_
 rw[if_pos h1,h2]
theorem yo (S:Cs)(T:List Ce):(S++T).take S.length=S:=by simp
theorem gf (m:Nat):∀l:List Tr,Tr.j7 m l=l.all (Tr.aF m)
 |[]=>by unfold Tr.j7;rfl
 |t::l=>by unfold Tr.j7;rw[gf m l];rfl
theorem gh:∀l:List Tr,Tr.mE l=l.all Tr.nM
 |[]=>by unfold Tr.mE;rfl
 |t::l=>by unfold Tr.mE;rw[gh l];rfl
theorem qg {m:Nat}{i:Int}:Tr.aF m (.int i)=true:=by unfold Tr.aF;rfl
theorem lG {m:Nat}{i:Str}:Tr.aF m (.str i)=true:=by unfold Tr.aF;rfl
theorem OI {m:Nat}{i:Bool}:Tr.aF m (.bl i)=true:=by unfold Tr.aF;rfl
theorem Im {m:Nat}:Tr.aF m .bz=true:=by unfold Tr.aF;rfl
theorem pe {m:Nat}{l:List Tr}:Tr.aF m (.tp l)=l.all (Tr.aF m):=by unfold Tr.aF;exact gf m l
theorem acP {m:Nat}{l:List Tr}:Tr.aF m (.ls l)=l.all (Tr.aF m):=by unfold Tr.aF;exact gf m l
noncomputable def Io (K:W.Frag):Sp:=λvs H Q _=>∃(a:Addr) (ns:List Int),vs=[.ref a]/\jC K H a (ns.map V.int)/\ns.length<=63/\∀H',Q (.bl true) H'
theorem acQ {P:Program}{w:World}{K:W.Frag}{mg:Str->Option Value}{base:Heap}{CX:BE}{j:Nat}{f:Addr}{fd:FuncData}{ps:List Str}{cl:Str->Addr}{q:Fn}(F:aO P w K mg base CX j f fd ps (dM K cl 1 q))
  (h:∀ns:List Int,ns.length<=63->∃S,q [.kl (ns.map Tr.int)] [] = .ok (.bl true) S):aO P w K mg base CX j f fd ps (Io K):=F.imp λvs H Q E cA=>by
 obtain⟨a,ns,ev,hS,hl,k⟩:=cA;subst ev;obtain⟨S,e⟩:=h ns hl;refine⟨⟨K,0,λ_=>0,H,λ_=>none⟩,[],[.kl (ns.map Tr.int)],⟨rfl,rfl,?_,λi c e=>(by simp at e),λi j ⟨c,e,_⟩=>(by simp at e),λb o e=>(by cases e),λi ⟨c,e,_⟩=>(by simp at e),λb xs e=>(by cases e)⟩,.cons ?_ .nil,rfl,?_⟩
 ·funext b
  unfold Fz;rw[if_neg];rintro (⟨i,⟨c,e,_⟩,_⟩|z)
  ·simp at e
  ·exact z rfl
 ·unfold RT
  exact⟨a,_,rfl,hS,bL.ints ns⟩
 ·rw[e]
  intro w' H' v _ _ rv;rw[qV rv];exact k H'
noncomputable def an6 (t:Tr)(x:R Tr)(S:Cs):R Tr:=match t with|.bl true=>x|.bl false=>.ok (.bl false) S|_=>.aG
noncomputable def orV (t:Tr)(x:R Tr)(S:Cs):R Tr:=match t with|.bl true=>.ok (.bl true) S|.bl false=>x|_=>.aG
theorem KP {p:Prop}[Decidable p]{a b:Bool}{S:Cs}:(if p then R.ok (Tr.bl a) S else R.ok (Tr.bl b) S)=R.ok (Tr.bl (if p then a else b)) S:=by split<;>rfl
theorem AB {α:Type}{l:List α}{n:Int}{m:Int}(hm:m=l.length)(h0:0<m):∃t,t∈l/\iX l (n % m)=some t:=by
 have h1:=zcA n (by omega:m≠0)
 have h2:=zci n h0;obtain⟨j,hj⟩:=zbI h1;have Ip:j<l.length:=by omega
 exact⟨l[j],zcr Ip,by rw[hj];exact iw (zaf Ip)⟩
theorem qh {lo:Int}{n i:Nat}{t:Tr}(h:(sN lo n)[i]? = some t):i<n/\t = .int (lo+i):=by
 unfold sN at h;rw[zat] at h;have jU:i<n:=by
  cases ec:(List.range n)[i]? with
  |none=>rw[ec] at h;cases h
  |some c=>simpa using (zab.mp ec).1
 rw[zde jU] at h;cases h;exact⟨jU,rfl⟩
theorem qi {lo:Int}{n:Nat}:(sN lo n).length=n:=by simp[sN]
end L2
namespace L2
open PySem PySem.Spec PyProof.Rows
theorem pq {st:Nat}{l:List Tr}{i:Nat}{t:Tr}(h:(rW st l)[i]? = some t):∃u,l[i]? = some u/\t = .tp [.int ((st:Int)+(i:Int)),u]:=by
 obtain⟨u,e,rfl⟩:=yk h;exact⟨u,e,by rw[zbD]⟩
end L2
namespace L2
open PySem PySem.Spec PyProof.Rows
theorem uF:∀{l m:List Char},l.map Char.toNat=m.map Char.toNat->l=m
 |[],[],_=>rfl
 |[],_::_,h=>by simp at h
 |_::_,[],h=>by simp at h
 |a::l,b::m,h=>by
  simp only[zas,List.cons.injEq] at h;rw[uF h.2,Char.ext (UInt32.toNat_inj.mp h.1)]
theorem U8 {a b:String}:(Str.ofString a=Str.ofString b)=(a=b):=by
 apply propext
 constructor
 ·intro h
  rw[Str.ofString_eq_byList] at h;unfold Str.ofStringByList at h;simp only[Str.mk.injEq] at h;have h2:a.toList.map Char.toNat=b.toList.map Char.toNat:=by simpa using h
  exact String.toList_inj.mp (uF h2)
 ·rintro rfl;rfl
theorem uG {g8:Cs->Prop}{b:Tr->En->Cs->R En}{c:En->Cs->R Bool}{f:Em}{τ:En}{bY:List Tr}{S:Cs}(h:g8 S):dh g8 b c f [] τ bY S = .ok bY S:=by unfold dh;rw[if_pos h]
theorem rX {g8:Cs->Prop}{b:Tr->En->Cs->R En}{c:En->Cs->R Bool}{f:Em}{t:Tr}{r:List Tr}{τ:En}{bY:List Tr}{S:Cs}(h:g8 S):dh g8 b c f (t::r) τ bY S =
  (iB (b t τ S)).aF λeN S1=>(iB (c eN S1)).aF λx S2=>if x=true then (iB (f eN S2)).aF λu S3=>(if bY.length<sizeLine then dh g8 b c f r eN (bY++[u]) S3 else .aG) else dh g8 b c f r eN bY S2:=by
 conv=>lhs;unfold dh
 rw[if_pos h]
theorem jn {α:Type}{g8:Cs->Prop}{b:Tr->En->Cs->R En}{c:En->Cs->R Bool}{f:Em}{S:Cs}(hS:g8 S)(P:En->Prop)(k:α -> Tr)(g:α -> Tr)(keep:α -> Bool)
  : ∀(l:List α) (τ:En) (bY:List Tr),P τ -> (∀a∈l,∀ τ,P τ -> ∃eN,P eN/\b (k a) τ S = .ok eN S/\c eN S = .ok (keep a) S/\(keep a=true->f eN S = .ok (g a) S))->bY.length+l.length<=1000000 ->
   dh g8 b c f (l.map k) τ bY S = .ok (bY++(l.filter keep).map g) S
 |[],τ,bY,hτ,h,hl=>by rw[zbM,uG hS];simp
 |t::r,τ,bY,hτ,h,hl=>by
  obtain⟨eN,p1,e1,e2,e3⟩:=h t (by simp) τ hτ
  rw[zas,rX hS,e1,iy,R.dZ,e2,iy,R.dZ];have HH:bY.length+1+r.length<=1000000:=by simp at hl;omega
  cases hk:keep t with
  |true =>
   rw[if_pos rfl,e3 hk,iy,R.dZ,if_pos (zak (by omega:bY.length<1000000) (by decide)),jn hS P k g keep r eN _ p1 (λu hu=>h u (by simp[hu])) (by simp;omega)]
   simp[zbX,hk]
  |false =>
   rw[if_neg zal,jn hS P k g keep r eN _ p1 (λu hu=>h u (by simp[hu])) (by omega)]
   simp[zbX,hk]
theorem FF {α β γ:Type}(f:α -> Bool)(g:α -> γ):∀{l:List α} {l':List β},l'.length=l.length->((l.zip l').filter λp=>f p.1).map (λp=>g p.1)=(l.filter f).map g
 |[],_,_=>by simp
 |a::l,[],h=>by simp at h
 |a::l,b::l',h=>by
  have h':l'.length=l.length:=by simpa using h
  rw[zdq,zbX,zbX];cases f a
  ·simp only[zch,if_false];exact FF f g h'
  ·simp only[if_true,zas];rw[FF f g h']
theorem Iq {α β γ:Type}(g:β -> γ):∀{l:List α} {l':List β},l'.length=l.length->(l.zip l').map (λp=>g p.2)=l'.map g
 |[],[],_=>rfl
 |[],_::_,h=>by simp at h
 |a::l,[],h=>by simp at h
 |a::l,b::l',h=>by
  have h':l'.length=l.length:=by simpa using h
  rw[zdq,zas,zas,Iq g h']
theorem OJ {α β:Type}:∀{l:List α} {l':List β} {p:α × β},p∈l.zip l'->∃j:Nat,l[j]? = some p.1/\l'[j]? = some p.2
 |[],_,p,h=>by simp at h
 |_::_,[],p,h=>by simp at h
 |a::l,b::l',p,h=>by
  rw[zdq] at h;rcases zam.mp h with rfl|h
  ·exact⟨0,rfl,rfl⟩
  ·obtain⟨j,h1,h2⟩:=OJ h
   exact⟨j+1,by simpa using h1,by simpa using h2⟩
theorem HR.ext (h:HR G w S H)(k:∀b o,H b=some o->H' b=some o):HR G {w with F:=Fz w.ρ w.hid S H' } S H'/\w.le {w with F:=Fz w.ρ w.hid S H' }:=by
 have hF:∀b o,w.F b=some o->Fz w.ρ w.hid S H' b=some o:=λb o e=>by
  rw[h.F] at e;unfold Fz at e ⊢
  split at e
  ·cases e
  ·rename_i hn
   rw[if_neg hn];exact k b o e
 have le:w.le {w with F:=Fz w.ρ w.hid S H' }:=⟨rfl,zah _,λ_ _=>rfl,hF,rfl⟩
 exact⟨⟨h.K,h.n,rfl,λi c e=>(h.cell i c e).mono le λu eu=>k _ _ eu,h.inj,λb o e=>k b o (h.hid b o e),h.kE,h.hl⟩,le⟩
section
variable {P:Program}{q_:World}{K:W.Frag}{mg:Str->Option Value}{base:Heap}{N:List Str}{bX:Str}{scope:Scope}{f:Addr}{fB:Value}{A:Around}{outer:List Env}{s₀:Shared}{H₀:Hp}{E:XK}{cl:Str->Addr}{k:Nat}
noncomputable def OL (C:Addr)(n:Nat)(g:List V->List (Str×V)):Sp:=λvs H Q _=>∃(a:Addr) (xs:List V),vs = .ref a::xs/\xs.length=n/\H a=some (EO a C none) /\
 ∀(d:Addr) (H':Hp),H d=none->H' a=some (EO a C (some d))->H' d=some (ED d (g xs))->(∀b o,H b=some o->b≠a->H' b=some o)->Q .bz H'
theorem HR.acR (h:HR G w S H)(hx:H x=none)(hd:H d=none)(dx:d≠x)(h2x:H2 x=some (EO x (G.cl c) (some d)))(h2d:H2 d=some (ED d pR))
  (kp:∀b o,H b=some o->H2 b=some o) (hT:H2 T=none) (Tx:T≠x) (r:RK w fs pR):∃w',w.le w'/\w'.ρ S.length=x/\HR G w' (S++[.oQ c fs]) (bG (bG H2 x (o6 x (G.cl c) (some d) T)) T (TB T)):=by
 have h3:∀b o,H b=some o->(λb=>if b=x then none else H2 b) b=some o:=λb o e=>by
  show (if b=x then none else H2 b)=some o
  rw[if_neg λz=>by subst z;rw[hx] at e;cases e]
  exact kp b o e
 obtain⟨dP,fG⟩:=h.ext (H':=λb=>if b=x then none else H2 b) h3
 have hT3:(λb=>if b=x then none else H2 b) T=none:=by
  show (if T=x then none else H2 T)=none
  rw[if_neg Tx,hT]
 obtain⟨pV,mz⟩:=dP.lay hT3 (TB T)
 have dT:d≠T:=λz=>by rw[z,hT] at h2d;cases h2d
 have hp:bG (λb=>if b=x then none else H2 b) T (TB T) x=none:=by
  rw[au Tx.symm];show (if x=x then none else H2 x)=none
  rw[if_pos rfl]
 have hH:bG (bG (λb=>if b=x then none else H2 b) T (TB T)) x (o6 x (G.cl c) (some d) T)=bG (bG H2 x (o6 x (G.cl c) (some d) T)) T (TB T):=by
  funext b
  by_cases b1:b=x
  ·subst b1
   rw[av,au Tx.symm,av]
  ·rw[au b1]
   by_cases b2:b=T
   ·subst b2
    rw[av,av]
   ·rw[au b2,au b2,au b1]
    show (if b=x then none else H2 b)=_
    rw[if_neg b1]
 have Oc:=Wd.uq { {w with F:=Fz w.ρ w.hid S λb=>if b=x then none else H2 b} with F:=bG (Fz w.ρ w.hid S λb=>if b=x then none else H2 b) T (TB T)} x
 obtain⟨Mw,_⟩:=pV.Kv hp (o:=o6 x (G.cl c) (some d) T) (c:=.oQ c fs) rfl (by
  refine⟨T,d,pR,av,av,?_,Tx,dx,r.mono (fG.trans (mz.trans Oc))⟩
  show bG (Fz w.ρ w.hid S λb=>if b=x then none else H2 b) T (TB T) d=_
  rw[au dT];unfold Fz;rw[if_neg (h.free hd)];show (if d=x then none else H2 d)=_
  rw[if_neg dx,h2d])
 rw[hH] at Mw;refine⟨_,fG.trans (mz.trans Oc),?_,Mw⟩
 show (if S.length=w.n then x else w.ρ S.length)=x
 rw[if_pos h.n.symm]
noncomputable def s_ (c:Str)(n:Nat)(gT:List Tr->List (Str×Tr))(FG:List Tr)(fr:En->Cs->R (List Tr)):Sm:=λτ S=>(fr τ S).bR λts S1=>if ts.length+FG.length=n/\n<=1000 then .ex S1.length (S1++[.oQ c (gT (ts++FG))]) else .aG
theorem Cr 
  (M:iY K (cl c) fi bm) (F:aO P q_ K mg base eL j fi fd ps (OL (cl c) n g)) (hj:j+1<=k) (hm:mg x=some (.ref (cl c))) (hb:dQ K fd ps ds) (hd:bO mS ds) (hdt:∀w,bL w FG mS) (hg:∀w ts vs,bL w ts vs->ts.length=n->RK w (gT ts) (g vs))
  (ha:xm ⟨K,cl,E⟩ k (iN (oh P q_) P q_ K mg base N bX scope f fB A outer s₀ H₀ E) (e::es) fr)
  (hgl:autoParam (Gl (iN (oh P q_) P q_ K mg base N bX scope f fB A outer s₀ H₀ E) x) zp_0) (tZ:autoParam ((x == ("__debug__" : Str))=false) zp_1) (hs:autoParam (c_ e=false) zp_0) (Mv:autoParam (cX es=true) zp_0) (sZ:autoParam (0<k) zp_2):
  An ⟨K,cl,E⟩ k (iN (oh P q_) P q_ K mg base N bX scope f fB A outer s₀ H₀ E) (.Raise (some (.Call (.Name x p) (e::es) [] iE)) none pos) (s_ c n gT FG fr):=.mk<|λox =>
 (NR (abF (X:=iN (oh P q_) P q_ K mg base N bX scope f fB A outer s₀ H₀ E) (E:=E0) M F ((ox.room sZ).mono hj) hgl hm hb hd (λ_ _ _ _ _ _ _ h=>h.elim) (ha ox) tZ (cE hs) (dS Mv))).wk λD σ H h=>by
  obtain⟨w,S,τ,hr,sl,q⟩:=h;refine⟨w,S,τ,hr,sl,(cG.aF q).mono λvs H1 cA=>?_⟩
  obtain⟨w1,S1,ts,c8,bK,r1,_,q1⟩:=cA;split at q1
  ·rename_i hn
   have hl:vs.length<=1000:=by rw[r1.len];omega
   refine⟨hl,λx' Xc=>⟨x',vs++mS,rfl,?_,av,λd H' Si e1 e2 kp=>⟨rfl,x',cl c,fi,bm,some d,rfl,e1,M,λT hT Tx=>?_⟩⟩⟩
   ·rw[zaj,r1.len,(hdt w1).len];exact hn.1
   ·have dx:d≠x':=λz=>by rw[z,av] at Si;cases Si
    have hd2:H1 d=none:=by rw[au dx] at Si;exact Si
    obtain⟨w',le',ρx,ow⟩:=bK.acR (c:=c) (fs:=gT (ts++FG)) (pR:=g (vs++mS)) Xc hd2 dx e1 e2 (λb o eb=>kp b o (by rw[au λz=>by rw[z,Xc] at eb;cases eb];exact eb) λz=>by rw[z,Xc] at eb;cases eb) hT Tx (hg w1 _ _ (r1.sV (hdt w1)) (by rw[zaj];exact hn.1))
    obtain⟨c',Ms,ec,kk⟩:=q1;have ec2:c'=c:=by
     simp only[qf] at ec;cases ec;rfl
    subst ec2
    have:=kk w' _ le' ow
    rw[ρx] at this;exact this
  ·exact q1.elim
noncomputable def Sv (N:List Str)(sb:Sm):Fn:=λts S=>match sb (gO N ts) S with|.nx _ S'=>.ok .bz S' | .rt t S'=>.ok t S' | .ex n S'=>.ex n S' | _=>.aG
theorem uH {st:Stmt}(F:Nq K x bX st f fd)(Sc:aq N ps (aj st))
  (hb:∀fB A outer s H E,HW ⟨K,cl,E⟩ k (iN (oh P q_) P q_ K mg base N bX (aj st) f fB A outer s H E) (cI st) sb):aO P q_ K mg base (oh P q_) (k+1) f fd ps (dM K cl ps.length (Sv N sb)):=by
 refine F.okX Sc (λvs H Q E dR=>by obtain⟨w,S,ts,hr,r,hn,_⟩:=dR;rw[r.len,hn]) λfB A outer s H vs Q E hr fj=>?_
 obtain⟨w,S,ts,Su,r,hn,q⟩:=fj;refine⟨_,hb fB A outer s H E ⟨rfl,λ_=>rfl,λ_=>hr,zcF (Nat.add_le_add_right (zcq _ _) 200) hr.un⟩,w,S,gO N ts,Su,Sl.dg N r,?_⟩
 unfold Sv at q;cases e:sb (gO N ts) S with
 |nx qe S'=>rw[e] at q;exact λw' H' dX le ow Bw=>q w' H' _ le ow ur
 |rt t S'=>rw[e] at q;exact λw' H' v le ow rv=>q w' H' v le ow rv
 |bk qe S'=>rw[e] at q;exact q.elim
 |ct qe S'=>rw[e] at q;exact q.elim
 |ex qe S'=>rw[e] at q;exact q
 |aG=>rw[e] at q;exact q.elim
end
theorem AD (hC:s.heap.get? C=some (excClassObj nm q C N bs bm sD sn sub ab qQ dd k0 k1 k2 k3 k5 oO))(hB:s.heap.get? B=some (excClassObj NS q' B N' NT bm' mV NU ug NV uh xU j0 j1 j2 j3 j5 jg))
  (he:s.heap.get? a=some oe) (MH:oe.cls = .ref C) (hb:bm'.contains (.type "BaseException")=true) (h2:(Value.ref C::bm).contains (.ref B)=true) (hq:Q true s):wpAny M A (excMatches (.ref a) (.ref B)) Q E s:=by
 have h1:(Value.ref B::bm').contains (.type "BaseException")=true:=by rw[zaW,hb,zcC]
 have f:=tc_notTuple;obtain⟨hp,g,d,tk,os⟩:=s;unfold excMatches;repeat (first | (with_reducible refine zbE he ?_;rw[MH])|with_reducible refine zbE hB ?_ | (with_reducible refine zcv hB ?_;rw[h1]) | (with_reducible refine zcv hC ?_;rw[h2])|wp_step)
 exact hq
noncomputable def tR.ai4 (D:tR)(l:Nat):tR:={nx:=λσ H=>D.nx (σ.set l none) H,bk:=λσ H=>D.bk (σ.set l none) H,ct:=λσ H=>D.ct (σ.set l none) H,rt:=D.rt}
noncomputable def U9 (K:W.Frag)(B:Addr)(kk:Addr->Hp->Prop):XK:=λcls oa H2=>∃(a C f:Addr) (bm:List Value) (od:Option Addr) (T:Addr),oa=some a/\cls = .ref C/\iY K C f bm/\(Value.ref C::bm).contains (.ref B)=true /\
 H2 a=some (o6 a C od T)/\H2 T=some (TB T)/\T≠a/\∀T',H2 T'=none->T'≠a->kk a (bG (bG H2 a (o6 a C od T')) T' (TB T'))
noncomputable def acS (K:W.Frag)(C:Addr)(m:Str)(B:Addr)(l:Nat)(sp:Sp)(ta:TE)(t:TA)(ts:TS):TS:=λD σ H=>BF C m sp [] (U9 K B λa H'=>ts (D.ai4 l) (σ.set l (some (.ref a))) H') ta t σ H λ_ H3=>D.nx σ H3
section
variable {X:Cx}{k:Nat}{g B C:Addr}{fd:FuncData}{ps:List Str}{sp:Sp}{e o:Expr}{es:List Expr}{ta:TE}{t:TA}{n m cB:Str}{l:Nat}{p cp ap np ep hp pos:Pos}{gZ:List Stmt}{mG:Stmt}{ts:TS}
 {NS q':Str} {N':Addr} {NT bm':List Value} {mV:Bool} {NU:List Str} {ug:List Value} {NV:Bool} {uh:Option Bool} {xU:Option Addr} {j0 j1 j2 j3 j5:Option Value} {jg:String}
theorem yq {D:tR}(Ir:X.e_=true)(rm:X.cR=X.env::X.outer)(BY:X.env.frame=some X.env.locals)(OM:Gl X cB)(ON:X.mg cB=some (.ref B))
  (hB:X.K.lookup B=some (excClassObj NS q' B N' NT bm' mV NU ug NV uh xU j0 j1 j2 j3 j5 jg)) (U_:bm'.contains (.type "BaseException")=true) (KQ:(cB == ("__debug__" : Str))=false)
  (I1:aK X ah σ H1 s1) (hq:oh X.prog X.w X.cR H1 s1 (U9 X.K B kk) ev s')
  (hs:∀a C od T' s4 H4,ev = .ref a->H4 a=some (o6 a C od T')->H4 T'=some (TB T')->aK (X.iP a) ah σ H4 s4->kk a H4->codeAny (model X.prog X.w) (X.A.mark (some (.ref a))) (.handlers (.ref a) [.ExceptHandler none name (mG::gZ) hp] X.env) (λr mQ=>match r with
     |.ok f=>(match name with
      |none=>SP X ah D f mQ
      |some n=>wpAny (model X.prog X.w) X.A (do bindName X.env n .none;unbindBehindTheSuite X.env n hp) (λ_ xu=>SP X ah D f xu) X.xe mQ)
     |.error x=>cameBackBy (model X.prog X.w) X.A X.env X.xe x mQ) s4):
  wpAny (model X.prog X.w) X.A (noteFrame ev X.env) (λ_ mQ=>wpAny (model X.prog X.w) X.A (setFlight ev none) (λ_ xu=>wpAny (model X.prog X.w) X.A (handleBy ev X.env [.ExceptHandler (some (.Name cB np)) name (mG::gZ) hp]) (SP X ah D) X.xe xu) X.xe mQ) X.xe s':=by
 obtain⟨a,_,_,_,H2,rfl,Tv,OO,un,cF,_,_,_,a9,C,f,bm,od,T,ea,ec,Mk,xD,Xf,Xs,Ta,kq⟩:=hq;cases ea;have I2:aK X ah σ H2 s':=I1.Bx (ch:=[]) Tv un cF OO (λb z=>absurd z (by simp))
 obtain⟨t0,ga⟩:=(show ∃t,s'.heap.get? a=some (gY C od t (.ref T)) from (I2.cF a _ Xf).1)
 have gT:uf s'.heap T:=(I2.cF T _ Xs).1
 have kR:s'.heap.FunFrames X.base (X.env::X.outer):=by rw[<-rm];exact I2.xr.kR
 have frames:X.A.frames=some (X.env::X.outer):=by rw[<-rm];exact I2.ok.frames
 refine ya (base:=X.base) frames kR BY ga gT Ta λh1 h' T' k1 tb1 z1 Lf=>?_
 have Ul:T'≠a:=zbS (zak (zan ga) (by rw[<-z1];exact Lf.new))
 have nT':H2 T'=none:=I2.cF.fresh (by rw[<-z1];exact Lf.new)
 have I3:aK X ah σ (bG (bG H2 a (o6 a C od T')) T' (TB T')) {s' with heap:=h' }:=I2.B3 Xf Xs Ta Ul k1 tb1 z1 (by rw[rm];exact Lf)
 have I3m:=I3.iP a;refine wpAny_handleBy_cons (codeAny_handlers_test (nJ I3m OM ON ?_ KQ)) (by intro q;cases q)
 obtain⟨nm,qn,N0,bs,sn,sub,ab,qQ,dd,k0,k1',k2,k3,k5,lk⟩:=Mk.kU;refine AD (I3.nI _ _ lk) (I3.nI _ _ hB) Lf.kU rfl U_ xD ?_
 exact hs a C od T' _ _ rfl (by rw[au Ul.symm,av]) av I3m (kq T' nT' Ul)
theorem uI (I:aK X ah σ H s)(ha:H a=some (o6 a C od T))(hT:H T=some (TB T))
  (h:∀s',aK X ah σ H s'->Q () s'):wpAny M A (setFlight (.ref a) none) Q E s:=by
 obtain⟨t0,e1⟩:=(show ∃t,s.heap.get? a=some (gY C od t (.ref T)) from (I.cF a _ ha).1)
 obtain⟨oT,ts,eT,dT,h3⟩:=(show uf s.heap T from (I.cF T _ hT).1)
 unfold setFlight;refine zaa (zbx e1 rfl (x:=.ref T) rfl ?_)
 rw[if_pos (show (Value.ref T != Value.none)=true from by simp)]
 have sz:=(zdu.mp h3).1
 refine zbJ eT dT sz ?_
 have fT:(s.heap.update T (Obj.mapFields (·.setIfInBounds 3 ((none:Option Addr).elim Value.none λf=>rawInt f)))).get? T=some (Obj.mapFields (·.setIfInBounds 3 ((none:Option Addr).elim Value.none λf=>rawInt f)) oT):=zaR _ eT (zcm (zbp dT _))
 have tb4:uf (s.heap.update T (Obj.mapFields (·.setIfInBounds 3 ((none:Option Addr).elim Value.none λf=>rawInt f)))) T:=⟨_,_,fT,zbp dT _,by simp[sz]⟩
 have I4:=I.jB (x:=T) (e:=T) (o:=TB T) (t':=s.toks) (h':=s.heap.update T (Obj.mapFields (·.setIfInBounds 3 ((none:Option Addr).elim Value.none λf=>rawInt f))))
  (by rw[hT];exact True.intro) (.inl rfl) (λb u nb hb=>(zaD _ _ (zbg nb)).trans hb) ⟨_,fT⟩ (HQ tb4)
 rw[BU hT] at I4;exact h _ I4
theorem OP (Ir:X.e_=true)(rm:X.cR=X.env::X.outer)(BY:X.env.frame=some X.env.locals)(OM:Gl X cB)(ON:X.mg cB=some (.ref B))
  (hB:X.K.lookup B=some (excClassObj NS q' B N' NT bm' mV NU ug NV uh xU j0 j1 j2 j3 j5 jg)) (U_:bm'.contains (.type "BaseException")=true)
  (he:PE X.sS o ta) (c:sj X.K C) (hm:cL X.K C m g) (F:aO X.prog X.w X.K X.mg X.base (oh X.prog X.w) k g fd ps sp) (hr:gJ k X.A) (hb:dQ X.K fd ps []) (ha:PA X.sS (e::es) t)
  (hN:X.N.Nodup) (hl:X.N[l]? = some n) (om:X.env.scope.names.lookup n=some .local) (hs:∀a,xq (X.iP a).sS (mG::gZ) ts)
  (KQ:autoParam ((cB == ("__debug__" : Str))=false) zp_1) (Kn:autoParam (swapsWith (.Call (.Attribute o m ap) (e::es) [] cp) none ep.line X.env=pure false) zp_0)
  (oK:autoParam (starEach (e::es) X.env=(false,eval e X.env)::starEach es X.env) zp_0) (hpl:autoParam ((backTo cp (starEach es X.env)).any (·.1)=false) zp_0)
  (ht:autoParam (eval (.Call (.Attribute o m ap) (e::es) [] cp) X.env=(do
   let ov <-eval o X.env
   standAt ap.atName
   let (f,first) <-holding [ov] (getMethod ov m pl)
   callWith cp f first (backTo cp (starEach (e::es) X.env)) (backToKw cp (keywordEach [] X.env)))) zp_0):
  PS X (.Try [.Expr (.Call (.Attribute o m ap) (e::es) [] cp) ep] [.ExceptHandler (some (.Name cB np)) (some n) (mG::gZ) hp] [] [] pos) (acS X.K C m B l sp ta t ts):=by
 intro ah s σ H D I h;have Va:X.e_=true->X.A.handled=none:=I.ok.hd
 refine wpAny_Try_except (zbR (zec ?_ I.quiet Kn))
 refine W.methodCall_KW (pl:=pl) (zaA (he ah s σ H _ (I.oW _) h) (λu s1 cA=>?_) λ_ _ z=>z.elim) ht
 obtain⟨x,H1,I1',rx,a,dx,fs,ex,ea,lk,q⟩:=cA;have I1:aK X ah σ H1 s1:=I1'.c9
 subst ex;obtain rfl:u=Value.ref a:=rx
 refine kX I1 ea c hm lk ?_
 refine W.callWith_K (first:=[.ref a]) (h₀:= X.base) I.ok.sR.W0 hm.kp (zaA (ha cp ah s1 σ H1 _ I1' q) (λus s2 ⟨vs,H2,I2',r,q2⟩=>⟨I2'.c9.nI,?_⟩) λ_ _ z=>z.elim) oK hpl
 have I2:aK X ah σ H2 s2:=I2'.c9
 have r2:bO (V.ref a::vs) (Value.ref a::us):=.cons rfl r
 have q2:sp (V.ref a::(vs++[])) H2 _ _:=q2
 rw[zau] at q2;have dB:(Value.ref a::us).length=ps.length:=by rw[<-r2.length];exact F.len _ _ _ _ q2
 have aF:=hb s2 (Value.ref a::us) I2.nI (by rw[zau];exact dB)
 rw[zau] at aF;refine zcd (zcl (F.jE X.A X.cR s2 H2 ⟨Value.ref a::us,[]⟩ (Value.ref a::us) (V.ref a::vs) _ _ hr I2.xr aF r2 q2) λrr s' hq=>?_)
 cases rr with
 |ok fl =>
  cases fl with
  |ret u =>
   obtain⟨v,H3,I3,rv,q3⟩:=I2.after hq;exact zbu (zbu ⟨σ,H3,I3,q3⟩)
  |next=>exact False.elim hq
  |brk=>exact False.elim hq
  |cont=>exact False.elim hq
 |error ev =>
  refine yq Ir rm BY OM ON hB U_ KQ I2 hq λa C od T' s4 H4 _ ha4 hT4 I4 kq=>?_
  refine zdF (uI I4 ha4 hT4 λs5 I5=>?_)
  refine mP (X:=X.iP a) I5 hN hl (.inl om) (v:=.ref a) rfl (λs6 I6=>?_) (.inr om)
  refine zaA (hs a ah s6 (σ.set l (some (.ref a))) H4 _ (I6.oW _) kq) (λfl s7 h7=>?_) λ_ _ z=>z.elim
  cases fl with
  |next=>obtain⟨dX,H',I7,q7⟩:=h7;exact jG (I7.c9.iF Va) hN hl om λs8 I8=>⟨_,_,I8,q7⟩
  |brk=>obtain⟨dX,H',I7,q7⟩:=h7;exact jG (I7.c9.iF Va) hN hl om λs8 I8=>⟨_,_,I8,q7⟩
  |cont=>obtain⟨dX,H',I7,q7⟩:=h7;exact jG (I7.c9.iF Va) hN hl om λs8 I8=>⟨_,_,I8,q7⟩
  |ret u=>obtain⟨v,dX,H',I7,r7,q7⟩:=h7;exact jG (I7.c9.iF Va) hN hl om λs8 I8=>⟨v,_,_,I8,r7,q7⟩
end
noncomputable def uJ (S:Cs)(n:Nat):Option (Str×List (Str×Tr)):=match S[n]? with|some (.oQ c fs)=>some (c,fs)|_=>none
theorem g9 (h:uJ S n=some (c,fs)):S[n]? = some (.oQ c fs):=by
 unfold uJ at h;split at h
 ·cases h;assumption
 ·cases h
noncomputable def FH (G:Gx)(cs:List Str)(g:Str):Prop:=∀c∈cs,(∃f bm,iY G.K (G.cl c) f bm)/\W.findIn G.K (.ref (G.cl c)) g=some none
noncomputable def Ct (cs:List Str)(g:Str)(t:Tr)(S:Cs):R Tr:=match t with
 |.hd n=>(match uJ S n with|some (c,fs)=>if c∈cs then (match aR g fs with|some u=>.ok u S|none=>.aG) else .aG|none=>.aG)
 |_=>.aG
noncomputable def Cu (cs:List Str)(g:Str)(fo:Em):Em:=λτ S=>(fo τ S).aF λt S1=>Ct cs g t S1
section
variable {G:Gx}{k:Nat}{X:Cx}{o a:Expr}{fo fa:Em}{pos p p2:Pos}
theorem AE (hf:FH G cs f)(ho:TV G k X o fo)(hb:autoParam (attributeBase o f X.env (eval o X.env)=eval o X.env) zp_0):TV G k X (.Attribute o f pos) (Cu cs f fo):=.mk<|λox=>(NX (ho ox) hb).wk λσ H Q h=>by
 obtain⟨w,S,τ,hr,sl,q⟩:=h;refine⟨w,S,τ,hr,sl,(bh.aF q).mono λx H1 cA=>?_⟩
 obtain⟨w1,S1,t1,c8,bK,r1,_,q1⟩:=cA;unfold Ct at q1;split at q1
 ·split at q1
  ·rename_i c fs ei
   split at q1
   ·rename_i hc
    split at q1
    ·rename_i u eu
     obtain⟨T,d,pR,h1,h2,h3,_,_,h4⟩:=bK.cell _ _ (g9 ei)
     obtain⟨v,ev,rv⟩:=(fL (k:=f) h4).1 u eu
     obtain⟨⟨f',bm,M⟩,hn⟩:=hf c hc
     rw[<-ox.K] at M hn;exact⟨_,_,f',bm,d,T,pR,v,r1.cS.2,h1,bK.sub _ _ h3,M,hn,ev,q1 w1 H1 v (.refl _) bK rv⟩
    ·exact q1.elim
   ·exact q1.elim
  ·exact q1.elim
 ·exact q1.elim
noncomputable def Cv (G:Gx)(u:Value)(se:List (Str×Bool)):Prop:=∀p∈se,(∃f bm,iY G.K (G.cl p.1) f bm)/\W.kitOne G.K (.ref (G.cl p.1)) u=some p.2
noncomputable def yr (c:Str):List (Str×Bool)->Option Bool
 |[]=>none
 | (d,b)::r=>if d=c then some b else yr c r
theorem rq:∀{l:List (Str×Bool)},yr c l=some b->(c,b)∈l
 | (d,x)::r,h=>by
  unfold yr at h;split at h
  ·rename_i e
   cases h;rw[e];exact zbn
  ·exact zaE _ (rq h)
noncomputable def KR (se:List (Str×Bool))(t:Tr)(S:Cs):R Tr:=match t with
 |.hd n=>(match uJ S n with|some (c,_)=>(match yr c se with|some b=>.ok (.bl b) S|none=>.aG)|none=>.aG)
 |_=>.aG
noncomputable def Cw (se:List (Str×Bool))(fo:Em):Em:=λτ S=>(fo τ S).aF λt S1=>KR se t S1
structure Sys (K:W.Frag):Prop where
 get:W.specialIn K (.builtin "object.__class__") "__get__"=some (some (.builtin "getset_descriptor.__get__"))
 Xu:W.takesIn K (.builtin "object.__class__")=some true
theorem OQ (S0:Sys G.K)(rc:bI cV u)(uc:∀u',bI cV u'->u'=u)(hT:Cv G u se)(h:fK G (Cw se fa) σ H Q):
  fK G fa σ H λx H1=>Xg G.K [x,cV] H1 Q:=by
 obtain⟨w,S,τ,hr,sl,q⟩:=h;refine⟨w,S,τ,hr,sl,(bh.aF q).mono λx H1 dR=>?_⟩
 obtain⟨w1,S1,t1,c8,bK,r1,_,q1⟩:=dR;unfold KR at q1;split at q1
 ·split at q1
  ·rename_i c fs ei
   split at q1
   ·rename_i b eb
    obtain⟨T,d,pR,h1,h2,h3,_,_,h4⟩:=bK.cell _ _ (g9 ei)
    obtain⟨⟨f',bm,M⟩,hk⟩:=hT _ (rq eb)
    exact⟨_,_,f',T,bm,d,pR,cV,u,b,by rw[r1.cS.2],h1,bK.sub _ _ h3,M,rc,uc,S0.get,S0.Xu,hk,q1 w1 H1 _ (.refl _) bK gM⟩
   ·exact q1.elim
  ·exact q1.elim
 ·exact q1.elim
theorem Vb (S0:Sys G.K)(hT:Cv G (.ref C) se)(hm:X.mg "isinstance"=none)(hy:X.mg y=some (.ref C))(ha:TV G k X a fa)(hg:autoParam (Gl X "isinstance") zp_0)(hgy:autoParam (Gl X y) zp_0)(hd:autoParam ((y == ("__debug__" : Str))=false) zp_1)
  (hs:autoParam (c_ a=false) zp_0):TV G k X (.Call (.Name "isinstance" p) [a,.Name y p2] [] pos) (Cw se fa):=.mk<|λo =>
 (pL yb hg hm zcn (gn (ha o) (gn (zW (v:=.ref C) hgy hy rfl hd) oX (cE rfl)) (cE hs)) (he:=cE hs) (hpl:=dS rfl)).wk λσ H Q h=>by
  have h:=OQ (cV:=.ref C) S0 rfl (λu' e=>e) hT h
  rw[<-o.K] at h;exact h
theorem Vc (S0:Sys G.K)(hT:Cv G (.type "ValueError") se)(hm:X.mg "isinstance"=none)(hy:X.mg "ValueError"=none)(ha:TV G k X a fa)(hg:autoParam (Gl X "isinstance") zp_0)(hgy:autoParam (Gl X "ValueError") zp_0)
  (hs:autoParam (c_ a=false) zp_0):TV G k X (.Call (.Name "isinstance" p) [a,.Name "ValueError" p2] [] pos) (Cw se fa):=.mk<|λo =>
 (pL yb hg hm zcn (gn (ha o) (gn (SG (v:=.ty _) hgy hy sF rfl) oX (cE rfl)) (cE hs)) (he:=cE hs) (hpl:=dS rfl)).wk λσ H Q h=>by
  have h:=OQ (cV:=.ty "ValueError") S0 rfl (λu' e=>e) hT h
  rw[<-o.K] at h;exact h
noncomputable def Xv (K:W.Frag):List V->Hp->VK->Prop:=λxs H Q=>∃(a C f T:Addr) (bm:List Value) (d:Addr) (fs:List (Str×V)) (tp:Addr) (cs:List Addr) (b:Bool),xs=[.ref a,.ref tp]/\H a=some (o6 a C (some d) T)/\H d=some (ED d fs)/\iY K C f bm /\
 H tp=some (.gV (cs.map V.ref))/\W.specialIn K (.builtin "object.__class__") "__get__"=some (some (.builtin "getset_descriptor.__get__"))/\W.takesIn K (.builtin "object.__class__")=some true/\W.kitAny K (.ref C) (cs.map Value.ref)=some b/\Q (.bl b) H
theorem yt:∀{cs:List Addr} {us:List Value},bO (cs.map V.ref) us->us=cs.map Value.ref
 |[],us,h=>by cases h;rfl
 |c::r,us,h=>by
  cases h with
  |cons e h2 =>
   rw[yt h2];cases (show _=Value.ref c from e)
   rfl
theorem KS:jD X (.builtin "isinstance") (Xv X.K):=by
 intro ah s σ H xs us Q I r h;obtain⟨a,C,f,T,bm,d,fs,tp,cs,b,rfl,ha,hd,M,ht,h1,h2,e,q⟩:=h;obtain⟨v1,v2,rfl,r1,r2⟩:=r.two;cases (show v1=Value.ref a from r1)
 cases (show v2=Value.ref tp from r2)
 obtain⟨t,ea⟩:=E_ I ha;obtain⟨mA,ns,_,_⟩:=HM I hd;obtain⟨oD,Mr,_⟩:=ki ns;obtain⟨_,bw,vs,p⟩:=(show cP X.prog X.w H s.heap tp (.gV (cs.map V.ref)) from I.cF tp _ ht)
 rw[yt vs] at p;obtain⟨⟨oc,od',oda,Ei⟩,ep,hc,n,Si⟩:=p
 cases (show oc=_ from hc)
 cases (show oda=_ from Si)
 exact W.kia_tup (BW (ox:=gY C (some d) t (.ref T)) (od:=some oD) M h1 h2) I.nI (E9 ea Mr) ep e (λz=>nomatch z) λtk=>⟨.bl b,H,I.oJ tk,rfl,q⟩
noncomputable def OR (G:Gx)(us:List Value)(se:List (Str×Bool)):Prop:=∀p∈se,(∃f bm,iY G.K (G.cl p.1) f bm)/\W.kitAny G.K (.ref (G.cl p.1)) us=some p.2
theorem Vd {cs:List Addr}{x1}(S0:Sys G.K)(hT:OR G (cs.map Value.ref) se)(hm:X.mg "isinstance"=none)(hes:PA X es (λ_ H Q=>Q (cs.map V.ref) H))(ha:TV G k X a fa)(hl:cs.length<=1000:=by first|decide|exact Nat.le_of_ble_eq_true rfl)(hg:autoParam (Gl X "isinstance") zp_0)
  (hs:autoParam (c_ a=false) zp_0):TV G k X (.Call (.Name "isinstance" p) [a,.Tuple es x1 p2] [] pos) (Cw se fa):=.mk<|λo =>
 (pL KS hg hm zcn (gn (ha o) (gn (M0 hes) oX (cE rfl)) (cE hs)) (he:=cE hs) (hpl:=dS rfl)).wk λσ H Q h=>by
  obtain⟨w,S,τ,hr,sl,q⟩:=h;refine⟨w,S,τ,hr,sl,(bh.aF q).mono λx H1 fj=>?_⟩
  obtain⟨w1,S1,t1,c8,bK,r1,_,q1⟩:=fj;show (cs.map V.ref).length<=sizeLine/\∀p,H1 p=none->Xv X.K [x,.ref p] (bG H1 p (.gV (cs.map V.ref))) Q
  refine⟨zag (by rw[zae];exact hl) (by decide:1000<=sizeLine),λtp htp=>?_⟩
  unfold KR at q1;split at q1
  ·split at q1
   ·rename_i c fs ei
    split at q1
    ·rename_i b eb
     obtain⟨dP,fG⟩:=bK.lay htp (.gV (cs.map V.ref))
     obtain⟨T,d,pR,h1,h2,h3,_,_,h4⟩:=dP.cell _ _ (g9 ei)
     obtain⟨⟨f',bm,M⟩,hk⟩:=hT _ (rq eb)
     rw[<-o.K] at M hk;have S1:=S0;rw[<-o.K] at S1;exact⟨_,_,f',T,bm,d,pR,tp,cs,b,by rw[r1.cS.2],h1,dP.sub _ _ h3,M,av,S1.get,S1.Xu,hk,q1 _ _ _ fG dP gM⟩
    ·exact q1.elim
   ·exact q1.elim
  ·exact q1.elim
end
noncomputable def AF (l:Option Nat)(x:Option Tr)(τ:En):En:=match l with|some l=>τ.set l x|none=>τ
noncomputable def uK (l:Option Nat)(r:RS):RS:=match r with
 |.nx τ S=>.nx (AF l none τ) S
 |.bk τ S=>.bk (AF l none τ) S
 |.ct τ S=>.ct (AF l none τ) S
 |.rt t S=>.rt t S
 |_=>.aG
noncomputable def jK (cs:List Str)(l:Option Nat)(sh:Sm)(τ:En)(r:R Tr):RS:=match r with
 |.ok _ S=>.nx τ S
 |.ex e S=>(match uJ S e with|some (c,_)=>if c∈cs then uK l (sh (AF l (some (.hd e)) τ) S) else .aG|none=>.aG)
 |.aG=>.aG
noncomputable def Cy (c m:Str)(n:Nat)(q:Fn)(fo:Em)(fr:En->Cs->R (List Tr))(cs:List Str)(l:Option Nat)(sh:Sm):Sm:=λτ S=>(fo τ S).bR λt S1=>match t with
 |.hd i=>(match iH S1 i with
  |some (c',fs)=>if c'=c/\(aR m fs).isNone=true then (fr τ S1).bR λts S2=>(if (t::ts).length=n then jK cs l sh τ (q (t::ts) S2) else .aG) else .aG
  |none=>.aG)
 |_=>.aG
noncomputable def nO (G:Gx)(B:Addr)(cs:List Str):Prop:=∀c∈cs,∃f bm,iY G.K (G.cl c) f bm/\(Value.ref (G.cl c)::bm).contains (.ref B)=true
theorem jo {α:Type}:∀{l:List α} {i:Nat} {c:α},l[i]? = some c->l.set i c=l
 |[],i,c,h=>by simp at h
 |x::r,0,c,h=>by simp at h;simp[h]
 |x::r,i+1,c,h=>by simp only[zaH] at h;rw[zdp,jo h]
theorem HR.B3 (h:HR G w S H)(he:S[e]? = some (.oQ c fs)):∃d T,H (w.ρ e)=some (o6 (w.ρ e) (G.cl c) (some d) T)/\H T=some (TB T)/\T≠w.ρ e /\
  ∀T',H T'=none->T'≠w.ρ e->∃w',w.le w'/\w'.ρ=w.ρ /\ HR G w' S (bG (bG H (w.ρ e) (o6 (w.ρ e) (G.cl c) (some d) T')) T' (TB T')):=by
 obtain⟨T,d,pR,h1,h2,h3,h4,h5,h6⟩:=h.cell _ _ he;refine⟨d,T,h1,h.sub _ _ h2,h4,λT' hT' ne=>?_⟩
 obtain⟨dP,fG⟩:=h.lay hT' (TB T')
 have hdT:d≠T':=λz=>by rw[z,h.N6 hT'] at h3;cases h3
 have pV:=dP.EL he rfl (c':=.oQ c fs) rfl (o:=o6 (w.ρ e) (G.cl c) (some d) T') ⟨T',d,pR,av,av,by show bG w.F T' (TB T') d=_;rw[au hdT];exact h3,ne,h5,h6.mono fG⟩
 rw[jo he] at pV;refine⟨_,fG,rfl,?_⟩
 have:bG (bG H (w.ρ e) (o6 (w.ρ e) (G.cl c) (some d) T')) T' (TB T')=bG (bG H T' (TB T')) (w.ρ e) (o6 (w.ρ e) (G.cl c) (some d) T'):=by
  funext b
  by_cases b1:b=T'
  ·subst b1;rw[av,au ne,av]
  ·rw[au b1]
   by_cases b2:b=w.ρ e
   ·subst b2;rw[av,av]
   ·rw[au b2,au b2,au b1]
 rw[this];exact pV
section
variable {K:W.Frag}{cl:Str->Addr}{k j n:Nat}{X:Cx}{f B:Addr}{fd:FuncData}{ps:List Str}{q:Fn}{m cB nn c:Str}{p cp ap np ep hp pos:Pos}{e o:Expr}{es:List Expr}{fr:En->Cs->R (List Tr)}{fo:Em}{gZ:List Stmt}{mG:Stmt}{sh:Sm}{l:Nat}{cs:List Str}
 {NS q':Str} {N':Addr} {NT bm':List Value} {mV:Bool} {NU:List Str} {ug:List Value} {NV:Bool} {uh:Option Bool} {xU:Option Addr} {j0 j1 j2 j3 j5:Option Value} {jg:String}
theorem HR.swE (h:HR ⟨K,cl,E⟩ w S H):HR ⟨K,cl,E'⟩ w S H:=HR.unx (G:=⟨K,cl,E'⟩) (HR.nx (G:=⟨K,cl,E⟩) h)
theorem Cz {lo:Option Nat}(hC:nO ⟨K,cl,E⟩ B cs)(sl:Sl w2 τ σ)(q2:cG ⟨K,cl,E⟩ w2 (jK cs lo sh τ r) D)
  (hkk:∀a H',(∃w S n,w2.le w/\HR ⟨K,cl,E⟩ w S H'/\n<w.n/\a=w.ρ n/\cG ⟨K,cl,E⟩ w (uK lo (sh (AF lo (some (.hd n)) τ) S)) D)->kk a H'):bh RT ⟨K,cl,U9 K B kk⟩ w2 r λ_ H3=>D.nx σ H3:=by
 cases r with
 |ok a S3=>exact λw' H' b le ow _=>q2 w' H' σ le ow.swE (sl.mono le)
 |aG=>exact q2
 |ex en S3 =>
  unfold jK at q2;simp only at q2
  split at q2
  ·rename_i c2 fs2 ei
   split at q2
   ·rename_i hc
    refine⟨c2,fs2,g9 ei,λw' H' le ow=>?_⟩
    obtain⟨d,T,h1,h2,h3,h4⟩:=ow.B3 (g9 ei)
    obtain⟨f',bm,M,xD⟩:=hC c2 hc;refine⟨_,_,f',bm,some d,T,rfl,rfl,M,xD,h1,h2,h3,λT' a1 a2=>?_⟩
    obtain⟨w3,mz,e3,pV⟩:=h4 T' a1 a2;have hn:en<w3.n:=by
     have:=(zab.mp (g9 ei)).1
     rw[pV.n];exact this
    exact hkk _ _ ⟨w3,S3,en,le.trans mz,pV.swE,hn,by rw[e3],cG.wd (le.trans mz) q2⟩
   ·exact q2.elim
  ·exact q2.elim
theorem OS {pl:Sem Bool}(hB:K.lookup B=some (excClassObj NS q' B N' NT bm' mV NU ug NV uh xU j0 j1 j2 j3 j5 jg))(U_:bm'.contains (.type "BaseException")=true)(hC:nO ⟨K,cl,E0⟩ B cs)(ON:X.mg cB=some (.ref B))
  (hc:sj K (cl c)) (hM:cL K (cl c) m f) (F:aO X.prog X.w X.K X.mg X.base (oh X.prog X.w) j f fd ps (dM K cl n q)) (hj:j<=k) (hb:dQ X.K fd ps []) (ho:TV ⟨K,cl,E0⟩ k X.sS o fo) (ha:xm ⟨K,cl,E0⟩ k X.sS (e::es) fr)
  (hN:X.N.Nodup) (hs:∀a,HW ⟨K,cl,E0⟩ 0 (X.iP a).sS (mG::gZ) sh) (hl:X.N[l]? = some nn) (om:X.env.scope.names.lookup nn=some .local) (rm:autoParam (X.cR=X.env::X.outer) zp_0) (BY:autoParam (X.env.frame=some X.env.locals) zp_0)
  (OM:autoParam (Gl X cB) zp_0) (KQ:autoParam ((cB == ("__debug__" : Str))=false) zp_1) (Kn:autoParam (swapsWith (.Call (.Attribute o m ap) (e::es) [] cp) none ep.line X.env=pure false) zp_0)
  (oK:autoParam (c_ e=false) zp_0) (hpl:autoParam (cX es=true) zp_0)
  (ht:autoParam (eval (.Call (.Attribute o m ap) (e::es) [] cp) X.env=(do
   let ov <-eval o X.env
   standAt ap.atName
   let (f,first) <-holding [ov] (getMethod ov m pl)
   callWith cp f first (backTo cp (starEach (e::es) X.env)) (backToKw cp (keywordEach [] X.env)))) zp_0) (sZ:autoParam (0<k) zp_2):
  An ⟨K,cl,E0⟩ k X (.Try [.Expr (.Call (.Attribute o m ap) (e::es) [] cp) ep] [.ExceptHandler (some (.Name cB np)) (some nn) (mG::gZ) hp] [] [] pos) (Cy c m n q fo fr cs (some l) sh):=.mk<|λox =>
 (OP (pl:=pl) (C:=cl c) (ox.e_ sZ) rm BY OM ON (by rw[ox.K];exact hB) U_ (ho ⟨ox.K,ox.e_,ox.room,ox.un⟩) (by rw[ox.K];exact hc) (by rw[ox.K];exact hM) F ((ox.room sZ).mono hj) hb (ha ⟨ox.K,ox.e_,ox.room,ox.un⟩) hN hl om (λa=>hs a ⟨ox.K,λz=>absurd z (zaK 0),λz=>absurd z (zaK 0),ox.un⟩) KQ Kn (cE oK) (dS hpl) ht).wk λD σ H h=>by
  obtain⟨w,S,τ,hr,sl,qq⟩:=h;refine⟨w,S,τ,hr,sl,(cG.aF qq).mono λv H1 je=>?_⟩
  obtain⟨w1,S1,t,c8,bK,r1,_,q1⟩:=je;split at q1
  ·split at q1
   ·rename_i c' fs ei
    split at q1
    ·rename_i hc
     obtain⟨rfl,hm⟩:=hc;obtain⟨dx,pR,h1,h2⟩:=bK.cell _ _ (eS ei)
     refine⟨_,dx,pR,r1.cS.2,h1,(fL (k:=m) h2).2 (zcz.mp hm),w1,S1,τ,bK,sl.mono c8,(cG.aF q1).mono λvs H2 jf=>?_⟩
     obtain⟨w2,S2,ts,fG,dP,r2,_,q2⟩:=jf;split at q2
     ·rename_i hn
      rw[zau];refine⟨w2,S2,_,dP.swE,.cons (RT.mono fG _ _ r1) r2,hn,?_⟩
      rw[ox.K];refine Cz hC ((sl.mono c8).mono fG) q2 λa H' ku=>?_
      obtain⟨w3,S3,en,mz,pV,hn3,ea,q3⟩:=ku;subst ea;refine⟨w3,S3,τ.set l (some (.hd en)),pV,((sl.mono c8).mono (fG.trans mz)).set l (t:=.hd en) (v:=.ref (w3.ρ en)) (by unfold RT;exact⟨hn3,rfl⟩),?_⟩
      have q3:cG ⟨K,cl,E0⟩ w3 (uK (some l) (sh (τ.set l (some (.hd en))) S3)) D:=q3
      generalize sh (τ.set l (some (.hd en))) S3=z at q3 ⊢
      cases z with
      |nx jz S4=>exact λw' H' dX le ow Bw=>q3 w' H' _ le ow (Bw.yg l none)
      |bk jz S4=>exact λw' H' dX le ow Bw=>q3 w' H' _ le ow (Bw.yg l none)
      |ct jz S4=>exact λw' H' dX le ow Bw=>q3 w' H' _ le ow (Bw.yg l none)
      |rt jz S4=>exact q3
      |ex jz S4=>exact q3.elim
      |aG=>exact q3
     ·exact q2.elim
    ·exact q1.elim
   ·exact q1.elim
  ·exact q1.elim
end
structure EC (K:W.Frag) (mg:Str->Option Value) (B:Addr) (x:Str) (C f:Addr) (st:Stmt) (fd:FuncData) (ps:List Str):Prop where
 M:iY K C f (.ref B::lW)
 m:mg x=some (.ref C)
 b:dQ K fd ps []
 lk:∃(oc:Value) (od:Option Addr) (dV kV oY pm:Value) (an:Option Addr) (fB ct:Value) (Ei:Array (Option Value)) (q:Str),
  fd=W.fnOf "__init__" q (dJ st) (cI st) (aj st) dV kV oY pm an fB ct/\K.lookup f=some ⟨oc,od,.func fd,Ei⟩/\W.codeIn K fB q=true
structure acU (K:W.Frag) (mg:Str->Option Value) (B:Addr) (cs:List (Str×Addr×Addr)):Prop where
 m:mg "BookError"=some (.ref B)
 EB:Xe K B
 Sw:(W.clsIn K B).isSome=true
 tyB:W.typeIn K (.ref B)=some (.type "type")
 oB:∃nm q N bs hd sn sub ab qQ dd j0 j1 j2 j3 j5 oO,K.lookup B=some (excClassObj nm q B N bs lW hd sn sub ab qQ dd j0 j1 j2 j3 j5 oO)
 sy:Sys K
 all:∀p∈cs,mg p.1=some (.ref p.2.1)/\iY K p.2.1 p.2.2 (.ref B::lW)
section
variable {P:Program}{w:World}{K:W.Frag}{mg:Str->Option Value}{base:Heap}{B:Addr}{cs:List (Str×Addr×Addr)}
theorem EC.ok {st:Stmt}(F:EC K mg B x C f st fd ps)(S:aq N ps (aj st))(len:∀vs H Q E,sp vs H Q E->vs.length=ps.length)
  (t6:∀(q:Str) (fB:Value) (A:Around) (outer:List Env) (s:Shared) (H:Hp) (vs:List V) (Q:VK) (E:XK),gJ k (A.deeper (PyProof.Rows.envOfC q (aj st) s.heap.objs.size f fB))->sp vs H Q E ->
   ∃t,xq (iN eL P w K mg base N q (aj st) f fB A outer s H E).sS (cI st) t/\t {nx:=λ_ H'=>Q .bz H',rt:=Q} (L2.dg N vs) H):aO P w K mg base eL (k+1) f fd ps sp:=by
 obtain⟨oc,od,dV,kV,oY,pm,an,fB,ct,Ei,q,rfl,lk,BA⟩:=F.lk;refine M7 lk BA S len λA outer s H vs Q E hr Mu=>?_
 obtain⟨t,h,z⟩:=t6 q fB A outer s H vs Q E hr Mu;exact⟨t,h.sS,z⟩
noncomputable def gE1 (g:Str):List V->List (Str×V)|[_,y]=>[(g,y)]|_=>[]
noncomputable def gT1 (g:Str):List Tr->List (Str×Tr)|[_,y]=>[(g,y)]|_=>[]
noncomputable def gE2 (g h:Str):List V->List (Str×V)|[_,y,z]=>[(g,y),(h,z)]|_=>[]
noncomputable def gT2 (g h:Str):List Tr->List (Str×Tr)|[_,y,z]=>[(g,y),(h,z)]|_=>[]
theorem gR1:∀w ts vs,bL w ts vs->ts.length=2->RK w (gT1 g ts) (gE1 g vs):=λw ts vs r hl=>by
 match ts,hl with
 |[a,b],_ =>
  obtain⟨x,r1,rfl,h1,h2⟩:=r.bD;obtain⟨y,r2,rfl,h3,h4⟩:=h2.bD;rw[h4.cD];exact .cons h3 .nil
theorem gR2:∀w ts vs,bL w ts vs->ts.length=3->RK w (gT2 g h ts) (gE2 g h vs):=λw ts vs r hl=>by
 match ts,hl with
 |[a,b,c],_ =>
  obtain⟨x,r1,rfl,h1,h2⟩:=r.bD;obtain⟨y,r2,rfl,h3,h4⟩:=h2.bD;obtain⟨z,r3,rfl,h5,h6⟩:=h4.bD;rw[h6.cD];exact .cons h3 (.cons h5 .nil)
theorem CA (M:iY K C f (.ref B::lW)):∀(Ds:List Addr),(∀D∈Ds,D≠C/\D≠B/\∃f',iY K D f' (.ref B::lW))->W.kitAny K (.ref C) (Ds.map Value.ref)=some false
 |[],_=>rfl
 |D::r,h=>by
  obtain⟨h1,h2,f',M'⟩:=h D zbn;rw[zas];unfold W.kitAny;rw[E4 (g:=f') (bm':=.ref B::lW) M M'.E5 M'.NJ (b:=false) (decide_eq_false λz=>z.elim h1 h2)]
  exact CA M r λD' h'=>h D' (zaE _ h')
noncomputable def Ve (K:W.Frag)(B:Addr):Prop:=∃nm q N bs bm hd sn sub ab qQ dd j0 j1 j2 j3 j5 oO,K.lookup B=some (excClassObj nm q B N bs bm hd sn sub ab qQ dd j0 j1 j2 j3 j5 oO)/\bm.contains (.type "BaseException")=true
theorem acU.kU (E:acU K mg B cs):Ve K B:=by
 obtain⟨nm,q,N,bs,hd,sn,sub,ab,qQ,dd,j0,j1,j2,j3,j5,oO,h⟩:=E.oB;exact⟨nm,q,N,bs,lW,hd,sn,sub,ab,qQ,dd,j0,j1,j2,j3,j5,oO,h,by decide +kernel⟩
theorem iY.aja (M:iY K C f (.ref B::lW)):Ve K C:=by
 obtain⟨nm,q,N,bs,sn,sub,ab,qQ,dd,k0,k1,k2,k3,k5,h⟩:=M.kU;exact⟨nm,q,N,bs,_,true,sn,sub,ab,qQ,dd,k0,k1,k2,k3,k5,_,h,by rw[zaW,show lW.contains (.type "BaseException")=true by decide +kernel,zcC]⟩
theorem CB:(Value.ref C::.ref B::lW).contains (.ref B)=true:=by simp[zaW]
theorem OT:(Value.ref C::.ref B::lW).contains (.ref C)=true:=by simp[zaW]
end
section
variable {K:W.Frag}{cl:Str->Addr}{k j n:Nat}{X:Cx}{f B:Addr}{fd:FuncData}{ps:List Str}{q:Fn}{m cB nn c:Str}{p cp ap np ep hp pos:Pos}{e o:Expr}{es:List Expr}{fr:En->Cs->R (List Tr)}{fo:Em}{gZ:List Stmt}{mG:Stmt}{sh:Sm}{l:Nat}{cs:List Str}
theorem yu (hB:Ve K B)(hC:nO ⟨K,cl,E0⟩ B cs)(ON:X.mg cB=some (.ref B))
  (hc:sj K (cl c)) (hM:cL K (cl c) m f) (F:aO X.prog X.w X.K X.mg X.base (oh X.prog X.w) j f fd ps (dM K cl n q)) (hj:j<=k) (hb:dQ X.K fd ps []) (ho:TV ⟨K,cl,E0⟩ k X.sS o fo) (ha:xm ⟨K,cl,E0⟩ k X.sS (e::es) fr)
  (hN:X.N.Nodup) (hs:∀a,HW ⟨K,cl,E0⟩ 0 (X.iP a).sS (mG::gZ) sh) (hl:X.N[l]? = some nn) (om:X.env.scope.names.lookup nn=some .local) (rm:autoParam (X.cR=X.env::X.outer) zp_0) (BY:autoParam (X.env.frame=some X.env.locals) zp_0)
  (OM:autoParam (Gl X cB) zp_0) (KQ:autoParam ((cB == ("__debug__" : Str))=false) zp_1) (Kn:autoParam (swapsWith (.Call (.Attribute o m ap) (e::es) [] cp) none ep.line X.env=pure false) zp_0)
  (oK:autoParam (c_ e=false) zp_0) (hpl:autoParam (cX es=true) zp_0)
  (ht:autoParam (eval (.Call (.Attribute o m ap) (e::es) [] cp) X.env=(do
   let ov <-eval o X.env
   standAt ap.atName
   let (f,first) <-holding [ov] (getMethod ov m pl)
   callWith cp f first (backTo cp (starEach (e::es) X.env)) (backToKw cp (keywordEach [] X.env)))) zp_0) (sZ:autoParam (0<k) zp_2):
  An ⟨K,cl,E0⟩ k X (.Try [.Expr (.Call (.Attribute o m ap) (e::es) [] cp) ep] [.ExceptHandler (some (.Name cB np)) (some nn) (mG::gZ) hp] [] [] pos) (Cy c m n q fo fr cs (some l) sh):=by
 obtain⟨_,_,_,_,_,_,_,_,_,_,_,_,_,_,_,_,_,h,U_⟩:=hB;exact OS h U_ hC ON hc hM F hj hb ho ha hN hs hl om rm BY OM KQ Kn oK hpl ht sZ
end
theorem Vf:PA X [] (λ_ H Q=>Q (([]:List Addr).map V.ref) H):=oX
theorem OU (hm:X.mg y=some (.ref C))(hr:PA X es (λ_ H Q=>Q (cs.map V.ref) H))(hg:autoParam (Gl X y) zp_0)(hd:autoParam ((y == ("__debug__" : Str))=false) zp_1):
  PA X (.Name y p::es) (λ_ H Q=>Q ((C::cs).map V.ref) H):=gn (zW (v:=.ref C) hg hm rfl hd) hr (cE rfl)
theorem FI:fH (oh P w) X E0:=λ_ _ _ _ _ _ _ h=>by
 obtain⟨_,_,_,_,_,_,_,_,_,_,_,_,_,z⟩:=h;exact z.elim
noncomputable def kIf (a b:Sm)(τ:En):Bool->Cs->RS:=λx S=>if x=true then a τ S else b τ S
theorem ajb:kIf a b τ true S=a τ S:=rfl
theorem ajc:kIf a b τ false S=b τ S:=rfl
theorem vIf:cW c a b τ S=(c τ S).bR (kIf a b τ):=rfl
noncomputable def kRt:Tr->Cs->RS:=λt S=>.rt t S
theorem ajd:kRt t S = .rt t S:=rfl
theorem aof:aJ f τ S=(f τ S).bR kRt:=rfl
noncomputable def kNx {α:Type}(τ:En):α -> Cs->RS:=λ_ S=>.nx τ S
theorem aje {α:Type}{τ:En}{t:α}{S:Cs}:kNx τ t S = .nx τ S:=rfl
theorem ajf:dG f τ S=(f τ S).bR (kNx τ):=rfl
noncomputable def mH (i:Nat)(τ:En):Tr->Cs->RS:=λt S=>.nx (τ.set i (some t)) S
theorem aog:bf i f τ S=(f τ S).bR (mH i τ):=rfl
noncomputable def kEn:En->Cs->RS:=λτ S=>.nx τ S
theorem ajg:kEn τ S = .nx τ S:=rfl
noncomputable def ajh (b:Tr->En->Cs->R En)(τ:En):Tr->Cs->RS:=λt S=>(b t τ S).bR kEn
theorem acV:ajh b τ t S=(b t τ S).bR kEn:=rfl
theorem aoi:acy f b τ S=(f τ S).bR (ajh b τ):=rfl
theorem aji:aI τ S = .nx τ S:=rfl
noncomputable def FJ (cs:List Str)(f:Str)(τ:En)(t:Tr):Tr->Cs->RS:=λu S=>(qc cs f u t S).bR (kNx τ)
theorem OV:FJ cs f τ t u S=(qc cs f u t S).bR (kNx τ):=rfl
noncomputable def Xw (cs:List Str)(f:Str)(fo:Em)(τ:En):Tr->Cs->RS:=λt S=>(fo τ S).bR (FJ cs f τ t)
theorem Vg:Xw cs f fo τ t S=(fo τ S).bR (FJ cs f τ t):=rfl
theorem ajj:bU cs f fo fv τ S=(fv τ S).bR (Xw cs f fo τ):=rfl
noncomputable def kB:Tr->Cs->R Bool:=λt S=>match t with|.bl b=>.ok b S|_=>.aG
theorem aoj:kB (.bl b) S = .ok b S:=rfl
theorem vB:mB f τ S=(f τ S).aF kB:=rfl
noncomputable def uL (g:Tr->Tr->Cs->R Tr)(fb:Em)(τ:En):Tr->Cs->R Tr:=λt S=>(fb τ S).aF (g t)
theorem acW:uL g fb τ t S=(fb τ S).aF (g t):=rfl
theorem aok:ai g fa fb τ S=(fa τ S).aF (uL g fb τ):=rfl
theorem vUn:Xk g fa τ S=(fa τ S).aF g:=rfl
theorem vC:mC t τ S = .ok t S:=rfl
theorem ajk:cC g fr τ S=(fr τ S).aF g:=rfl
noncomputable def fN (t:Tr):List Tr->Cs->R (List Tr):=λts S=>.ok (t::ts) S
theorem OW:fN t ts S = .ok (t::ts) S:=rfl
noncomputable def OX (r:En->Cs->R (List Tr))(τ:En):Tr->Cs->R (List Tr):=λt S=>(r τ S).aF (fN t)
theorem Vh:OX r τ t S=(r τ S).aF (fN t):=rfl
theorem ajl:af f r τ S=(f τ S).aF (OX r τ):=rfl
theorem aol:ak τ S = .ok [] S:=rfl
noncomputable def AG:List Tr->Cs->R Tr:=λts S=>if ts.length<=sizeLine then .ok (.tp ts) S else .aG
theorem aom:dm fr τ S=(fr τ S).aF AG:=rfl
noncomputable def CD:List Tr->Cs->R Tr:=λts S=>if ts.length<=sizeLine then .ok (.ls ts) S else .aG
theorem aon:jX fr τ S=(fr τ S).aF CD:=rfl
noncomputable def Xx:List Tr->Cs->R Tr:=λts S=>if ts.length<=sizeLine then .ok (.hd S.length) (S++[.bS ts]) else .aG
theorem ajm:pX fr τ S=(fr τ S).aF Xx:=rfl
noncomputable def kFn (n:Nat)(q:Fn):List Tr->Cs->R Tr:=λts S=>if ts.length=n then q ts S else .aG
theorem vFn:gF n q fr τ S=(fr τ S).aF (kFn n q):=rfl
noncomputable def uM (n:Nat)(q:Fn)(t:Tr):List Tr->Cs->R Tr:=λts S=>if (t::ts).length=n then q (t::ts) S else .aG
noncomputable def Xy (c m:Str)(n:Nat)(q:Fn)(fr:En->Cs->R (List Tr))(τ:En):Tr->Cs->R Tr:=λt S1=>match t with
 |.hd i=>(match iH S1 i with
  |some (c',fs)=>if c'=c/\(aR m fs).isNone=true then (fr τ S1).aF (uM n q t) else .aG
  |none=>.aG)
 |_=>.aG
theorem Vi:Xy c m n q fr τ (.hd i) S=match iH S i with
  |some (c',fs)=>if c'=c/\(aR m fs).isNone=true then (fr τ S).aF (uM n q (.hd i)) else .aG
  |none=>.aG:=rfl
theorem ajn:aH c m n q fo fr τ S=(fo τ S).aF (Xy c m n q fr τ):=rfl
noncomputable def uN (k:Nat):Tr->Cs->R Tr:=λr S=>match r with|.bz=>.ok (.hd k) S|_=>.aG
theorem OY:uN k .bz S = .ok (.hd k) S:=rfl
noncomputable def Iu (c:Str)(n:Nat)(q:Fn):List Tr->Cs->R Tr:=λts S1=>if ts.length+1=n then (q (.hd S1.length::ts) (S1++[.e9 c []])).aF (uN S1.length) else .aG
theorem ajo:m6 c n q fr τ S=(fr τ S).aF (Iu c n q):=by
 unfold m6 Iu uN;rfl
theorem aoo:aQ cs f fo τ S=(fo τ S).aF (KH cs f):=rfl
noncomputable def acX (a b:Em)(τ:En):Bool->Cs->R Tr:=λx S=>if x=true then a τ S else b τ S
theorem acY:acX a b τ true S=a τ S:=rfl
theorem acZ:acX a b τ false S=b τ S:=rfl
theorem aop:El c a b τ S=(c τ S).aF (acX a b τ):=rfl
noncomputable def ajp:Tr->Cs->R Tr:=λt S=>match t with|.bl b=>.ok (.bl (!b)) S|_=>.aG
theorem ac0:ajp (.bl b) S = .ok (.bl (!b)) S:=rfl
theorem aoq:Uw f τ S=(f τ S).aF ajp:=rfl
noncomputable def ac1 (tb:En->Cs->R Bool)(τ:En):Bool->Cs->R Bool:=λx S=>if x=true then tb τ S else .ok false S
theorem ac2:ac1 tb τ true S=tb τ S:=rfl
theorem ac3:ac1 tb τ false S = .ok false S:=rfl
theorem aor:mD ta tb τ S=(ta τ S).aF (ac1 tb τ):=rfl
noncomputable def kOr (tb:En->Cs->R Bool)(τ:En):Bool->Cs->R Bool:=λx S=>if x=true then .ok true S else tb τ S
theorem ajq:kOr tb τ true S = .ok true S:=rfl
theorem ajr:kOr tb τ false S=tb τ S:=rfl
theorem vOr:Fg ta tb τ S=(ta τ S).aF (kOr tb τ):=rfl
noncomputable def Xz:Bool->Cs->R Bool:=λx S=>.ok (!x) S
theorem Vj:Xz x S = .ok (!x) S:=rfl
theorem ajs:uw ta τ S=(ta τ S).aF Xz:=rfl
noncomputable def XA (fb:Em)(τ:En):Tr->Cs->R Tr:=λt S=>an6 t (fb τ S) S
theorem Vk:XA fb τ (.bl b) S=if b=true then fb τ S else .ok (.bl false) S:=by cases b<;>rfl
theorem ajt:Kw fa fb τ S=(fa τ S).aF (XA fb τ):=rfl
noncomputable def aju (fb:Em)(τ:En):Tr->Cs->R Tr:=λt S=>orV t (fb τ S) S
theorem ac4:aju fb τ (.bl b) S=if b=true then .ok (.bl true) S else fb τ S:=by cases b<;>rfl
theorem aot:mOr fa fb τ S=(fa τ S).aF (aju fb τ):=rfl
noncomputable def ajv (ck:Cs->Tr->Bool)(g:Tr->List Tr->Cs->R Tr)(fr:En->Cs->R (List Tr))(τ:En):Tr->Cs->R Tr:=λt S=>if ck S t=true then (fr τ S).aF (g t) else .aG
theorem ac5:ajv ck g fr τ t S=if ck S t=true then (fr τ S).aF (g t) else .aG:=rfl
theorem aou:sJ ck g fo fr τ S=(fo τ S).aF (ajv ck g fr τ):=rfl
noncomputable def ajw (b:Tr->En->Cs->R En)(f:Sm)(τ:En):Co->Cs->RS:=λs S=>fS s.g8 b f s.items τ S
theorem ac6:ajw b f τ s S=fS s.g8 b f s.items τ S:=rfl
theorem aov:o9 fi b f τ S=(fi τ S).bR (ajw b f τ):=rfl
theorem vIt:sM g f τ S=(f τ S).aF g:=rfl
theorem ajx:Cu cs g fo τ S=(fo τ S).aF (Ct cs g):=rfl
theorem aow:Cw se fo τ S=(fo τ S).aF (KR se):=rfl
noncomputable def OZ (n:Nat)(q:Fn)(cs:List Str)(l:Option Nat)(sh:Sm)(τ:En)(t:Tr):List Tr->Cs->RS:=λts S=>if (t::ts).length=n then jK cs l sh τ (q (t::ts) S) else .aG
theorem Vl:OZ n q cs l sh τ t ts S=if (t::ts).length=n then jK cs l sh τ (q (t::ts) S) else .aG:=rfl
noncomputable def ajy (c m:Str)(n:Nat)(q:Fn)(fr:En->Cs->R (List Tr))(cs:List Str)(l:Option Nat)(sh:Sm)(τ:En):Tr->Cs->RS:=λt S1=>match t with
 |.hd i=>(match iH S1 i with
  |some (c',fs)=>if c'=c/\(aR m fs).isNone=true then (fr τ S1).bR (OZ n q cs l sh τ t) else .aG
  |none=>.aG)
 |_=>.aG
theorem ac7:ajy c m n q fr cs l sh τ (.hd i) S=match iH S i with
  |some (c',fs)=>if c'=c/\(aR m fs).isNone=true then (fr τ S).bR (OZ n q cs l sh τ (.hd i)) else .aG
  |none=>.aG:=rfl
theorem aox:Cy c m n q fo fr cs l sh τ S=(fo τ S).bR (ajy c m n q fr cs l sh τ):=rfl
theorem FL:jK cs l sh τ (.ok t S) = .nx τ S:=rfl
theorem KU:jK cs l sh τ (.ex e S)=match uJ S e with|some (c,_)=>if c∈cs then uK l (sh (AF l (some (.hd e)) τ) S) else .aG|none=>.aG:=rfl
theorem Vm:uK l (.nx τ S) = .nx (AF l none τ) S:=rfl
theorem Vn:uK l (.rt t S) = .rt t S:=rfl
noncomputable def RS.KW (r:RS):R Tr:=match r with|.nx _ S'=>.ok .bz S' | .rt t S'=>.ok t S' | .ex n S'=>.ex n S' | _=>.aG
theorem Vo (τ:En)(S:Cs):(RS.nx τ S).KW = .ok .bz S:=rfl
theorem Vp (t:Tr)(S:Cs):(RS.rt t S).KW = .ok t S:=rfl
theorem Vq (t:Nat)(S:Cs):(RS.ex t S).KW = .ex t S:=rfl
theorem ac8 (t:Nat)(S:Cs)(g:Sm):(RS.ex t S).seq g = .ex t S:=rfl
theorem ajz (t:Nat)(S:Cs)(g:Sm):Xq (.ex t S) g = .ex t S:=rfl
noncomputable def O0 (c:Str)(n:Nat)(gT:List Tr->List (Str×Tr))(FG:List Tr):List Tr->Cs->RS:=λts S1=>if ts.length+FG.length=n/\n<=1000 then .ex S1.length (S1++[.oQ c (gT (ts++FG))]) else .aG
theorem O1:O0 c n gT FG ts S=if ts.length+FG.length=n/\n<=1000 then .ex S.length (S++[.oQ c (gT (ts++FG))]) else .aG:=rfl
theorem ac9:s_ c n gT FG fr τ S=(fr τ S).bR (O0 c n gT FG):=rfl
theorem aoy (i j:Nat)(fr:En->Cs->R (List Tr))(τ:En)(S:Cs):an3 i j fr τ S=((fr τ S).bR λts S1=>match ts with|[t,u]=>.nx ((τ.set i (some t)).set j (some u)) S1|_=>.aG):=rfl
theorem Vr (cs:List Str)(f:Str)(g:Int->Int->Int)(fo fv:Em)(τ:En)(S:Cs):yi cs f g fo fv τ S=((fo τ S).bR λt S1=>match t with
 |.hd n=>(match iH S1 n with
  |some (c,fs)=>if c∈cs then (match aR f fs with
   |some (.int i)=>(fv τ S1).bR λy S2=>(match y with
    |.int j=>(match iH S2 n with|some (c',Ms)=>if c'=c/\Ms.length<1000 then .nx τ (S2.set n (.e9 c (b_ f (.int (g i j)) Ms))) else .aG|none=>.aG)
    |_=>.aG)
   |_=>.aG) else .aG
  |none=>.aG)
 |_=>.aG):=rfl
theorem O2 (g g':Tr->Tr->Cs->R Tr)(fa fb fc:Em)(τ:En)(S:Cs):ly g g' fa fb fc τ S=((fa τ S).aF λt1 S1=>(fb τ S1).aF λt2 S2=>(g t1 t2 S2).aF λz S3=>match z with
 |.bl true=>(fc τ S3).aF λt3 S4=>g' t2 t3 S4
 |.bl false=>.ok (.bl false) S3
 |_=>.aG):=rfl
theorem Vs (fo fe ff:Em)(τ:En)(S:Cs):Ii fo fe ff τ S=((fo τ S).aF λt S1=>if ckD S1 t=true then (fe τ S1).aF λj S2=>(ff τ S2).aF λu S3=>(match Sn S3 t,jI j with|some m,some q=>.ok ((aR q m).getD u) S3|_,_=>.aG) else .aG):=rfl
theorem O3  (u0:En) (S:Cs):FD  u0 S=(.ok (.hd S.length) (S++[.jV []])):=rfl
theorem Vt (ps:List (Em×Em))(τ:En)(S:Cs):Ox ps τ S=((KJ ps τ (S++[.jV []])).aF λl S1=>match uA S1 S.length with
 |some []=>if l.length<=15 then .ok (.hd S.length) (S1.set S.length (.jV (fR [] l))) else .aG
 |_=>.aG):=rfl
theorem ajA (g:Tr->Option Int->Option Int->Cs->R Tr)(fa:Em)(fl fh:En->Cs->R (Option Int))(τ:En)(S:Cs):Fv g fa fl fh τ S=((fa τ S).aF λt S1=>(fl τ S1).aF λlo S2=>(fh τ S2).aF λhi S3=>g t lo hi S3):=rfl
theorem Vu (f:Em)(τ:En)(S:Cs):iV f τ S=((f τ S).aF λt S1=>match t with|.int i=>.ok (some i) S1|_=>.aG):=rfl
theorem KY  (u0:En) (S:Cs):gq  u0 S=(.ok none S):=rfl
theorem Vv (fo fi fv:Em)(τ:En)(S:Cs):Ia fo fi fv τ S=((fv τ S).bR λt S1=>(fo τ S1).bR λu S2=>(fi τ S2).bR λj S3=>(qb u j t S3).bR λ_ S4=>.nx τ S4):=rfl
theorem Vw (n:Nat)(r:Bs)(t:Tr)(τ:En)(S:Cs):lZ n r t τ S=(match Xl t with|some l=>if l.length=n then r l τ S else .aG|none=>.aG):=rfl
theorem Vx (b:Tr->En->Cs->R En)(r:Bs)(ts:List Tr)(τ:En)(S:Cs):gc b r ts τ S=(match ts with|t::l=>(b t τ S).aF λeN S1=>r l eN S1|[]=>.aG):=rfl
theorem ada  (ts:List Tr) (τ:En) (S:Cs):sL  ts τ S=(match ts with|[]=>.ok τ S|_=>.aG):=rfl
theorem adb (fo fi:Em)(t:Tr)(τ:En)(S:Cs):acv fo fi t τ S=((fo τ S).aF λu S1=>(fi τ S1).aF λj S2=>match u,j with
 |.hd n,.int i=>(match cM S2 n with|some l=>(match Bk l.length i with|some m=>.ok τ (S2.set n (.bS (l.set m t)))|none=>.aG)|none=>.aG)
 |_,_=>.aG):=rfl
theorem Vy (fr:En->Cs->R (List Tr))(τ:En)(S:Cs):uC fr τ S=((fr τ S).aF λts S1=>match ts with
 |[.int j]=>xB (-(2 ^ 62)<=j/\j<2 ^ 62) (.ok ⟨sN 0 j.toNat,λ_=>True⟩ S1) .aG
 |_=>.aG):=rfl
theorem ajB (st:Nat)(fr:En->Cs->R (List Tr))(τ:En)(S:Cs):mEn st fr τ S=((fr τ S).aF λts S1=>match ts with
 |[t]=>(iL t S1).aF λs S2=>.ok ⟨rW st s.items,s.g8⟩ S2
 |_=>.aG):=rfl
theorem aoz (g:Int->Int->Tr)(t1:Tr)(t2:Tr)(S:Cs):gI g t1 t2 S=(match t1,t2 with
 |.int i,.int j=>.ok (g i j) S
 |_,_=>.aG):=rfl
theorem ajC (c:Int->Int->Bool)(g:Int->Int->Tr)(t1:Tr)(t2:Tr)(S:Cs):Fo c g t1 t2 S=(match t1,t2 with
 |.int i,.int j=>if c i j=true then .ok (g i j) S else .aG
 |_,_=>.aG):=rfl
theorem ade  (t1:Tr) (t2:Tr) (S:Cs):cU  t1 t2 S=(match t1,t2 with
 |.int i,.int j=>.ok (.int (i+j)) S
 |.str a,.str b=>if a.length+b.length<=sizeLine then .ok (.str (a++b)) S else .aG
 |.tp a,.tp b=>if a.isEmpty=false/\a.length+b.length<=sizeLine then .ok (.tp (a++b)) S else .aG
 |t1,t2=>match Cd S t1,Cd S t2 with
  |some a,some b=>if a.length+b.length<=sizeLine then .ok (.ls (a++b)) S else .aG
  |_,_=>.aG):=rfl
theorem adf  (t1:Tr) (t2:Tr) (S:Cs):sH  t1 t2 S=(match t1,t2 with
 |.int i,.int j=>xB ((-(2 ^ 64)<i/\i<2 ^ 64)\/(-(2 ^ 64)<j/\j<2 ^ 64)) (.ok (.int (i * j)) S) .aG
 |.str a,.int n=>if 0<=n/\n<1000000/\a.length * n.toNat<=1000000 then .ok (.str (ua a n.toNat)) S else .aG
 |_,_=>.aG):=rfl
theorem adg (neg:Bool)(a b:Str)(S:Cs):cY neg (.str a) (.str b) S = .ok (.bl (if neg=true then !decide (a=b) else decide (a=b))) S:=rfl
theorem adh (neg:Bool)(a b:Int)(S:Cs):cY neg (.int a) (.int b) S = .ok (.bl (if neg=true then !decide (a=b) else decide (a=b))) S:=rfl
theorem adi (neg:Bool)(a b:Bool)(S:Cs):cY neg (.bl a) (.bl b) S = .ok (.bl (if neg=true then !(a == b) else (a == b))) S:=rfl
theorem adj (neg:Bool)(a:Int)(S:Cs):cY neg (.int a) .bz S = .ok (.bl (if neg=true then !false else false)) S:=rfl
theorem adk (neg:Bool)(S:Cs):cY neg .bz .bz S = .ok (.bl (if neg=true then !true else true)) S:=rfl
theorem adl (neg:Bool)(t1:Tr)(t2:Tr)(S:Cs):jj neg t1 t2 S=(match t2 with
 |.bz=>.ok (.bl (if neg then !isN t1 else isN t1)) S
 |_=>.aG):=rfl
theorem ajD (neg:Bool)(t1:Tr)(t2:Tr)(S:Cs):Bm neg t1 t2 S=(match t2 with
 |.str z=>(match t1 with|.str y=>.ok (.bl (if neg then !(!(Builtin.Str.occurrences z y 0 z.length 1).isEmpty) else !(Builtin.Str.occurrences z y 0 z.length 1).isEmpty)) S|_=>.aG)
 |t2=>match Cf S t2 with
  |some l=>if fZ t1=true/\l.all fZ=true then .ok (.bl (if neg then !Mz t1 l else Mz t1 l)) S else .aG
  |none=>.aG):=rfl
theorem adm (neg:Bool)(t1:Tr)(t2:Tr)(S:Cs):Cj neg t1 t2 S=(match Sn S t2,jI t1 with
 |some m,some j=>.ok (.bl (if neg then !(aR j m).isSome else (aR j m).isSome)) S
 |_,_=>.aG):=rfl
theorem O4  (t1:Tr) (t2:Tr) (S:Cs):bM  t1 t2 S=(match t1,t2 with
 |.str z,.int i=>if z.length<=sizeLine then (match iX z.cps.toList i with|some c=>.ok (.str ⟨#[c]⟩) S|none=>.aG) else .aG
 |t1,.int i=>(match Cf S t1 with
  |some l=>(match iX l i with|some t=>.ok t S|none=>.aG)
  |none=>.aG)
 |_,_=>.aG):=rfl
theorem adn  (ts:List Tr) (S:Cs):gW  ts S=(match ts with
 |[.str z]=>if z.length<=sizeLine then .ok (.int z.length) S else .aG
 |[t]=>(match Cf S t with|some l=>.ok (.int l.length) S|none=>match Sn S t with|some m=>.ok (.int m.length) S|none=>.aG)
 |_=>.aG):=rfl
theorem Vz  (ts:List Tr) (S:Cs):rT  ts S=(match ts with
 |[t]=>(match Cf S t with|some l=>.ok (.ls l) S|none=>.aG)
 |_=>.aG):=rfl
theorem ado  (ts:List Tr) (S:Cs):Fw  ts S=(match ts with
 |[t]=>(match Fl S t with|some l=>(match mZ l with|some ns=>.ok (.int ns.sum) S|none=>.aG)|none=>.aG)
 |_=>.aG):=rfl
theorem adp  (t:Tr) (ts:List Tr) (S:Cs):xC  t ts S=(match t,ts with
 |.hd n,[u]=>(match cM S n with|some l=>if l.length<sizeLine then .ok .bz (S.set n (.bS (l++[u]))) else .aG|none=>.aG)
 |_,_=>.aG):=rfl
theorem adq  (t:Tr) (ts:List Tr) (S:Cs):UH  t ts S=(match t,ts with
 |.hd n,[u]=>(match cM S n,Cd S u with|some l,some m=>if l.length+m.length<=sizeLine then .ok .bz (S.set n (.bS (l++m))) else .aG|_,_=>.aG)
 |_,_=>.aG):=rfl
theorem VA  (u0:En) (S:Cs):jJ  u0 S=(.ok true S):=rfl
theorem VB (fi:En->Cs->R Co)(fr:List Nat)(n:Nat)(b:Tr->En->Cs->R En)(c:En->Cs->R Bool)(f:Em)(τ:En)(S:Cs):gE fi fr n b c f τ S=((fi τ S).aF λs S1=>(dh s.g8 b c f s.items (j6 fr n τ) [] S1).aF λl S2=>.ok (.ls l) S2):=rfl
theorem aoA  (t:Tr) (S:Cs):iL  t S=(match t with
 |.ls l=>.ok ⟨l,λ_=>True⟩ S
 |.kl l=>.ok ⟨l,λ_=>True⟩ S
 |.hd n=>(match cM S n with|some l=>.ok ⟨l,λS'=>cM S' n=some l⟩ S|none=>.aG)
 |_=>.aG):=rfl
theorem ads  (t:Tr) (S:Cs):Au  t S=(match t with|.int i=>.ok (.int (-i)) S|_=>.aG):=rfl
section
variable {prog:Program}{w:World}{A:Around}{E:Value->Shared->Prop}{s:Shared}{Z TI TO i1 i2:Addr}{fp1 fp2:List Addr}{n1 n2 k:Nat}{Y1 Y2:Nat->Value->Prop}{S1 S2:Nat->Heap->Prop}{p q:Value}
end
section
variable {G:Gx}{k:Nat}{X:Cx}{a b c o e tg:Expr}{es:List Expr}{fa fb f:Em}{fr:En->Cs->R (List Tr)}{pos p:Pos}
end
theorem AH {α:Type}(x:α):(some (some x)).join=some x:=rfl
theorem gG {g8:Cs->Prop}{b:Tr->En->Cs->R En}{f:Sm}{l:List Tr}{τ:En}{S:Cs}{Z:RS}(e:fS g8 b f l τ S=Z)(I:Nat->En->Cs->Prop)(hc:∀i τ S,I i τ S->g8 S)(h0:I 0 τ S)(hs:∀i t τ S,l[i]? = some t->I i τ S->∃jz S2,((b t τ S).bR f = .nx jz S2\/(b t τ S).bR f = .ct jz S2)/\I (i+1) jz S2):∃qe S',I l.length qe S'/\Z = .nx qe S':=by
 have key:∀(l:List Tr) (n:Nat) (τ:En) (S:Cs),(∀i t τ S,l[i]? = some t->I (n+i) τ S->∃jz S2,((b t τ S).bR f = .nx jz S2\/(b t τ S).bR f = .ct jz S2)/\I (n+i+1) jz S2)->I n τ S->∃qe S',I (n+l.length) qe S'/\fS g8 b f l τ S = .nx qe S':=by
  intro l;induction l with
  |nil=>intro n τ S h h0;exact⟨τ,S,h0,by unfold fS;rw[if_pos (hc n τ S h0)]⟩
  |cons t r ih =>
   intro n τ S h h0;obtain⟨jz,S2,e,h2⟩:=h 0 t τ S rfl h0;obtain⟨τ3,S3,h3,e3⟩:=ih (n+1) jz S2 (λi u τ S hu hI=>by
    have:=h (i+1) u τ S (by simpa using hu) (by rw[show n+(i+1)=n+1+i by omega];exact hI)
    rw[show n+(i+1)+1=n+1+i+1 by omega] at this
    exact this) h2
   refine⟨τ3,S3,by rw[zaF,show n+(r.length+1)=n+1+r.length by omega];exact h3,?_⟩
   conv=>lhs;unfold fS
   rw[if_pos (hc n τ S h0)];cases hb:b t τ S with
   |ok eN S1 =>
    rw[hb,R.fF] at e;rw[R.fF];rcases e with e|e
    ·rw[e,OG,e3]
    ·rw[e,ai0,e3]
   |ex n S1=>rw[hb,R.pU] at e;rcases e with e|e<;>cases e
   |aG=>rw[hb,R.B9] at e;rcases e with e|e<;>cases e
 obtain⟨qe,S',h,e2⟩:=key l 0 τ S (λi t τ S ht hI=>by rw[zbW] at hI ⊢;exact hs i t τ S ht hI) h0
 rw[zbW] at h;exact⟨qe,S',h,by rw[<-e,e2]⟩
theorem yv {g8:Cs->Prop}{b:Tr->En->Cs->R En}{f:Em}(I:Nat->En->List Tr->Cs->Prop)(hc:∀i τ bY S,I i τ bY S->g8 S):∀(l:List Tr) (n:Nat) (τ:En) (bY:List Tr) (S:Cs),
  (∀i t τ bY S,l[i]? = some t->I (n+i) τ bY S->∃eN u S3,b t τ S = .ok eN S/\f eN S = .ok u S3/\I (n+i+1) eN (bY++[u]) S3)->bY.length+l.length<=1000000->I n τ bY S->∃qe FN S',I (n+l.length) qe FN S'/\dh g8 b jJ f l τ bY S = .ok FN S'
 |[],n,τ,bY,S,h,hl,h0=>⟨τ,bY,S,h0,uG (hc n τ bY S h0)⟩
 |t::r,n,τ,bY,S,h,hl,h0=>by
  obtain⟨eN,u,S3,e1,e2,h2⟩:=h 0 t τ bY S rfl h0;have HH:bY.length+1+r.length<=1000000:=by simp at hl;omega
  obtain⟨τ3,aoB,S4,h3,e3⟩:=yv I hc r (n+1) eN (bY++[u]) S3 (λi u τ bY S hu hI=>by
   have:=h (i+1) u τ bY S (by simpa using hu) (by rw[show n+(i+1)=n+1+i by omega];exact hI)
   rw[show n+(i+1)+1=n+1+i+1 by omega] at this
   exact this) (by simp;omega) h2
  refine⟨τ3,aoB,S4,by rw[zaF,show n+(r.length+1)=n+1+r.length by omega];exact h3,?_⟩
  rw[rX (hc n τ bY S h0),e1,iy,R.dZ];show (iB (R.ok true S)).aF _=_
  rw[iy,R.dZ,if_pos rfl,e2,iy,R.dZ,if_pos (zak (by omega:bY.length<1000000) (by decide)),e3]
theorem yw {g8:Cs->Prop}{b:Tr->En->Cs->R En}{f:Em}{l:List Tr}{τ:En}{S:Cs}{Z:R (List Tr)}(e:dh g8 b jJ f l τ [] S=Z)(I:Nat->En->List Tr->Cs->Prop)(hc:∀i τ bY S,I i τ bY S->g8 S)(h0:I 0 τ [] S)(hl:l.length<=1000000)
  (hs:∀i t τ bY S,l[i]? = some t->I i τ bY S->∃eN u S3,b t τ S = .ok eN S/\f eN S = .ok u S3/\I (i+1) eN (bY++[u]) S3):∃qe FN S',I l.length qe FN S'/\Z = .ok FN S':=by
 obtain⟨qe,FN,S',h,e2⟩:=yv I hc l 0 τ [] S (λi t τ bY S ht hI=>by rw[zbW] at hI ⊢;exact hs i t τ bY S ht hI) (by simpa using hl) h0
 rw[zbW] at h;exact⟨qe,FN,S',h,by rw[<-e,e2]⟩
noncomputable def aoC (S S':Cs):Prop:=∃J,S'=S++J
end L2
namespace L2
open PySem PySem.Spec PyProof.Rows
section
variable {K:W.Frag}{cl:Str->Addr}{k j0 n:Nat}{X:Cx}{g B:Addr}{fd:FuncData}{ps:List Str}{q:Fn}{x y nn fn cB:Str}{xp p cp ap np yp np2 bp hp pos:Pos}{e:Expr}{es:List Expr}{fr:En->Cs->R (List Tr)}{i j l:Nat}{cs:List Str}
 {NS q':Str} {N':Addr} {NT:List Value} {mV:Bool} {NU:List Str} {ug:List Value} {NV:Bool} {uh:Option Bool} {xU:Option Addr} {j1 j2 j3 j4 j5:Option Value} {jg:String}
end
noncomputable def ajF (K:W.Frag)(neg:Bool):R2:=λx y H Q=>∃a b xs ys,x = .ref a/\y = .ref b/\jC K H a xs/\jC K H b ys/\xs.length≠ys.length/\Q (.bl neg) H
theorem O5 (hu:X.A.units<cLine):kQ X (compareOp .Eq) (ajF X.K false):=by
 intro ah s σ H x y v u Q I rx ry h;obtain⟨a,b,xs,ys,rfl,rfl,hp,hq,hn,k⟩:=h;cases rx;cases ry;obtain⟨bw,r1,p1,_⟩:=I.list hp;obtain⟨iO,r2,p2,_⟩:=I.list hq;have l1:=r1.length;have l2:=r2.length;exact SeqAt.eq_list_lengthsAt p1.isList p2.isList (by simp;omega) hu ⟨.bl false,H,I,rfl,k⟩
theorem O6 (hu:X.A.units<cLine):kQ X (compareOp .NotEq) (ajF X.K true):=by
 intro ah s σ H x y v u Q I rx ry h;obtain⟨a,b,xs,ys,rfl,rfl,hp,hq,hn,k⟩:=h;cases rx;cases ry;obtain⟨bw,r1,p1,_⟩:=I.list hp;obtain⟨iO,r2,p2,_⟩:=I.list hq;have l1:=r1.length;have l2:=r2.length;have h:=SeqAt.RcNeAt.lists_lengths p1.isList p2.isList (by simp;omega) (show X.A.units<cLine from hu)
 exact h X.prog X.w _ _ ⟨.bl true,H,I,rfl,k⟩
noncomputable def CF (neg:Bool):Tr->Tr->Cs->R Tr:=λt1 t2 S=>match Fl S t1,Fl S t2 with
 |some l,some m=>if l.length=m.length then cY neg t1 t2 S else .ok (.bl neg) S
 |_,_=>.aG
theorem adt {neg:Bool}:oq G k (compareOp (if neg then .NotEq else .Eq)) (CF neg):=.mk<|λX o ah s σ H x y v u Q I rx ry dR=>by
 obtain⟨w,S,t1,t2,hr,r1,r2,q⟩:=dR;unfold CF at q;split at q
 ·rename_i l m e1 e2
  split at q
  ·exact (Oh (G:=G) (k:=k) (neg:=neg)).jE X o ah s σ H x y v u Q I rx ry ⟨w,S,t1,t2,hr,r1,r2,q⟩
  ·rename_i hn
   obtain⟨a,xs,ea,sx,rx'⟩:=mX hr r1 e1;obtain⟨b,ys,eb,sy,ry'⟩:=mX hr r2 e2;rw[<-o.K] at sx sy;have q:=q w H _ (.refl w) hr gM
   have hl:xs.length≠ys.length:=by rw[rx'.len,ry'.len];exact hn
   cases neg with
   |true=>exact O6 (zcF (zcq _ _) o.hu) ah s σ H x y v u Q I rx ry ⟨a,b,xs,ys,ea,eb,sx,sy,hl,q⟩
   |false=>exact O5 (zcF (zcq _ _) o.hu) ah s σ H x y v u Q I rx ry ⟨a,b,xs,ys,ea,eb,sx,sy,hl,q⟩
 ·exact q.elim
theorem ajG:oq G k (compareOp .NotEq) (CF true):=adt (neg:=true)
section
variable {G:Gx}{k:Nat}{X:Cx}{a b c o e tg:Expr}{es:List Expr}{fa fb f:Em}{fr:En->Cs->R (List Tr)}{pos p:Pos}
end
end L2
namespace L2
open PySem PySem.Spec PyProof.Rows
section
variable {prog:Program}{w:World}{A:Around}{R:Result->Shared->Prop}{I:Addr}{fp wr:List Addr}{G:Array GenState->Array GenState->Prop}{n:Nat}{P:Nat->Value->Prop}{St:Nat->Shared->Prop}
end
section
variable {prog:Program}{w:World}{A:Around}{E:Value->Shared->Prop}{s:Shared}
end
end L2
namespace L2
open PySem PySem.Spec PyProof.Rows
end L2
namespace L2
open PySem PySem.Spec PyProof.Rows
section
variable {X:Cx}{k:Nat}{g B:Addr}{fd:FuncData}{ps:List Str}{sp:Sp}{e:Expr}{es:List Expr}{t:TA}{n fn cB:Str}{l:Nat}{p cp np ep hp pos:Pos}{gZ:List Stmt}{mG:Stmt}{ts:TS}
 {NS q':Str} {N':Addr} {NT bm':List Value} {mV:Bool} {NU:List Str} {ug:List Value} {NV:Bool} {uh:Option Bool} {xU:Option Addr} {j0 j1 j2 j3 j5:Option Value} {jg:String}
end
section
variable {K:W.Frag}{cl:Str->Addr}{k j n:Nat}{X:Cx}{g B:Addr}{fd:FuncData}{ps:List Str}{q:Fn}{cB nn fn:Str}{p cp np ep hp pos:Pos}{e:Expr}{es:List Expr}{fr:En->Cs->R (List Tr)}{gZ:List Stmt}{mG:Stmt}{sh:Sm}{l:Nat}{cs:List Str}
end
noncomputable def keysOf:List Tr->Option (List d_)
 |[]=>some []
 |t::r=>(match jI t,keysOf r with|some k,some l=>some (k::l)|_,_=>none)
noncomputable def O7:Tr->Option (List d_)|.tp l=>keysOf l|_=>none
noncomputable def O8 (S:Cs)(t1 t2:Tr):Option (Option Tr):=match t1 with
 |.hd n=>(match S[n]? with
  |some (.jV l)=>(jI t2).map λq=>aR q l
  |some (.xA l)=>(jI t2).map λq=>aR q l
  |some (.Sk l)=>(O7 t2).map λq=>aR q l
  |some (.Fc l)=>(O7 t2).map λq=>aR q l
  |_=>none)
 |_=>none
theorem yx:∀{l:List Tr} {q:List d_} {xs:List V},keysOf l=some q->bL w l xs->xs=q.map kV
 |[],q,xs,e,r=>by cases e;rw[r.cD];rfl
 |t::l,q,xs,e,r=>by
  obtain⟨x,r',rfl,h1,h2⟩:=r.bD;unfold keysOf at e;split at e
  ·rename_i k1 l1 e1 e2
   cases e;rw[iI e1 h1,yx e2 h2];rfl
  ·cases e
theorem CG (e:O7 t=some q)(r:RT w t v):∃p,v = .ref p/\w.F p=some (.gV (q.map kV)):=by
 cases t with
 |tp l =>
  unfold RT at r;obtain⟨p,xs,rfl,h,r⟩:=r;rw[yx e r] at h;exact⟨p,rfl,h⟩
 |_=>cases e
noncomputable def XC (w:Wd)(ot:Option Tr)(ov:Option V):Prop:=match ot with|some t=>∃v,ov=some v/\RT w t v|none=>ov=none
theorem nP {κ:Type}[DecidableEq κ]{l:List (κ × Tr)}{m:List (κ × V)}(r:RK w l m)(j:κ):XC w (aR j l) (mq m j):=by
 obtain⟨h1,h2⟩:=pZ (k:=j) r
 cases e:aR j l with
 |none=>exact h2 e
 |some t=>exact h1 t e
theorem VC {S:Cs}{H:Hp}(hr:HR G w S H)(r1:RT w t1 x)(r2:RT w t2 y)(e:O8 S t1 t2=some ot):∃p ov,x = .ref p/\oZ H p y ov/\XC w ot ov:=by
 unfold O8 at e;split at e
 ·rename_i n
  have hx:=r1.cS.2;split at e
  ·rename_i l en
   rw[zbK] at e;obtain⟨q,ek,rfl⟩:=e;obtain⟨aU,h1,h2⟩:=hr.cell _ _ en;exact⟨_,_,hx,.inl ⟨aU,q,.inl h1,iI ek r2,rfl⟩,nP h2 q⟩
  ·rename_i l en
   rw[zbK] at e;obtain⟨q,ek,rfl⟩:=e;obtain⟨ob,aU,h1,h2⟩:=hr.cell _ _ en;exact⟨_,_,hx,.inl ⟨aU,q,.inr ⟨ob,hr.sub _ _ h1⟩,iI ek r2,rfl⟩,nP h2 q⟩
  ·rename_i l en
   rw[zbK] at e;obtain⟨q,ek,rfl⟩:=e;obtain⟨aU,h1,h2⟩:=hr.cell _ _ en;obtain⟨p,ey,hp⟩:=CG ek r2;exact⟨_,_,hx,.inr ⟨aU,q,p,.inl h1,ey,hr.sub _ _ hp,rfl⟩,nP h2 q⟩
  ·rename_i l en
   rw[zbK] at e;obtain⟨q,ek,rfl⟩:=e;obtain⟨ob,aU,h1,h2⟩:=hr.cell _ _ en;obtain⟨p,ey,hp⟩:=CG ek r2;exact⟨_,_,hx,.inr ⟨aU,q,p,.inr ⟨ob,hr.sub _ _ h1⟩,ey,hr.sub _ _ hp,rfl⟩,nP h2 q⟩
  ·cases e
 ·cases e
noncomputable def O9:Tr->Tr->Cs->R Tr:=λt1 t2 S=>match O8 S t1 t2 with|some (some t)=>.ok t S|_=>.aG
theorem adu (ha:TV G k X a fa)(hb:TV G k X b fb)(hs:autoParam (abk b) zp_8):TV G k X (.Subscript a b pos) (ai O9 fa fb):=.mk<|λo=>(To o.hu1 (ha o) (hb o) hs).wk λσ H Q h=>by
 obtain⟨w,S,τ,hr,sl,q⟩:=qT h;refine⟨w,S,τ,hr,sl,q.mono λx H1 ⟨w1,S1,eN,bK,E8,q1⟩=>⟨w1,S1,eN,bK,E8,q1.mono λy H2 je=>?_⟩⟩
 obtain⟨w2,S2,t1,t2,dP,r1,r2,q2⟩:=je;unfold O9 at q2;split at q2
 ·rename_i t et
  obtain⟨p,ov,ex,g,v,rfl,rv⟩:=VC dP r1 r2 et;exact⟨p,v,ex,g,q2 w2 H2 v (.refl _) dP rv⟩
 ·exact q2.elim
theorem HR.O_ (h:HR G w S H){c c':Ce}(e:S[i]? = some c)(hc:c.fz=false)(SE:c'.fz=true)(ok:∀w':Wd,w.le w'->w'.F (w.ρ i)=some o'->bJ G w' (bG H (w.ρ i) o') (w.ρ i) c'):
  HR G {w with F:=bG w.F (w.ρ i) o' } (S.set i c') (bG H (w.ρ i) o')/\w.le {w with F:=bG w.F (w.ρ i) o' }:=by
 have hi:=(zab.mp e).1
 have li:fm S i:=⟨c,e,hc⟩
 have hF:w.F (w.ρ i)=none:=by rw[h.F];unfold Fz;rw[if_pos (.inl ⟨i,li,rfl⟩)]
 have le:w.le {w with F:=bG w.F (w.ρ i) o' }:=⟨rfl,zah _,λ_ _=>rfl,λb u eb=>lg hF eb,rfl⟩
 have lv:∀j,fm (S.set i c') j->fm S j/\j≠i:=λj kF=>by
  obtain⟨d,ed,hd⟩:=kF;by_cases hj:i=j
  ·subst hj
   rw[zaB hi] at ed;cases ed;rw[SE] at hd;cases hd
  ·rw[zaz hj] at ed
   exact⟨⟨d,ed,hd⟩,λz=>hj z.symm⟩
 have lv2:∀j,fm S j->j≠i->fm (S.set i c') j:=λj ⟨d,ed,hd⟩ hj=>⟨d,by rw[zaz (λz=>hj z.symm)];exact ed,hd⟩
 refine⟨⟨h.K,by simp[h.n],?_,λj d ej=>?_,λa b la lb=>h.inj a b (lv a la).1 (lv b lb).1,Am h.hid (h.kE i li),λj lj=>h.kE j (lv j lj).1,h.hl⟩,le⟩
 ·show bG w.F (w.ρ i) o'=Fz w.ρ w.hid (S.set i c') (bG H (w.ρ i) o')
  funext b
  unfold Fz;by_cases hb:b=w.ρ i
  ·subst hb
   rw[av,if_neg,av];rintro (⟨j,lj,z⟩|z)
   ·exact (lv j lj).2 (h.inj j i (lv j lj).1 li z)
   ·exact z (h.kE i li)
  ·rw[au hb,au hb,h.F]
   unfold Fz;have Xj:(∃j,fm (S.set i c') j/\w.ρ j=b)↔∃j,fm S j/\w.ρ j=b:=⟨λpW=>by obtain⟨j,lj,z⟩:=pW;exact⟨j,(lv j lj).1,z⟩,λlz=>by obtain⟨j,lj,z⟩:=lz;exact⟨j,lv2 j lj (λq=>hb (by rw[<-z,q])),z⟩⟩
   by_cases hx:(∃j,fm S j/\w.ρ j=b)\/w.hid b≠none
   ·rw[if_pos hx,if_pos (hx.imp Xj.mpr λz=>z)]
   ·rw[if_neg hx,if_neg (λz=>hx (z.imp Xj.mp λz=>z))]
 ·by_cases hj:i=j
  ·subst hj
   rw[zaB hi] at ej;cases ej;exact ok _ le av
  ·rw[zaz hj] at ej
   cases hd:d.fz with
   |true=>exact bJ.N5 le hd (h.cell j d ej)
   |false =>
    refine (h.cell j d ej).mono le λu eu=>?_
    rw[au λz=>hj (h.inj i j li ⟨d,ej,hd⟩ z.symm)]
    exact eu
noncomputable def Pa:d_->Tr|.inl i=>.int i|.inr x=>.str x
noncomputable def iD:Tr->Cs->R Co:=λt S=>match t with
 |.hd n=>(match S[n]? with
  |some (.jV l)=>.ok ⟨l.map λp=>Pa p.1,λ_=>True⟩ (S.set n (.xA l))
  |some (.xA l)=>.ok ⟨l.map λp=>Pa p.1,λ_=>True⟩ S
  |some (.Sk l)=>.ok ⟨l.map λp=>.tp (p.1.map Pa),λ_=>True⟩ (S.set n (.Fc l))
  |some (.Fc l)=>.ok ⟨l.map λp=>.tp (p.1.map Pa),λ_=>True⟩ S
  |_=>.aG)
 |_=>.aG
theorem adv (q:d_):RT w (Pa q) (kV q):=by
 cases q with
 |inl i=>exact d7
 |inr x=>exact lq
theorem AI:∀q:List d_,bL w (q.map Pa) (q.map kV)
 |[]=>.nil
 |k::r=>.cons (adv k) (AI r)
theorem AJ {a:Addr}(hF:w.F a=some (.sP ob u))(R:bL w l ks):UO G w ⟨l,λ_=>True⟩ (Itd a ob u ks):=λw1 S1 H1 i hK hn ja hF1 bK _=>by
 have ha:=bK.sub _ _ (hF1 _ _ hF)
 have R1:=R.yj hK hn ja hF1;refine⟨λt et=>?_,λhi=>⟨ha,by rw[R.len,hi];exact zah _⟩⟩
 obtain⟨v,ev,rv⟩:=R1.get et;refine⟨⟨ha,(zab.mp ev).1⟩,λx H2 ⟨e2,ex⟩=>?_⟩
 subst e2;rw[ev] at ex;cases ex;exact⟨w1,.refl _,bK,rv⟩
theorem XD (r:RK w l aU):bL w (l.map λp=>Pa p.1) (aU.map λp=>kV p.1):=by
 have e1:(l.map λp=>Pa p.1)=(l.map Prod.fst).map Pa:=by rw[zby];rfl
 have e2:(aU.map λp=>kV p.1)=(aU.map Prod.fst).map kV:=by rw[zby];rfl
 rw[e1,e2,r.1];exact AI _
theorem Pb {H:Hp}{S:Cs}(ajH:∀b xs,H b=some (.gV xs)->w.F b=some (.gV xs)):∀{aU:List (List d_×V)} {ks:List V},Paired (λ(p:List d_×V) (x:V)=>∃b,x = .ref b/\H b=some (.gV (p.1.map kV))) aU ks->bL w ((aU.map Prod.fst).map λq=>.tp (q.map Pa)) ks
 |_,_,.nil=>.nil
 |_,_,.cons ⟨b,ex,hb⟩ t=>.cons (by unfold RT;exact⟨b,_,ex,ajH _ _ hb,AI _⟩) (Pb (S:=S) ajH t)
theorem HR.ajI (h:HR G w S H){b:Addr}(hb:H b=some (.gV xs)):w.F b=some (.gV xs):=by
 rw[h.F];unfold Fz;rw[if_neg,hb];rintro (⟨i,⟨c,e,n⟩,z⟩|z)
 ·have hc:=h.cell i c e
  rw[z] at hc;cases c with
  |bS l=>obtain⟨_,q,_⟩:=hc;rw[hb] at q;cases q
  |jV l=>obtain⟨_,q,_⟩:=hc;rw[hb] at q;cases q
  |Sk l=>obtain⟨_,q,_⟩:=hc;rw[hb] at q;cases q
  |e9 c l=>obtain⟨_,_,q,_⟩:=hc;rw[hb] at q;cases q
  |oQ c l=>obtain⟨_,_,_,q,_⟩:=hc;rw[hb] at q;cases q
  |uo=>cases n
  |xA l=>cases n
  |Fc l=>cases n
 ·cases e:w.hid b with
  |none=>exact z e
  |some u =>
   have:=h.hid b u e
   rw[hb] at this;cases this;exact h.hl b xs e
theorem VD (ha:TV G k X a fa):Ss G k X tg a (sM iD fa):=.mk<|λox=>(Up (ha ox)).wk λσ H Q h=>by
 obtain⟨w,S,τ,hr,sl,q⟩:=h;refine⟨w,S,τ,hr,sl,(bh.aF q).mono λx H1 cA=>?_⟩
 obtain⟨w1,S1,t1,c8,bK,r1,_,q1⟩:=cA;unfold iD at q1;split at q1
 ·rename_i n _
  have hx:=r1.cS.2;split at q1
  ·rename_i l en
   obtain⟨aU,h1,h2⟩:=bK.cell _ _ en;refine⟨_,.dK aU,hx,trivial,.inl ⟨h1,λob ks hk=>?_⟩⟩
   obtain⟨dP,fG⟩:=bK.O_ en rfl (c':=.xA l) rfl (o':=.sP ob (.dK aU)) (λw' le' hF=>⟨ob,aU,hF,h2.mono le'⟩)
   cases (show ks=_ from hk)
   exact q1 _ _ _ fG dP (AJ av (XD (h2.mono fG)))
  ·rename_i l en
   obtain⟨ob,aU,h1,h2⟩:=bK.cell _ _ en;refine⟨_,.dK aU,hx,trivial,.inr ⟨ob,bK.sub _ _ h1,λks hk=>?_⟩⟩
   cases (show ks=_ from hk)
   exact q1 _ _ _ (.refl _) bK (AJ h1 (XD h2))
  ·rename_i l en
   obtain⟨aU,h1,h2⟩:=bK.cell _ _ en;refine⟨_,.dT aU,hx,trivial,.inl ⟨h1,λob ks hk=>?_⟩⟩
   obtain⟨dP,fG⟩:=bK.O_ en rfl (c':=.Fc l) rfl (o':=.sP ob (.dT aU)) (λw' le' hF=>⟨ob,aU,hF,h2.mono le'⟩)
   have R:=Pb (S:=S1) (w:={w1 with F:=bG w1.F (w1.ρ n) (.sP ob (.dT aU))}) (λb xs hb=>fG.F _ _ (bK.ajI hb)) hk
   rw[h2.1,zby] at R;exact q1 _ _ _ fG dP (AJ av R)
  ·rename_i l en
   obtain⟨ob,aU,h1,h2⟩:=bK.cell _ _ en;refine⟨_,.dT aU,hx,trivial,.inr ⟨ob,bK.sub _ _ h1,λks hk=>?_⟩⟩
   have R:=Pb (S:=S1) (λb xs hb=>bK.ajI hb) hk
   rw[h2.1,zby] at R;exact q1 _ _ _ (.refl _) bK (AJ h1 R)
  ·exact q1.elim
 ·exact q1.elim
noncomputable def qj (H:Hp):List V->List (d_×V)->Prop
 |[],[]=>True
 |x::xs,(q,v)::r=>(∃a,x = .ref a/\H a=some (.gV [kV q,v]))/\qj H xs r
 |_,_=>False
theorem qj.len:∀{xs:List V} {r:List (d_×V)},qj H xs r->xs.length=r.length
 |[],[],_=>rfl
 |x::xs,(q,v)::r,h=>by simp[qj.len h.2]
 |[],_::_,h=>h.elim
 |_::_,[],h=>h.elim
theorem qj.get:∀{xs:List V} {r:List (d_×V)} {i:Nat} {x:V},qj H xs r->xs[i]? = some x->∃q v a,r[i]? = some (q,v)/\x = .ref a/\H a=some (.gV [kV q,v])
 |[],[],i,x,_,e=>by simp at e
 |y::xs,(q,v)::r,0,x,h,e=>by
  simp at e
  subst e;obtain⟨a,e1,e2⟩:=h.1;exact⟨q,v,a,rfl,e1,e2⟩
 |y::xs,(q,v)::r,i+1,x,h,e=>by simpa using qj.get (i:=i) h.2 (by simpa using e)
 |[],_::_,_,_,h,_=>h.elim
 |_::_,[],_,_,h,_=>h.elim
theorem Iv {r:List (d_×V)}(h:∀i q v,r[i]? = some (q,v)->(kv i).1=q/\bI v (kv i).2):∀n,n<=r.length->KV (gB [] (r.take n)) (um kv n)
 |0,_=>.nil
 |n+1,hn=>by
  have ih:=Iv h n (by omega)
  have e:r.take (n+1)=r.take n++[r[n]'(by omega)]:=by rw[List.take_add_one,zaf (by omega)];rfl
  obtain⟨e1,e2⟩:=h n (r[n]'(by omega)).1 (r[n]'(by omega)).2 (zaf (by omega))
  rw[e];unfold gB um;rw[List.foldl_append];show KV (kY (gB [] (r.take n)) (r[n]'(by omega)).1 (r[n]'(by omega)).2) (stored (um kv n) (kv n).1 (kv n).2)
  rw[e1];exact ih.EL _ e2
theorem FO (hc:X.e_=true):jD X (.type "dict") (λxs H Q=>∃(p:Addr) (ys:List V) (r:List (d_×V)),xs=[.ref p]/\H p=some (.bS ys)/\qj H ys r/\r.length<=1000/\∀l,H l=none->Q (.ref l) (bG H l (.dK (gB [] r)))):=by
 intro ah s σ H xs us Q I rr h;obtain⟨p,ys,r,rfl,hp,hr,hl,q⟩:=h;obtain⟨u,rfl,ru⟩:=tW rr;cases ru;obtain⟨bw,n,rv,e,_⟩:=I.bS hp;have dB:bw.length=r.length:=by rw[<-rv.length,hr.len]
 -- Es agO,qJ and qO of Es aqR
 have sr:∀i,i<r.length->∃(a:Addr) (kk vv:Value),bw[i]? = some (.ref a)/\qR s.heap a kk vv/\mL (r.getD i (.inl 0,.bz)).1 kk=true/\bI (r.getD i (.inl 0,.bz)).2 vv:=λi hi=>by
  have hy:i<ys.length:=by rw[hr.len];exact hi
  obtain⟨kq,v,a,e1,e2,e3⟩:=hr.get (zaf hy)
  obtain⟨u,hu,ru⟩:=rv.get (zaf hy)
  rw[e2] at ru;cases (show u=Value.ref a from ru)
  obtain⟨_,ws,EM,ob,ho,oc,m,od⟩:=(show cP X.prog X.w H s.heap a (.gV [kV kq,v]) from I.cF a _ e3)
  obtain⟨w1,w2,rfl,g1,g2⟩:=EM.two;have eg:r.getD i (.inl 0,.bz)=(kq,v):=by rw[zdv,e1];rfl
  rw[eg];exact⟨a,w1,w2,hu,⟨ob,m,ho,oc,od⟩,rP (P:=X.prog) (w:=X.w) g1,g2⟩
 let ad:Nat->Addr:=λi=>if h:i<r.length then (sr i h).choose else 0
 let kk:Nat->Value:=λi=>if h:i<r.length then (sr i h).choose_spec.choose else .none
 let kv:Nat->d_×Value:=λi=>if h:i<r.length then ((r.getD i (.inl 0,.bz)).1,(sr i h).choose_spec.choose_spec.choose) else (.inl 0,.none)
 have spec:∀i,i<r.length->bw[i]? = some (.ref (ad i))/\qR s.heap (ad i) (kk i) (kv i).2/\mL (kv i).1 (kk i)=true/\(kv i).1=(r.getD i (.inl 0,.bz)).1/\bI (r.getD i (.inl 0,.bz)).2 (kv i).2:=λi hi=>by
  have:=(sr i hi).choose_spec.choose_spec.choose_spec
  simp only[ad,kk,kv,dif_pos hi];exact⟨this.1,this.2.1,this.2.2.1,trivial,this.2.2.2⟩
 have hsz:bw.toArray.size=r.length:=by simp[dB]
 refine sG (ad:=ad) (kk:=kk) (kv:=kv) (I.ok.hd hc) e (λi v hv=>?_) (λi hi=>(spec i (by omega)).2.2.1) (by omega) (λm hm=>(spec m (by omega)).2.1) λh' tk hS hk=>?_
 ·have hv:bw[i]? = some v:=by simpa using hv
  have hi:i<r.length:=by rw[<-dB];exact (zab.mp hv).1
  rw[(spec i hi).1] at hv;exact (zaw hv).symm
 ·rw[hsz] at hS
  have hkv:KV (gB [] r) (um kv r.length):=by
   have:=Iv (kv:=kv) (r:=r) (λi kq v e1=>by
    have hi:i<r.length:=(zab.mp e1).1
    have eg:r.getD i (.inl 0,.bz)=(kq,v):=by rw[zdv,e1];rfl
    obtain⟨_,_,_,s4,s5⟩:=spec i hi;rw[eg] at s4 s5;exact⟨s4,s5⟩) r.length (zah _)
   rwa[zaJ] at this
  refine⟨.ref s.heap.objs.size,_,I.j_ (t':=tk) hk (zah _) (show cP X.prog X.w _ _ _ (.dK (gB [] r)) from ⟨?_,beq_eq_false_iff_ne.mpr (zbg (zar I.big)),_,hkv,hS⟩),rfl,q _ (I.cF.fresh (zah _))⟩
  have h1:=Al kv r.length;rw[hkv.length];exact zag h1 (zag hl (by decide))
noncomputable def rA:List Tr->Option (List (d_×Tr))
 |[]=>some []
 |.tp [a,b]::r=>(match jI a,rA r with|some q,some l=>some ((q,b)::l)|_,_=>none)
 |_=>none
noncomputable def AK:List Tr->Cs->R Tr:=λts S=>match ts with
 |[t]=>(match Cd S t with|some l=>(match rA l with|some ps=>if ps.length<=1000 then .ok (.hd S.length) (S++[.jV (fR [] ps)]) else .aG|none=>.aG)|none=>.aG)
 |_=>.aG
theorem yy (hF:∀b o,w.F b=some o->H b=some o):∀{l:List Tr} {ps:List (d_×Tr)} {xs:List V},rA l=some ps->bL w l xs->∃r,qj H xs r/\RK w ps r
 |[],ps,xs,e,rt=>by cases e;rw[rt.cD];exact⟨[],trivial,.nil⟩
 |.tp [a,b]::l,ps,xs,e,rt=>by
  obtain⟨x,xs',rfl,h1,h2⟩:=rt.bD;unfold rA at e;split at e
  ·rename_i q l' e1 e2
   cases e;obtain⟨r,g1,g2⟩:=yy hF e2 h2;unfold RT at h1;obtain⟨ad,ys,rfl,hy,ry⟩:=h1;obtain⟨y1,y2,rfl,ra,rb⟩:=HZ ry;rw[iI e1 ra] at hy;exact⟨(q,y2)::r,⟨⟨ad,rfl,hF _ _ hy⟩,g1⟩,.cons rb g2⟩
  ·cases e
 |.bz::_,_,_,e,_|.bl _::_,_,_,e,_|.int _::_,_,_,e,_|.str _::_,_,_,e,_|.ls _::_,_,_,e,_|.kt _::_,_,_,e,_|.kl _::_,_,_,e,_|.hd _::_,_,_,e,_=>by cases e
 |.tp []::_,_,_,e,_|.tp [_]::_,_,_,e,_|.tp (_::_::_::_)::_,_,_,e,_=>by cases e
theorem VE (hk:autoParam (0<k) zp_2):oR G k (.type "dict") AK:=.mk<|λX o ah s σ H xs us Q I rv cA=>by
 obtain⟨w,S,ts,hr,r,q⟩:=cA;unfold AK at q;split at q
 ·obtain⟨x,rfl,r1⟩:=gr r
  split at q
  ·rename_i l el
   split at q
   ·rename_i ps ep
    split at q
    ·rename_i hl
     obtain⟨a,ys,rfl,ha,ry⟩:=mW hr r1 el;obtain⟨rp,h1,h2⟩:=yy hr.sub ep ry;refine FO (o.e_ hk) ah s σ H _ us Q I rv ⟨a,ys,rp,rfl,ha,h1,by rw[h2.len];exact hl,λp hp=>?_⟩
     obtain⟨dP,le⟩:=hr.Kv (c:=.jV (fR [] ps)) hp (o:=.dK (gB [] rp)) rfl ⟨_,av,(RK.BK h2 .nil).mono (w.uq p)⟩
     refine q _ _ _ le dP ?_
     unfold RT;exact⟨by show S.length<w.n+1;rw[hr.n];exact zbo _,by show V.ref p=V.ref (if S.length=w.n then p else w.ρ S.length);rw[if_pos hr.n.symm]⟩
    ·exact q.elim
   ·exact q.elim
  ·exact q.elim
 ·exact q.elim
section
variable {a0 a1 a2 a3 a4 a5 a6 a7 a8 a9 sO Bo KZ a13 a14 a15 a16 a17 a18 a19:Option Tr}{x0 x1 x2 x3 x4 x5 x6 x7 x8 x9 gx gp K0 t y:Tr}{n0 n1 n2 n3 n4 n5 n6 n7 n8 n9 n10 n11 n12 n13 n14 n15 n16 c:Str}{r:En}{S:Cs}{sb:Sm}{q:Fn}{f:Tr->Cs->R β}{f':Tr->Cs->RS}{l:List Tr}{b:Bool}{z:Int}{g:Tr->Tr->Cs->R Tr}{fb:Em}{fr:En->Cs->R (List Tr)}{sc:Sm}{k n:Nat}{x:Str}{fs:List (Str×Tr)}
theorem sl {α:Type}{l:List α}(n:Nat)(h:l.length=n)(hn:autoParam (n<=20) zp_1):l.length<=sizeLine:=by rw[h];exact zag hn (by decide)
theorem XE {i:Int}(h:iX l i=some y):bM (.tp l) (.int i) S = .ok y S:=by rw[O4];simp only[Cf,h]
theorem ixl {i:Int}(h:iX l i=some y):bM (.ls l) (.int i) S = .ok y S:=by rw[O4];simp only[Cf,h]
theorem vV0:aa 0 (some t::r) S = .ok t S:=rfl
theorem bV0:(aa 0 (some t::r) S).aF f=f t S:=rfl
theorem sV0:(aa 0 (some t::r) S).bR f'=f' t S:=rfl
theorem kS0:mH 0 (a0::r) t S = .nx (some t::r) S:=rfl
theorem bN0:cg 0 t (a0::r) S = .ok (some t::r) S:=rfl
theorem bV1:(aa 1 (a0::some t::r) S).aF f=f t S:=rfl
theorem sV1:(aa 1 (a0::some t::r) S).bR f'=f' t S:=rfl
theorem kS1:mH 1 (a0::a1::r) t S = .nx (a0::some t::r) S:=rfl
theorem bN1:cg 1 t (a0::a1::r) S = .ok (a0::some t::r) S:=rfl
theorem vV2:aa 2 (a0::a1::some t::r) S = .ok t S:=rfl
theorem bV2:(aa 2 (a0::a1::some t::r) S).aF f=f t S:=rfl
theorem sV2:(aa 2 (a0::a1::some t::r) S).bR f'=f' t S:=rfl
theorem kS2:mH 2 (a0::a1::a2::r) t S = .nx (a0::a1::some t::r) S:=rfl
theorem bN2:cg 2 t (a0::a1::a2::r) S = .ok (a0::a1::some t::r) S:=rfl
theorem vV3:aa 3 (a0::a1::a2::some t::r) S = .ok t S:=rfl
theorem bV3:(aa 3 (a0::a1::a2::some t::r) S).aF f=f t S:=rfl
theorem sV3:(aa 3 (a0::a1::a2::some t::r) S).bR f'=f' t S:=rfl
theorem kS3:mH 3 (a0::a1::a2::a3::r) t S = .nx (a0::a1::a2::some t::r) S:=rfl
theorem bN3:cg 3 t (a0::a1::a2::a3::r) S = .ok (a0::a1::a2::some t::r) S:=rfl
theorem bV4:(aa 4 (a0::a1::a2::a3::some t::r) S).aF f=f t S:=rfl
theorem sV4:(aa 4 (a0::a1::a2::a3::some t::r) S).bR f'=f' t S:=rfl
theorem kS4:mH 4 (a0::a1::a2::a3::a4::r) t S = .nx (a0::a1::a2::a3::some t::r) S:=rfl
theorem bN4:cg 4 t (a0::a1::a2::a3::a4::r) S = .ok (a0::a1::a2::a3::some t::r) S:=rfl
theorem bV5:(aa 5 (a0::a1::a2::a3::a4::some t::r) S).aF f=f t S:=rfl
theorem sV5:(aa 5 (a0::a1::a2::a3::a4::some t::r) S).bR f'=f' t S:=rfl
theorem kS5:mH 5 (a0::a1::a2::a3::a4::a5::r) t S = .nx (a0::a1::a2::a3::a4::some t::r) S:=rfl
theorem bN5:cg 5 t (a0::a1::a2::a3::a4::a5::r) S = .ok (a0::a1::a2::a3::a4::some t::r) S:=rfl
theorem bV6:(aa 6 (a0::a1::a2::a3::a4::a5::some t::r) S).aF f=f t S:=rfl
theorem kS6:mH 6 (a0::a1::a2::a3::a4::a5::a6::r) t S = .nx (a0::a1::a2::a3::a4::a5::some t::r) S:=rfl
theorem bN6:cg 6 t (a0::a1::a2::a3::a4::a5::a6::r) S = .ok (a0::a1::a2::a3::a4::a5::some t::r) S:=rfl
theorem bV7:(aa 7 (a0::a1::a2::a3::a4::a5::a6::some t::r) S).aF f=f t S:=rfl
theorem kS7:mH 7 (a0::a1::a2::a3::a4::a5::a6::a7::r) t S = .nx (a0::a1::a2::a3::a4::a5::a6::some t::r) S:=rfl
theorem bV8:(aa 8 (a0::a1::a2::a3::a4::a5::a6::a7::some t::r) S).aF f=f t S:=rfl
theorem kS8:mH 8 (a0::a1::a2::a3::a4::a5::a6::a7::a8::r) t S = .nx (a0::a1::a2::a3::a4::a5::a6::a7::some t::r) S:=rfl
theorem kS9:mH 9 (a0::a1::a2::a3::a4::a5::a6::a7::a8::a9::r) t S = .nx (a0::a1::a2::a3::a4::a5::a6::a7::a8::some t::r) S:=rfl
theorem bN9:cg 9 t (a0::a1::a2::a3::a4::a5::a6::a7::a8::a9::r) S = .ok (a0::a1::a2::a3::a4::a5::a6::a7::a8::some t::r) S:=rfl
theorem aoD:mH 10 (a0::a1::a2::a3::a4::a5::a6::a7::a8::a9::sO::r) t S = .nx (a0::a1::a2::a3::a4::a5::a6::a7::a8::a9::some t::r) S:=rfl
theorem aoE:cg 10 t (a0::a1::a2::a3::a4::a5::a6::a7::a8::a9::sO::r) S = .ok (a0::a1::a2::a3::a4::a5::a6::a7::a8::a9::some t::r) S:=rfl
theorem aoF:mH 11 (a0::a1::a2::a3::a4::a5::a6::a7::a8::a9::sO::Bo::r) t S = .nx (a0::a1::a2::a3::a4::a5::a6::a7::a8::a9::sO::some t::r) S:=rfl
theorem aoG:(aa 12 (a0::a1::a2::a3::a4::a5::a6::a7::a8::a9::sO::Bo::some t::r) S).aF f=f t S:=rfl
theorem aoH:mH 12 (a0::a1::a2::a3::a4::a5::a6::a7::a8::a9::sO::Bo::KZ::r) t S = .nx (a0::a1::a2::a3::a4::a5::a6::a7::a8::a9::sO::Bo::some t::r) S:=rfl
theorem aoI:mH 13 (a0::a1::a2::a3::a4::a5::a6::a7::a8::a9::sO::Bo::KZ::a13::r) t S = .nx (a0::a1::a2::a3::a4::a5::a6::a7::a8::a9::sO::Bo::KZ::some t::r) S:=rfl
theorem aoJ:(aa 14 (a0::a1::a2::a3::a4::a5::a6::a7::a8::a9::sO::Bo::KZ::a13::some t::r) S).aF f=f t S:=rfl
theorem aoK:mH 14 (a0::a1::a2::a3::a4::a5::a6::a7::a8::a9::sO::Bo::KZ::a13::a14::r) t S = .nx (a0::a1::a2::a3::a4::a5::a6::a7::a8::a9::sO::Bo::KZ::a13::some t::r) S:=rfl
theorem aoL:(aa 15 (a0::a1::a2::a3::a4::a5::a6::a7::a8::a9::sO::Bo::KZ::a13::a14::some t::r) S).aF f=f t S:=rfl
theorem aoM:mH 15 (a0::a1::a2::a3::a4::a5::a6::a7::a8::a9::sO::Bo::KZ::a13::a14::a15::r) t S = .nx (a0::a1::a2::a3::a4::a5::a6::a7::a8::a9::sO::Bo::KZ::a13::a14::some t::r) S:=rfl
theorem bC:(mC t r S).aF f=f t S:=rfl
theorem sC:(mC t r S).bR f'=f' t S:=rfl
theorem ajK:dw [n0] sb [x0] S=(sb [some x0] S).fu:=rfl
theorem ajL:dw [n0,n1] sb [x0] S=(sb [some x0,none] S).fu:=rfl
theorem ajM:dw [n0,n1,n2] sb [x0] S=(sb [some x0,none,none] S).fu:=rfl
theorem ajN:dw [n0,n1,n2,n3] sb [x0] S=(sb [some x0,none,none,none] S).fu:=rfl
theorem ajO:dw [n0,n1,n2,n3,n4,n5,n6,n7] sb [x0] S=(sb [some x0,none,none,none,none,none,none,none] S).fu:=rfl
theorem adx:dw [n0,n1,n2,n3,n4,n5,n6,n7,n8,n9,n10,n11,n12] sb [x0] S=(sb [some x0,none,none,none,none,none,none,none,none,none,none,none,none] S).fu:=rfl
theorem ajP:dw [n0,n1] sb [x0,x1] S=(sb [some x0,some x1] S).fu:=rfl
theorem ajQ:dw [n0,n1,n2] sb [x0,x1] S=(sb [some x0,some x1,none] S).fu:=rfl
theorem ajR:dw [n0,n1,n2,n3] sb [x0,x1] S=(sb [some x0,some x1,none,none] S).fu:=rfl
theorem ajS:dw [n0,n1,n2,n3,n4] sb [x0,x1] S=(sb [some x0,some x1,none,none,none] S).fu:=rfl
theorem ajT:dw [n0,n1,n2,n3,n4,n5] sb [x0,x1] S=(sb [some x0,some x1,none,none,none,none] S).fu:=rfl
theorem ajU:dw [n0,n1,n2,n3,n4,n5,n6,n7] sb [x0,x1] S=(sb [some x0,some x1,none,none,none,none,none,none] S).fu:=rfl
theorem ajV:dw [n0,n1,n2,n3,n4,n5,n6,n7,n8] sb [x0,x1] S=(sb [some x0,some x1,none,none,none,none,none,none,none] S).fu:=rfl
theorem ajW:dw [n0,n1,n2] sb [x0,x1,x2] S=(sb [some x0,some x1,some x2] S).fu:=rfl
theorem ajX:dw [n0,n1,n2,n3] sb [x0,x1,x2] S=(sb [some x0,some x1,some x2,none] S).fu:=rfl
theorem ajY:dw [n0,n1,n2,n3,n4] sb [x0,x1,x2] S=(sb [some x0,some x1,some x2,none,none] S).fu:=rfl
theorem ajZ:dw [n0,n1,n2,n3,n4,n5,n6] sb [x0,x1,x2] S=(sb [some x0,some x1,some x2,none,none,none,none] S).fu:=rfl
theorem aj0:dw [n0,n1,n2,n3,n4,n5,n6,n7,n8] sb [x0,x1,x2] S=(sb [some x0,some x1,some x2,none,none,none,none,none,none] S).fu:=rfl
theorem aj1:dw [n0,n1,n2,n3] sb [x0,x1,x2,x3] S=(sb [some x0,some x1,some x2,some x3] S).fu:=rfl
theorem aj2:dw [n0,n1,n2,n3,n4,n5] sb [x0,x1,x2,x3] S=(sb [some x0,some x1,some x2,some x3,none,none] S).fu:=rfl
theorem aj3:dw [n0,n1,n2,n3,n4,n5,n6,n7] sb [x0,x1,x2,x3] S=(sb [some x0,some x1,some x2,some x3,none,none,none,none] S).fu:=rfl
theorem ady:dw [n0,n1,n2,n3,n4,n5,n6,n7,n8,n9,n10,n11,n12,n13,n14,n15] sb [x0,x1,x2,x3] S=(sb [some x0,some x1,some x2,some x3,none,none,none,none,none,none,none,none,none,none,none,none] S).fu:=rfl
theorem aj4:dw [n0,n1,n2,n3,n4] sb [x0,x1,x2,x3,x4] S=(sb [some x0,some x1,some x2,some x3,some x4] S).fu:=rfl
theorem aj5:Sv [n0,n1] sb [x0,x1] S=(sb [some x0,some x1] S).KW:=rfl
theorem aj6:Sv [n0,n1,n2,n3] sb [x0,x1] S=(sb [some x0,some x1,none,none] S).KW:=rfl
theorem aj7:Sv [n0,n1,n2] sb [x0,x1,x2] S=(sb [some x0,some x1,some x2] S).KW:=rfl
theorem kF1:kFn 1 q [x0] S=q [x0] S:=rfl
theorem kF2:kFn 2 q [x0,x1] S=q [x0,x1] S:=rfl
theorem kF3:kFn 3 q [x0,x1,x2] S=q [x0,x1,x2] S:=rfl
theorem kF4:kFn 4 q [x0,x1,x2,x3] S=q [x0,x1,x2,x3] S:=rfl
theorem kF5:kFn 5 q [x0,x1,x2,x3,x4] S=q [x0,x1,x2,x3,x4] S:=rfl
theorem kM1:uM 1 q t [] S=q [t] S:=rfl
theorem kM2:uM 2 q t [x0] S=q [t,x0] S:=rfl
theorem kM3:uM 3 q t [x0,x1] S=q [t,x0,x1] S:=rfl
theorem kK3:Iu c 3 q [x0,x1] S=(q [.hd S.length,x0,x1] (S++[.e9 c []])).aF (uN S.length):=rfl
theorem kK5:Iu c 5 q [x0,x1,x2,x3] S=(q [.hd S.length,x0,x1,x2,x3] (S++[.e9 c []])).aF (uN S.length):=rfl
theorem kL0:CD [] S = .ok (.ls []) S:=if_pos (sl 0 rfl)
theorem kC0:Xx [] S = .ok (.hd S.length) (S++[.bS []])  := if_pos (sl 0 rfl)
theorem kT1:AG [x0] S = .ok (.tp [x0]) S:=if_pos (sl 1 rfl)
theorem kL1:CD [x0] S = .ok (.ls [x0]) S:=if_pos (sl 1 rfl)
theorem kT2:AG [x0,x1] S = .ok (.tp [x0,x1]) S:=if_pos (sl 2 rfl)
theorem kL2:CD [x0,x1] S = .ok (.ls [x0,x1]) S:=if_pos (sl 2 rfl)
theorem kT3:AG [x0,x1,x2] S = .ok (.tp [x0,x1,x2]) S:=if_pos (sl 3 rfl)
theorem kT4:AG [x0,x1,x2,x3] S = .ok (.tp [x0,x1,x2,x3]) S:=if_pos (sl 4 rfl)
theorem kL4:CD [x0,x1,x2,x3] S = .ok (.ls [x0,x1,x2,x3]) S:=if_pos (sl 4 rfl)
theorem kT5:AG [x0,x1,x2,x3,x4] S = .ok (.tp [x0,x1,x2,x3,x4]) S:=if_pos (sl 5 rfl)
theorem kL5:CD [x0,x1,x2,x3,x4] S = .ok (.ls [x0,x1,x2,x3,x4]) S:=if_pos (sl 5 rfl)
theorem kT6:AG [x0,x1,x2,x3,x4,x5] S = .ok (.tp [x0,x1,x2,x3,x4,x5]) S:=if_pos (sl 6 rfl)
theorem kL6:CD [x0,x1,x2,x3,x4,x5] S = .ok (.ls [x0,x1,x2,x3,x4,x5]) S:=if_pos (sl 6 rfl)
theorem kT7:AG [x0,x1,x2,x3,x4,x5,x6] S = .ok (.tp [x0,x1,x2,x3,x4,x5,x6]) S:=if_pos (sl 7 rfl)
theorem kT8:AG [x0,x1,x2,x3,x4,x5,x6,x7] S = .ok (.tp [x0,x1,x2,x3,x4,x5,x6,x7]) S:=if_pos (sl 8 rfl)
theorem kL8:CD [x0,x1,x2,x3,x4,x5,x6,x7] S = .ok (.ls [x0,x1,x2,x3,x4,x5,x6,x7]) S:=if_pos (sl 8 rfl)
theorem iT0:bM (.tp (y::l)) (.int 0) S = .ok y S:=XE (by simp[at0])
theorem iT1:bM (.tp (x0::y::l)) (.int 1) S = .ok y S:=XE (by simp[at1])
theorem iT2:bM (.tp (x0::x1::y::l)) (.int 2) S = .ok y S:=XE (by simp[at2])
theorem iT3:bM (.tp (x0::x1::x2::y::l)) (.int 3) S = .ok y S:=XE (by simp[at3])
theorem iT4:bM (.tp (x0::x1::x2::x3::y::l)) (.int 4) S = .ok y S:=XE (by simp[at4])
theorem iT5:bM (.tp (x0::x1::x2::x3::x4::y::l)) (.int 5) S = .ok y S:=XE (by simp[at5])
theorem iT6:bM (.tp (x0::x1::x2::x3::x4::x5::y::l)) (.int 6) S = .ok y S:=XE (by simp[at6])
theorem iT7:bM (.tp (x0::x1::x2::x3::x4::x5::x6::y::l)) (.int 7) S = .ok y S:=XE (by simp[at7])
theorem iL0:bM (.ls (y::l)) (.int 0) S = .ok y S:=ixl (by simp[at0])
theorem iL1:bM (.ls (x0::y::l)) (.int 1) S = .ok y S:=ixl (by simp[at1])
theorem aoN:ai g (aa 0) fb (some t::r) S=(fb (some t::r) S).aF (g t):=rfl
theorem aoO:uL g (aa 0) (some t::r) y S=g y t S:=rfl
theorem aV0:af (aa 0) fr (some t::r) S=(fr (some t::r) S).aF (fN t):=rfl
theorem aoP:ai g (aa 1) fb (a0::some t::r) S=(fb (a0::some t::r) S).aF (g t):=rfl
theorem aoQ:uL g (aa 1) (a0::some t::r) y S=g y t S:=rfl
theorem aV1:af (aa 1) fr (a0::some t::r) S=(fr (a0::some t::r) S).aF (fN t):=rfl
theorem aoR:ai g (aa 2) fb (a0::a1::some t::r) S=(fb (a0::a1::some t::r) S).aF (g t):=rfl
theorem aoS:uL g (aa 2) (a0::a1::some t::r) y S=g y t S:=rfl
theorem aV2:af (aa 2) fr (a0::a1::some t::r) S=(fr (a0::a1::some t::r) S).aF (fN t):=rfl
theorem aoT:ai g (aa 3) fb (a0::a1::a2::some t::r) S=(fb (a0::a1::a2::some t::r) S).aF (g t):=rfl
theorem aoU:uL g (aa 3) (a0::a1::a2::some t::r) y S=g y t S:=rfl
theorem aV3:af (aa 3) fr (a0::a1::a2::some t::r) S=(fr (a0::a1::a2::some t::r) S).aF (fN t):=rfl
theorem aoV:ai g (aa 4) fb (a0::a1::a2::a3::some t::r) S=(fb (a0::a1::a2::a3::some t::r) S).aF (g t):=rfl
theorem aoW:uL g (aa 4) (a0::a1::a2::a3::some t::r) y S=g y t S:=rfl
theorem aV4:af (aa 4) fr (a0::a1::a2::a3::some t::r) S=(fr (a0::a1::a2::a3::some t::r) S).aF (fN t):=rfl
theorem aoX:ai g (aa 5) fb (a0::a1::a2::a3::a4::some t::r) S=(fb (a0::a1::a2::a3::a4::some t::r) S).aF (g t):=rfl
theorem aV5:af (aa 5) fr (a0::a1::a2::a3::a4::some t::r) S=(fr (a0::a1::a2::a3::a4::some t::r) S).aF (fN t):=rfl
theorem aoY:ai g (aa 6) fb (a0::a1::a2::a3::a4::a5::some t::r) S=(fb (a0::a1::a2::a3::a4::a5::some t::r) S).aF (g t):=rfl
theorem aoZ:uL g (aa 6) (a0::a1::a2::a3::a4::a5::some t::r) y S=g y t S:=rfl
theorem aV6:af (aa 6) fr (a0::a1::a2::a3::a4::a5::some t::r) S=(fr (a0::a1::a2::a3::a4::a5::some t::r) S).aF (fN t):=rfl
theorem ao0:ai g (aa 7) fb (a0::a1::a2::a3::a4::a5::a6::some t::r) S=(fb (a0::a1::a2::a3::a4::a5::a6::some t::r) S).aF (g t):=rfl
theorem aV7:af (aa 7) fr (a0::a1::a2::a3::a4::a5::a6::some t::r) S=(fr (a0::a1::a2::a3::a4::a5::a6::some t::r) S).aF (fN t):=rfl
theorem ao1:ai g (aa 8) fb (a0::a1::a2::a3::a4::a5::a6::a7::some t::r) S=(fb (a0::a1::a2::a3::a4::a5::a6::a7::some t::r) S).aF (g t):=rfl
theorem ao2:uL g (aa 8) (a0::a1::a2::a3::a4::a5::a6::a7::some t::r) y S=g y t S:=rfl
theorem aV8:af (aa 8) fr (a0::a1::a2::a3::a4::a5::a6::a7::some t::r) S=(fr (a0::a1::a2::a3::a4::a5::a6::a7::some t::r) S).aF (fN t):=rfl
theorem ao3:ai g (aa 9) fb (a0::a1::a2::a3::a4::a5::a6::a7::a8::some t::r) S=(fb (a0::a1::a2::a3::a4::a5::a6::a7::a8::some t::r) S).aF (g t):=rfl
theorem ao4:uL g (aa 9) (a0::a1::a2::a3::a4::a5::a6::a7::a8::some t::r) y S=g y t S:=rfl
theorem aV9:af (aa 9) fr (a0::a1::a2::a3::a4::a5::a6::a7::a8::some t::r) S=(fr (a0::a1::a2::a3::a4::a5::a6::a7::a8::some t::r) S).aF (fN t):=rfl
theorem aj8:ai g (aa 10) fb (a0::a1::a2::a3::a4::a5::a6::a7::a8::a9::some t::r) S=(fb (a0::a1::a2::a3::a4::a5::a6::a7::a8::a9::some t::r) S).aF (g t):=rfl
theorem ao5:af (aa 10) fr (a0::a1::a2::a3::a4::a5::a6::a7::a8::a9::some t::r) S=(fr (a0::a1::a2::a3::a4::a5::a6::a7::a8::a9::some t::r) S).aF (fN t):=rfl
theorem aj9:ai g (aa 11) fb (a0::a1::a2::a3::a4::a5::a6::a7::a8::a9::sO::some t::r) S=(fb (a0::a1::a2::a3::a4::a5::a6::a7::a8::a9::sO::some t::r) S).aF (g t):=rfl
theorem ao6:af (aa 11) fr (a0::a1::a2::a3::a4::a5::a6::a7::a8::a9::sO::some t::r) S=(fr (a0::a1::a2::a3::a4::a5::a6::a7::a8::a9::sO::some t::r) S).aF (fN t):=rfl
theorem aka:ai g (aa 12) fb (a0::a1::a2::a3::a4::a5::a6::a7::a8::a9::sO::Bo::some t::r) S=(fb (a0::a1::a2::a3::a4::a5::a6::a7::a8::a9::sO::Bo::some t::r) S).aF (g t):=rfl
theorem akb:ai g (aa 13) fb (a0::a1::a2::a3::a4::a5::a6::a7::a8::a9::sO::Bo::KZ::some t::r) S=(fb (a0::a1::a2::a3::a4::a5::a6::a7::a8::a9::sO::Bo::KZ::some t::r) S).aF (g t):=rfl
theorem ao7:af (aa 13) fr (a0::a1::a2::a3::a4::a5::a6::a7::a8::a9::sO::Bo::KZ::some t::r) S=(fr (a0::a1::a2::a3::a4::a5::a6::a7::a8::a9::sO::Bo::KZ::some t::r) S).aF (fN t):=rfl
theorem sS4:(R.ok t S).bR (mH 4 (a0::a1::a2::a3::a4::r)) = .nx (a0::a1::a2::a3::some t::r) S:=rfl
theorem kBC:uL g (mC y) r t S=g t y S:=rfl
theorem kCN:OX ak r t S = .ok [t] S:=rfl
theorem aC:af (mC t) fr r S=(fr r S).aF (fN t):=rfl
theorem ln7:∀{p0 p1 p2 p3 p4 p5 p6:Str×Tr},([p0,p1,p2,p3,p4,p5,p6]:List (Str×Tr)).length=7:=rfl
theorem ao8:∀{p0 p1 p2 p3 p4 p5 p6 p7 p8 p9 p10 p11:Str×Tr},([p0,p1,p2,p3,p4,p5,p6,p7,p8,p9,p10,p11]:List (Str×Tr)).length=12:=rfl
end
section
variable {G:Gx}{k:Nat}{X:Cx}{e o:Expr}{es:List Expr}{f:Em}{fo:Em}{fr:En->Cs->R (List Tr)}{x:Str}{pos kh p fE:Pos}{CX:_}{j n:Nat}{ad:Addr}{fd:FuncData}{ps:List Str}{q:Fn}{st:Stmt}{c m:Str}
theorem ao9 (i:Nat)(hN:X.N.Nodup)(he:TV G k X e f)(hi:autoParam (X.N[i]? = some x) zp_0)(hx:autoParam (W3 X.env.scope x) zp_10)(hs:autoParam (swapsWith e (some (.Name x kh)) pos.line X.env=pure false) zp_0)(hf:autoParam (X.fn x=true\/X.env.scope.names.lookup x=some .local) zp_4):An G k X (.Assign [.Name x kh] e pos) (bf i f):=acC hN hi hx he hs hf
theorem f_ (i:Nat)(hN:X.N.Nodup)(hi:autoParam (X.N[i]? = some x) zp_0)(hx:autoParam (W3 X.env.scope x) zp_10)(hf:autoParam (X.fn x=true\/X.env.scope.names.lookup x=some .local) zp_4):Oa G k X (.Name x pos) (cg i):=UJ hN hi hx hf
theorem dH (F:aO X.prog X.w X.K X.mg X.base CX j ad fd ps (dM G.K G.cl n q))(D:qG X.K X.mg x st ps ad fd)(ha:xm G k X (e::es) fr)(hj:autoParam (j<=k) zp_1)(hx:fH CX X G.E:=by first|exact aB|exact FI)
  (hg:autoParam (Gl X x) zp_0) (tZ:autoParam ((x == ("__debug__" : Str))=false) zp_1) (he:autoParam (c_ e=false) zp_0) (hpl:autoParam (cX es=true) zp_0) (sZ:autoParam (0<k) zp_2):
  TV G k X (.Call (.Name x p) (e::es) [] pos) (gF n q fr):=UW F hj D.m D.F.kp D.b hx ha hg tZ he hpl sZ
theorem MA {F T:List Str}{ns:List Nat}{sc:Scope}(st:Stmt)(d:(∀y∈sc.names,y.2 ≠ .cell)/\(∀y∈sc.names,y.2 = .local->sc.names.lookup y.1=some .local)/\(∀y∈sc.names,y.2 = .free->(aj st).names.lookup y.1=some .cell)/\∀x∈F,sc.names.lookup x=some .free)(h1:autoParam (sc.kind = .function) zp_0)(h6:autoParam (ns.map (λj=>X.N[j]?)=F.map some) zp_0)(he:autoParam (∀n,X.env.kindOf n=(aj st).names.lookup n) zp_3):dO X F T ns sc:=⟨h1,d.1,d.2.1,λy hy h=>(he _).trans (d.2.2.1 y hy h),d.2.2.2,h6⟩
end
section
variable {prog:Program}{w:World}{A:Around}{E:Value->Shared->Prop}{s:Shared}{z0:Array Keyed}
end
section
variable {G:Gx}{k:Nat}{w:Wd}{X:Cx}{ah:List (Addr×Obj)}{s:Shared}{σ:St}{H:Hp}
end
end L2
namespace L2
open PySem PySem.Spec PyProof.Rows
section
variable {X:Cx}{o:Expr}{lo hi:Option Expr}{to:TE}{tl th:TO}{p2 pos:Pos}
end
section
variable {G:Gx}{k:Nat}{w:Wd}{X:Cx}{o:Expr}{fo fl fh:Em}{p2 pos:Pos}
end
section
variable {G:Gx}{k:Nat}{w:Wd}{X:Cx}{ah:List (Addr×Obj)}{s:Shared}{σ:St}{H:Hp}
end
end L2
namespace L2
open PySem PySem.Spec PyProof.Rows
section
variable {prog:Program}{w:World}{A:Around}{E:Value->Shared->Prop}{s:Shared}
end
end L2
namespace L2
open PySem PySem.Spec PyProof.Rows
section
variable {X:Cx}{tg a:Expr}{ta:TA}{p2 Um:Pos}
end
section
variable {G:Gx}{k:Nat}{X:Cx}{a tg:Expr}{fr:En->Cs->R (List Tr)}{p2 Um:Pos}
end
noncomputable def Ex1 (E:XK):XK:=λcls oa H'=>∃a C od T,oa=some a/\cls = .ref C/\H' a=some (o6 a C od T)/\H' T=some (TB T)/\T≠a/\∀T',H' T'=none->T'≠a->E cls oa (bG (bG H' a (o6 a C od T')) T' (TB T'))
theorem Pc {P:Program}{w:World}{K:W.Frag}{mg:Str->Option Value}{base:Heap}{N:List Str}{bX:Str}{scope:Scope}{f:Addr}{fB:Value}{A:Around}{outer:List Env}{s₀:Shared}{H₀:Hp}{E:XK}:
  fH (oh P w) (iN (oh P w) P w K mg base N bX scope f fB A outer s₀ H₀ E) (Ex1 E):=by
 intro ah σ H s e s' I h;obtain⟨a,_,C,_,H2,rfl,Tv,OO,un,cF,_,_,_,a9,C9,od,T,ea,ec,Xf,Xs,Ta,hE⟩:=h;cases ea;cases ec;have I2:aK (iN (oh P w) P w K mg base N bX scope f fB A outer s₀ H₀ E) ah σ H2 s':=I.Bx (ch:=[]) Tv un cF OO (λb z=>absurd z (by simp))
 obtain⟨t0,ga⟩:=(show ∃t,s'.heap.get? a=some (gY C od t (.ref T)) from (I2.cF a _ Xf).1)
 have gT:uf s'.heap T:=(I2.cF T _ Xs).1
 show wpAny (model P w) _ (leaving _ (.ref a)) _ _ s'
 unfold leaving;refine zaa (ya (base:=base) I2.ok.frames I2.xr.kR rfl ga gT Ta λh1 h' T' k1 tb1 z1 Lf=>?_)
 have Ul:T'≠a:=zbS (zak (zan ga) (by rw[<-z1];exact Lf.new))
 have nT':H2 T'=none:=I2.cF.fresh (by rw[<-z1];exact Lf.new)
 have I3:aK (iN (oh P w) P w K mg base N bX scope f fB A outer s₀ H₀ E) ah σ (bG (bG H2 a (o6 a C od T')) T' (TB T')) {s' with heap:=h' }:=I2.B3 Xf Xs Ta Ul k1 tb1 z1 Lf
 exact⟨a,T',C,od,_,rfl,I3.os,I3.iC,I3.base,I3.cF,by rw[au Ul.symm];exact av,av,Ul,hE T' nT' Ul⟩
theorem K1 {K:W.Frag}{cl:Str->Addr}{E:XK}{w:Wd}{n:Nat}{S:Cs}(h:pT ⟨K,cl,E⟩ w n S):pT ⟨K,cl,Ex1 E⟩ w n S:=by
 obtain⟨c,fs,e,k⟩:=h;refine⟨c,fs,e,λw' H' le hr=>?_⟩
 have ow:HR ⟨K,cl,E⟩ w' S H':=HR.swE hr
 obtain⟨d,T0,h1,h2,h3,h4⟩:=ow.B3 e;refine⟨_,_,_,T0,rfl,rfl,h1,h2,h3,λT' hT' nT'=>?_⟩
 obtain⟨w2,l2,r2,dP⟩:=h4 T' hT' nT';have q:=k w2 _ (le.trans l2) dP
 rw[r2] at q;exact q
theorem Pd {K:W.Frag}{cl:Str->Addr}{E:XK}{w:Wd}{r:R Tr}{Q:VK}(h:bh RT ⟨K,cl,E⟩ w r Q):bh RT ⟨K,cl,Ex1 E⟩ w r Q:=by
 cases r with
 |ok t S=>exact λw' H' v le hr rv=>h w' H' v le (HR.swE hr) rv
 |ex n S=>exact K1 h
 |aG=>exact h
section
variable {G:Gx}{k j n:Nat}{X:Cx}{f:Addr}{fd:FuncData}{ps:List Str}{q:Fn}{m c:Str}{pos fE:Pos}{e o:Expr}{es:List Expr}{fr:En->Cs->R (List Tr)}{fo:Em}{CX:BE}{pl:Sem Bool}
theorem uO (hc:sj G.K (G.cl c))(hM:cL G.K (G.cl c) m f)(F:aO X.prog X.w X.K X.mg X.base CX j f fd ps (dM G.K G.cl n q))(hj:j<=k)(hb:dQ X.K fd ps [])(hx:fH CX X (Ex1 G.E))(ho:TV G k X o fo)(ha:xm G k X (e::es) fr)
  (oK:autoParam (c_ e=false) zp_0) (hpl:autoParam (cX es=true) zp_0)
  (ht:autoParam (eval (.Call (.Attribute o m fE) (e::es) [] pos) X.env=(do
   let ov <-eval o X.env
   standAt fE.atName
   let (f,first) <-holding [ov] (getMethod ov m pl)
   callWith pos f first (backTo pos (starEach (e::es) X.env)) (backToKw pos (keywordEach [] X.env)))) zp_0) (sZ:autoParam (0<k) zp_2):TV G k X (.Call (.Attribute o m fE) (e::es) [] pos) (aH c m n q fo fr):=.mk<|λox =>
 (HA (ho ox) (by rw[ox.K];exact hc) (by rw[ox.K];exact hM) F ((ox.room sZ).mono hj) hb .nil hx (ha ox) (cE oK) (dS hpl) ht).wk λσ H Q h=>by
  obtain⟨w,S,τ,hr,sl,z⟩:=AA h;refine⟨w,S,τ,hr,sl,z.mono λv H1 zp=>?_⟩
  obtain⟨a,dx,fs,e1,e2,e3,w1,S1,eN,bK,E8,z1⟩:=zp;refine⟨a,dx,fs,e1,e2,e3,w1,S1,eN,bK,E8,z1.mono λvs H2 zp2=>?_⟩
  obtain⟨w2,S2,ts,dP,r2,hn,q2⟩:=zp2;exact⟨w2,S2,ts,HR.swE dP,r2,hn,Pd q2⟩
end
noncomputable def PTs (X:Cx)(st:Stmt)(T:St->Hp->(Hp->Prop)->XK->Prop):Prop:=∀ah s σ H Q E,aK X ah σ H s->T σ H Q E ->
 wpAny (model X.prog X.w) X.A (exec st X.env) (λfl s'=>fl = .next/\∃H',aK X ah σ H' s'/\Q H') (λev s'=>∃H1 s1,aK X ah σ H1 s1/\oh X.prog X.w X.cR H1 s1 E ev s') s
section
variable {X:Cx}{k:Nat}{g B C:Addr}{fd:FuncData}{ps:List Str}{sp:Sp}{e o Pe:Expr}{es:List Expr}{ta:TE}{t:TA}{n m cB:Str}{l:Nat}{p cp ap np ep hp pos:Pos}{gZ:List Stmt}{mG a b:Stmt}{ts:TS}{tt:TT}
 {NS q':Str} {N':Addr} {NT bm':List Value} {mV:Bool} {NU:List Str} {ug:List Value} {NV:Bool} {uh:Option Bool} {xU:Option Addr} {j0 j1 j2 j3 j5:Option Value} {jg:String} {pl:Sem Bool} {T T1 T2:St->Hp->(Hp->Prop)->XK->Prop}
theorem VF (he:PE X.sS o ta)(c:sj X.K C)(hm:cL X.K C m g)(F:aO X.prog X.w X.K X.mg X.base (oh X.prog X.w) k g fd ps sp)(hr:gJ k X.A)(hb:dQ X.K fd ps [])(ha:PA X.sS (e::es) t)
  (Kn:autoParam (swapsWith (.Call (.Attribute o m ap) (e::es) [] cp) none ep.line X.env=pure false) zp_0)
  (oK:autoParam (starEach (e::es) X.env=(false,eval e X.env)::starEach es X.env) zp_0) (hpl:autoParam ((backTo cp (starEach es X.env)).any (·.1)=false) zp_0)
  (ht:autoParam (eval (.Call (.Attribute o m ap) (e::es) [] cp) X.env=(do
   let ov <-eval o X.env
   standAt ap.atName
   let (f,first) <-holding [ov] (getMethod ov m pl)
   callWith cp f first (backTo cp (starEach (e::es) X.env)) (backToKw cp (keywordEach [] X.env)))) zp_0):
  PTs X (.Expr (.Call (.Attribute o m ap) (e::es) [] cp) ep) (λσ H Q E=>BF C m sp [] E ta t σ H λ_ H3=>Q H3):=by
 intro ah s σ H Q E I h;refine zec ?_ I.quiet Kn
 refine W.methodCall_KW (pl:=pl) (zaA (he ah s σ H _ (I.oW _) h) (λu s1 cA=>?_) λ_ _ z=>z.elim) ht
 obtain⟨x,H1,I1',rx,a,dx,fs,ex,ea,lk,q⟩:=cA;have I1:aK X ah σ H1 s1:=I1'.c9
 subst ex;obtain rfl:u=Value.ref a:=rx
 refine kX I1 ea c hm lk ?_
 refine W.callWith_K (first:=[.ref a]) (h₀:= X.base) I.ok.sR.W0 hm.kp (zaA (ha cp ah s1 σ H1 _ I1' q) (λus s2 ⟨vs,H2,I2',r,q2⟩=>⟨I2'.c9.nI,?_⟩) λ_ _ z=>z.elim) oK hpl
 have I2:aK X ah σ H2 s2:=I2'.c9
 have r2:bO (V.ref a::vs) (Value.ref a::us):=.cons rfl r
 have q2:sp (V.ref a::(vs++[])) H2 _ _:=q2
 rw[zau] at q2;have dB:(Value.ref a::us).length=ps.length:=by rw[<-r2.length];exact F.len _ _ _ _ q2
 have aF:=hb s2 (Value.ref a::us) I2.nI (by rw[zau];exact dB)
 rw[zau] at aF;refine zcd (zcl (F.jE X.A X.cR s2 H2 ⟨Value.ref a::us,[]⟩ (Value.ref a::us) (V.ref a::vs) _ _ hr I2.xr aF r2 q2) λrr s' hq=>?_)
 cases rr with
 |ok fl =>
  cases fl with
  |ret u =>
   obtain⟨v,H3,I3,rv,q3⟩:=I2.after hq;exact⟨rfl,H3,I3,q3⟩
  |next=>exact False.elim hq
  |brk=>exact False.elim hq
  |cont=>exact False.elim hq
 |error ev=>exact⟨H2,s2,I2,hq⟩
theorem akc (hc:PT X.sS Pe tt)(ha:PTs X a T1)(hb:PTs X b T2):PTs X (.If Pe [a] [b] pos) (λσ H Q E=>tt σ H λc H1=>if c=true then T1 σ H1 Q E else T2 σ H1 Q E):=by
 intro ah s σ H Q E I h;refine wpAny_If (zaA (hc ah s σ H _ (I.oW _) h) (λd s1 zp=>?_) λ_ _ z=>z.elim)
 obtain⟨H1,I1,q1⟩:=zp;cases d with
 |true =>
  rw[if_pos rfl] at q1;refine zbR (zaA (ha ah s1 σ H1 Q E I1.c9 q1) (λfl s' zp=>?_) λ_ _ z=>z)
  obtain⟨rfl,z⟩:=zp;exact zbu ⟨rfl,z⟩
 |false =>
  rw[if_neg (by simp)] at q1
  refine zbR (zaA (hb ah s1 σ H1 Q E I1.c9 q1) (λfl s' zp=>?_) λ_ _ z=>z)
  obtain⟨rfl,z⟩:=zp;exact zbu ⟨rfl,z⟩
theorem VG (Ir:X.e_=true)(rm:X.cR=X.env::X.outer)(BY:X.env.frame=some X.env.locals)(OM:Gl X cB)(ON:X.mg cB=some (.ref B))
  (hB:X.K.lookup B=some (excClassObj NS q' B N' NT bm' mV NU ug NV uh xU j0 j1 j2 j3 j5 jg)) (U_:bm'.contains (.type "BaseException")=true)
  (hb:PTs X a T) (hN:X.N.Nodup) (hl:X.N[l]? = some n) (om:X.env.scope.names.lookup n=some .local) (hs:∀a,xq (X.iP a).sS (mG::gZ) ts)
  (KQ:autoParam ((cB == ("__debug__" : Str))=false) zp_1):
  PS X (.Try [a] [.ExceptHandler (some (.Name cB np)) (some n) (mG::gZ) hp] [] [] pos) (λD σ H=>T σ H (λH'=>D.nx σ H') (U9 X.K B λa H'=>ts (D.ai4 l) (σ.set l (some (.ref a))) H')):=by
 intro ah s σ H D I h;have Va:X.e_=true->X.A.handled=none:=I.ok.hd
 refine wpAny_Try_except (zbR (zaA (hb ah s σ H _ _ I h) (λfl s' zp=>?_) λev s' zp=>?_))
 ·obtain⟨rfl,H',I',q⟩:=zp
  exact zbu (zbu ⟨σ,H',I',q⟩)
 ·obtain⟨H1,s1,I1,hq⟩:=zp
  refine yq Ir rm BY OM ON hB U_ KQ I1 hq λa C od T' s4 H4 _ ha4 hT4 I4 kq=>?_
  refine zdF (uI I4 ha4 hT4 λs5 I5=>?_)
  refine mP (X:=X.iP a) I5 hN hl (.inl om) (v:=.ref a) rfl (λs6 I6=>?_) (.inr om)
  refine zaA (hs a ah s6 (σ.set l (some (.ref a))) H4 _ (I6.oW _) kq) (λfl s7 h7=>?_) λ_ _ z=>z.elim
  cases fl with
  |next=>obtain⟨dX,H',I7,q7⟩:=h7;exact jG (I7.c9.iF Va) hN hl om λs8 I8=>⟨_,_,I8,q7⟩
  |brk=>obtain⟨dX,H',I7,q7⟩:=h7;exact jG (I7.c9.iF Va) hN hl om λs8 I8=>⟨_,_,I8,q7⟩
  |cont=>obtain⟨dX,H',I7,q7⟩:=h7;exact jG (I7.c9.iF Va) hN hl om λs8 I8=>⟨_,_,I8,q7⟩
  |ret u=>obtain⟨v,dX,H',I7,r7,q7⟩:=h7;exact jG (I7.c9.iF Va) hN hl om λs8 I8=>⟨v,_,_,I8,r7,q7⟩
end
noncomputable def j8 (c m:Str)(n:Nat)(q:Fn)(fo:Em)(fr:En->Cs->R (List Tr)):Em:=λτ S=>(iB (fo τ S)).aF λt S1=>match t with
 |.hd i=>(match iH S1 i with
  |some (c',fs)=>if c'=c/\(aR m fs).isNone=true then (iB (fr τ S1)).aF λts S2=>(if (t::ts).length=n then q (t::ts) S2 else .aG) else .aG
  |none=>.aG)
 |_=>.aG
noncomputable def AL (ta:En->Cs->R Bool)(f1 f2:Em):Em:=λτ S=>(iB (ta τ S)).aF λx S1=>if x=true then f1 τ S1 else f2 τ S1
noncomputable def uP (f:Em)(cs:List Str)(l:Option Nat)(sh:Sm):Sm:=λτ S=>jK cs l sh τ (f τ S)
structure TVT (K:W.Frag) (cl:Str->Addr) (k:Nat) (X:Cx) (st:Stmt) (f:Em):Prop where
 jE:jH ⟨K,cl,E0⟩ k X->PTs X st (λσ H Q E=>∃w S τ,HR ⟨K,cl,E0⟩ w S H/\Sl w τ σ /\ bh RT ⟨K,cl,E⟩ w (f τ S) (λ_ H'=>Q H'))
section
variable {K:W.Frag}{cl:Str->Addr}{k j n:Nat}{X:Cx}{f B:Addr}{fd:FuncData}{ps:List Str}{q:Fn}{m cB nn c:Str}{p cp ap np ep hp pos:Pos}{e o Pe:Expr}{es:List Expr}{fr:En->Cs->R (List Tr)}{fo f1 f2:Em}{gZ:List Stmt}{mG a b:Stmt}{sh:Sm}{l:Nat}{cs:List Str}{tt:En->Cs->R Bool}
 {NS q':Str} {N':Addr} {NT bm':List Value} {mV:Bool} {NU:List Str} {ug:List Value} {NV:Bool} {uh:Option Bool} {xU:Option Addr} {j0 j1 j2 j3 j5:Option Value} {jg:String} {pl:Sem Bool}
theorem AM (hc:sj K (cl c))(hM:cL K (cl c) m f)(F:aO X.prog X.w X.K X.mg X.base (oh X.prog X.w) j f fd ps (dM K cl n q))(hj:j<=k)(hb:dQ X.K fd ps [])(ho:TV ⟨K,cl,E0⟩ k X.sS o fo)(ha:xm ⟨K,cl,E0⟩ k X.sS (e::es) fr)
  (Kn:autoParam (swapsWith (.Call (.Attribute o m ap) (e::es) [] cp) none ep.line X.env=pure false) zp_0) (oK:autoParam (c_ e=false) zp_0) (hpl:autoParam (cX es=true) zp_0)
  (ht:autoParam (eval (.Call (.Attribute o m ap) (e::es) [] cp) X.env=(do
   let ov <-eval o X.env
   standAt ap.atName
   let (f,first) <-holding [ov] (getMethod ov m pl)
   callWith cp f first (backTo cp (starEach (e::es) X.env)) (backToKw cp (keywordEach [] X.env)))) zp_0) (sZ:autoParam (0<k) zp_2):
  TVT K cl k X (.Expr (.Call (.Attribute o m ap) (e::es) [] cp) ep) (j8 c m n q fo fr):=⟨λox ah s σ H Q E I h=>by
 refine VF (pl:=pl) (C:=cl c) (ho ⟨ox.K,ox.e_,ox.room,ox.un⟩) (by rw[ox.K];exact hc) (by rw[ox.K];exact hM) F ((ox.room sZ).mono hj) hb (ha ⟨ox.K,ox.e_,ox.room,ox.un⟩) Kn (cE oK) (dS hpl) ht ah s σ H Q E I ?_
 obtain⟨w,S,τ,hr,sl,z⟩:=h;refine⟨w,S,τ,hr,sl,?_⟩
 unfold j8 at z;cases e1:fo τ S with
 |ex _ _=>rw[e1] at z;exact z.elim
 |aG=>rw[e1] at z;exact z.elim
 |ok t S1 =>
  rw[e1] at z;rw[show iB (R.ok t S1)=R.ok t S1 from rfl,R.dZ] at z;refine λw1 H1 v c8 bK r1=>?_
  replace z:=bh.wd c8 z
  split at z
  ·split at z
   ·rename_i c' fs ei
    split at z
    ·rename_i hcc
     obtain⟨rfl,hm⟩:=hcc;obtain⟨dx,pR,h1,h2⟩:=bK.cell _ _ (eS ei)
     refine⟨_,dx,pR,r1.cS.2,h1,(fL (k:=m) h2).2 (zcz.mp hm),w1,S1,τ,bK,sl.mono c8,?_⟩
     cases e2:fr τ S1 with
     |ex _ _=>rw[e2] at z;exact z.elim
     |aG=>rw[e2] at z;exact z.elim
     |ok ts S2 =>
      rw[e2] at z;refine λw2 H2 vs fG dP r2=>?_
      have z:bh RT ⟨K,cl,E⟩ w1 (if (Tr.hd _::ts).length=n then q (Tr.hd _::ts) S2 else .aG) (λ_ H'=>Q H'):=z
      replace z:=bh.wd fG z
      split at z
      ·rename_i hn
       show dM K cl n q (v::(vs++[])) H2 (λx H'=>Q H') E
       rw[zau];exact⟨w2,S2,_,HR.swE dP,.cons (RT.mono fG _ _ r1) r2,hn,z⟩
      ·exact z.elim
    ·exact z.elim
   ·exact z.elim
  ·exact z.elim⟩
theorem XF (hc:Ca ⟨K,cl,E0⟩ k X.sS Pe tt)(h1:TVT K cl k X a f1)(h2:TVT K cl k X b f2):TVT K cl k X (.If Pe [a] [b] pos) (AL tt f1 f2):=⟨λox ah s σ H Q E I h=>by
 refine akc (hc ⟨ox.K,ox.e_,ox.room,ox.un⟩) (h1.jE ox) (h2.jE ox) ah s σ H Q E I ?_
 obtain⟨w,S,τ,hr,sl,z⟩:=h;refine⟨w,S,τ,hr,sl,?_⟩
 unfold AL at z;cases e1:tt τ S with
 |ex _ _=>rw[e1] at z;exact z.elim
 |aG=>rw[e1] at z;exact z.elim
 |ok x S1 =>
  rw[e1] at z;have z:bh RT ⟨K,cl,E⟩ w (if x=true then f1 τ S1 else f2 τ S1) (λ_ H'=>Q H'):=z
  refine λw1 H1 v c8 bK r1=>?_
  have r1:x=v:=r1
  subst r1;replace z:=bh.wd c8 z
  cases x with
  |true =>
   rw[if_pos rfl] at z;dsimp only;rw[if_pos rfl];exact⟨w1,S1,τ,bK,sl.mono c8,z⟩
  |false =>
   rw[if_neg (by simp)] at z
   dsimp only;rw[if_neg (by simp)]
   exact⟨w1,S1,τ,bK,sl.mono c8,z⟩⟩
theorem VH (hB:Ve K B)(hC:nO ⟨K,cl,E0⟩ B cs)(ON:X.mg cB=some (.ref B))(hb:TVT K cl k X a f1)
  (hN:X.N.Nodup) (hs:∀a,HW ⟨K,cl,E0⟩ 0 (X.iP a).sS (mG::gZ) sh) (hl:X.N[l]? = some nn) (om:X.env.scope.names.lookup nn=some .local) (rm:autoParam (X.cR=X.env::X.outer) zp_0) (BY:autoParam (X.env.frame=some X.env.locals) zp_0)
  (OM:autoParam (Gl X cB) zp_0) (KQ:autoParam ((cB == ("__debug__" : Str))=false) zp_1) (sZ:autoParam (0<k) zp_2):
  An ⟨K,cl,E0⟩ k X (.Try [a] [.ExceptHandler (some (.Name cB np)) (some nn) (mG::gZ) hp] [] [] pos) (uP f1 cs (some l) sh):=by
 obtain⟨nm,qn,N0,bs,bm,hd,sn,sub,ab,qQ,dd,k0,k1,k2,k3,k5,oO,lk,hbm⟩:=hB;exact .mk<|λox=>(VG (ox.e_ sZ) rm BY OM ON (by rw[ox.K];exact lk) hbm (hb.jE ox) hN hl om (λa=>hs a ⟨ox.K,λz=>absurd z (zaK 0),λz=>absurd z (zaK 0),ox.un⟩) KQ).wk λD σ H h=>by
  obtain⟨w,S,τ,hr,sl,qq⟩:=h;refine⟨w,S,τ,hr,sl,?_⟩
  rw[ox.K];refine Cz hC sl qq λa H' ku=>?_
  obtain⟨w3,S3,en,mz,pV,hn3,ea,q3⟩:=ku;subst ea;refine⟨w3,S3,τ.set l (some (.hd en)),pV,(sl.mono mz).set l (t:=.hd en) (v:=.ref (w3.ρ en)) (by unfold RT;exact⟨hn3,rfl⟩),?_⟩
  have q3:cG ⟨K,cl,E0⟩ w3 (uK (some l) (sh (τ.set l (some (.hd en))) S3)) D:=q3
  generalize sh (τ.set l (some (.hd en))) S3=z at q3 ⊢
  cases z with
  |nx jz S4=>exact λw' H' dX le ow Bw=>q3 w' H' _ le ow (Bw.yg l none)
  |bk jz S4=>exact λw' H' dX le ow Bw=>q3 w' H' _ le ow (Bw.yg l none)
  |ct jz S4=>exact λw' H' dX le ow Bw=>q3 w' H' _ le ow (Bw.yg l none)
  |rt jz S4=>exact q3
  |ex jz S4=>exact q3.elim
  |aG=>exact q3
end
end L2
namespace L2
open PySem
def bp:=jp @vV0<|jp @bV0<|jp @sV0<|jp @kS0<|jp @bN0<|jp @bV1<|jp @sV1<|jp @kS1<|jp @bN1<|jp @vV2<|jp @bV2<|jp @sV2<|jp @kS2<|jp @bN2<|jp @vV3<|jp @bV3<|jp @sV3<|jp @kS3<|jp @bN3<|jp @bV4<|jp @sV4<|jp @kS4<|jp @bN4<|jp @bV5<|jp @sV5<|jp @kS5<|jp @bN5<|jp @bV6<|jp @kS6<|jp @bN6<|jp @bV7<|jp @kS7<|jp @bV8<|jp @kS8<|jp @kS9<|jp @bN9<|jp @aoD<|jp @aoE<|jp @aoF<|jp @aoG<|jp @aoH<|jp @aoI<|jp @aoJ<|jp @aoK<|jp @aoL<|jp @aoM<|jp @bC<|jp @sC<|jp @ajK<|jp @ajL<|jp @ajM<|jp @ajN<|jp @ajO<|jp @adx<|jp @ajP<|jp @ajQ<|jp @ajR<|jp @ajS<|jp @ajT<|jp @ajU<|jp @ajV<|jp @ajW<|jp @ajX<|jp @ajY<|jp @ajZ<|jp @aj0<|jp @aj1<|jp @aj2<|jp @aj3<|jp @ady<|jp @aj4<|jp @aj5<|jp @aj6<|jp @aj7<|jp @kF1<|jp @kF2<|jp @kF3<|jp @kF4<|jp @kF5<|jp @kM1<|jp @kM2<|jp @kM3<|jp @kK3<|jp @kK5<|jp @kL0<|jp @kC0<|jp @kT1<|jp @kL1<|jp @kT2<|jp @kL2<|jp @kT3<|jp @kT4<|jp @kL4<|jp @kT5<|jp @kL5<|jp @kT6<|jp @kL6<|jp @kT7<|jp @kT8<|jp @kL8<|jp @iT0<|jp @iT1<|jp @iT2<|jp @iT3<|jp @iT4<|jp @iT5<|jp @iT6<|jp @iT7<|jp @iL0<|jp @iL1<|jp @aoN<|jp @aoO<|jp @aV0<|jp @aoP<|jp @aoQ<|jp @aV1<|jp @aoR<|jp @aoS<|jp @aV2<|jp @aoT<|jp @aoU<|jp @aV3<|jp @aoV<|jp @aoW<|jp @aV4<|jp @aoX<|jp @aV5<|jp @aoY<|jp @aoZ<|jp @aV6<|jp @ao0<|jp @aV7<|jp @ao1<|jp @ao2<|jp @aV8<|jp @ao3<|jp @ao4<|jp @aV9<|jp @aj8<|jp @ao5<|jp @aj9<|jp @ao6<|jp @aka<|jp @akb<|jp @ao7<|jp @sS4<|jp @kBC<|jp @kCN<|jp @aC<|jp @ln7<|@ao8
def bx:=jp @Cq<|jp @acK<|jp @Vr<|jp @KP<|jp @O2<|jp @Vs<|jp @O3<|jp @Vt<|jp @ajA<|jp @Vu<|jp @KY<|jp @Vv<|jp @Vw<|jp @Vx<|jp @ada<|jp @adb<|jp @Vy<|jp @ajB<|jp @R.dZ<|jp @R.Uu<|jp @R.fF<|jp @R.B9<|jp @acL<|jp @acM<|jp @U5<|jp @acN<|jp @uD<|jp @U6<|jp @aoz<|jp @ajC<|jp @ade<|jp @adf<|jp @adg<|jp @adh<|jp @adi<|jp @adj<|jp @adk<|jp @adl<|jp @ajD<|jp @adm<|jp @O4<|jp @adn<|jp @Vz<|jp @ado<|jp @adp<|jp @adq<|jp @zas.{0,0}<|jp @zbM.{0,0}<|jp @zaF.{0}<|jp @zaI.{0}<|jp @zaL.{0}<|jp @zdU.{0}<|jp @zaT.{0}<|jp @zaH.{0}<|jp @List.set_cons_zero.{0}<|jp @zdp.{0}<|jp @zbZ.{0}<|jp @zbw.{0}<|jp @zez.{0}<|jp @Option.isNone_some.{0}<|jp @zeH.{0}<|jp @acO<|jp @zch<|jp @ai1<|jp @an5<|jp @if_true.{0}<|jp @if_false.{0}<|jp @decide_true<|jp @decide_false<|jp @Bool.not_true<|jp @Bool.not_false<|jp @and_true<|jp @false_and<|jp @and_false<|jp @or_true<|jp @true_or<|jp @or_false<|jp @not_true_eq_false<|jp @not_false_eq_true<|jp @at0<|jp @bH<|jp @jm<|jp @and_self<|jp @or_self<|jp @aiu<|jp @U1<|jp @OF<|jp @U3<|jp @U4<|jp @qf<|jp @U7<|jp @VA<|jp @iy<|jp @VB<|jp @uE<|jp @ym<|jp @aoA<|jp @KN<|jp @OH<|jp @OG<|jp @Xr<|jp @ads<|jp @zaj.{0}<|jp @zae.{0,0}<|jp @Int.cast_ofNat_Int<|jp @List.isEmpty_cons.{0}<|jp @Int.add_zero<|jp @Int.zero_add<|jp @ajb<|jp @ajc<|jp @vIf<|jp @ajd<|jp @aof<|jp @aje<|jp @ajf<|jp @aog<|jp @ajg<|jp @acV<|jp @aoi<|jp @aji<|jp @OV<|jp @Vg<|jp @ajj<|jp @aoj<|jp @vB<|jp @acW<|jp @aok<|jp @vUn<|jp @vC<|jp @ajk<|jp @OW<|jp @Vh<|jp @ajl<|jp @aol<|jp @aom<|jp @aon<|jp @ajm<|jp @vFn<|jp @Vi<|jp @ajn<|jp @OY<|jp @ajo<|jp @aoo<|jp @acY<|jp @acZ<|jp @aop<|jp @ac0<|jp @aoq<|jp @ac2<|jp @ac3<|jp @aor<|jp @ajq<|jp @ajr<|jp @vOr<|jp @Vj<|jp @ajs<|jp @Vk<|jp @ajt<|jp @ac4<|jp @aot<|jp @ac5<|jp @aou<|jp @ac6<|jp @aov<|jp @vIt<|jp @ajx<|jp @aow<|jp @Vl<|jp @ac7<|jp @aox<|jp @FL<|jp @KU<|jp @Vm<|jp @Vn<|jp @Vo<|jp @Vp<|jp @Vq<|jp @ac8<|jp @O1<|jp @ac9<|jp @AH<|jp @gO.eq_1<|jp @KH.eq_1<|jp @KH.eq_2<|jp @qc.eq_1<|jp @qc.eq_2<|jp @KJ.eq_1<|jp @KJ.eq_2<|jp @qb.eq_1<|jp @qb.eq_2<|jp @isN.eq_1<|jp @isN.eq_2<|jp @qX.eq_1<|jp @qX.eq_2<|jp @jI.eq_1<|jp @jI.eq_2<|jp @jI.eq_3<|jp @Cf.eq_1<|jp @Cf.eq_2<|jp @Cf.eq_3<|jp @Cf.eq_4<|jp @Cf.eq_5<|jp @Cf.eq_6<|jp @Fl.eq_1<|jp @Fl.eq_2<|jp @Fl.eq_3<|jp @Fl.eq_4<|jp @Xl.eq_1<|jp @Xl.eq_2<|jp @Xl.eq_3<|jp @Sn.eq_1<|jp @Sn.eq_2<|jp @Cd.eq_1<|jp @Cd.eq_2<|jp @Cd.eq_3<|jp @cM.eq_1<|jp @uA.eq_1<|jp @iH.eq_1<|jp @KD.eq_1<|jp @ckD.eq_1<|jp @j6.eq_1<|jp @AF.eq_1<|jp @AF.eq_2<|jp @uJ.eq_1<|jp @Ct.eq_1<|jp @Ct.eq_2<|jp @KR.eq_1<|jp @KR.eq_2<|jp @yr.eq_1<|jp @yr.eq_2<|jp @gT2.eq_1<|jp @gT2.eq_2<|jp @gT1.eq_1<|@gT1.eq_2
end L2
namespace My
open PySem L2
theorem FP {α:Type}{a:α}{l:List α}:(a::l).length=l.length+1:=by first|exact zaF|exact zaF _|simp
theorem tu {α β:Type}{f:α -> β}{a:α}{l:List α}:List.map f (a::l)=f a::List.map f l:=by first|exact zas|exact zas _|simp
theorem Bp {α β:Type}{f:α -> β}:List.map f []=[]:=by first|exact zbM|exact zbM _|simp
theorem K2 {α:Type}{l:List α}:[]++l=l:=by first|exact zdU|exact zdU _|simp
noncomputable def fC (i:Nat):Stmt:=PySem.Challenge.pw_inningsbook_k52_no_entry.main.body.getD i (.Pass ⟨0,0,0,0⟩)
noncomputable abbrev XG:Stmt:=fC 41
noncomputable abbrev XH:Stmt:=fC 42
noncomputable abbrev XI:Stmt:=fC 43
noncomputable abbrev XJ:Stmt:=fC 44
noncomputable abbrev Iw:Stmt:=fC 45
noncomputable abbrev Pf:Stmt:=fC 33
noncomputable abbrev Pg:Stmt:=aM (fC 36) 0
noncomputable abbrev XM:Stmt:=aM (fC 36) 1
noncomputable abbrev XN:Stmt:=aM (fC 36) 2
noncomputable abbrev Ph:Stmt:=aM (fC 36) 3
noncomputable abbrev XO:Stmt:=aM (fC 36) 4
noncomputable abbrev XQ:Stmt:=aM (fC 36) 5
noncomputable abbrev XR:Stmt:=aM (fC 36) 24
noncomputable abbrev XS:Stmt:=aM (fC 36) 20
noncomputable abbrev Pj:Stmt:=aM (fC 36) 23
noncomputable abbrev XT:Stmt:=aM (fC 36) 21
noncomputable abbrev XU:Stmt:=aM (fC 36) 6
noncomputable abbrev XW:Stmt:=aM (fC 36) 22
noncomputable abbrev XX:Stmt:=fC 46
noncomputable abbrev Pk:Stmt:=fC 47
noncomputable abbrev XY:Stmt:=aM (fC 36) 8
noncomputable abbrev XZ:Stmt:=aM (fC 36) 9
noncomputable abbrev X0:Stmt:=aM (fC 24) 1
noncomputable abbrev X3:Stmt:=fC 29
noncomputable abbrev X4:Stmt:=aM (fC 36) 10
noncomputable abbrev X5:Stmt:=aM (fC 36) 7
noncomputable abbrev X6:Stmt:=aM (fC 36) 11
noncomputable abbrev X7:Stmt:=aM (fC 24) 2
noncomputable abbrev X8:Stmt:=fC 18
noncomputable abbrev X_:Stmt:=fC 19
noncomputable abbrev Yb:Stmt:=fC 20
noncomputable abbrev Yc:Stmt:=fC 26
noncomputable abbrev Yd:Stmt:=fC 27
noncomputable abbrev Ye:Stmt:=fC 28
noncomputable abbrev Yg:Stmt:=fC 30
noncomputable abbrev Yh:Stmt:=aM (fC 36) 12
noncomputable abbrev ake:Stmt:=aM (fC 24) 0
noncomputable abbrev Yi:Stmt:=aM (fC 36) 13
noncomputable abbrev Yj:Stmt:=fC 21
noncomputable abbrev Yk:Stmt:=fC 22
noncomputable abbrev Yl:Stmt:=aM (fC 24) 8
noncomputable abbrev Ym:Stmt:=aM (fC 24) 4
noncomputable abbrev Yn:Stmt:=aM (fC 24) 5
noncomputable abbrev Yo:Stmt:=aM (fC 24) 9
noncomputable abbrev Yp:Stmt:=aM (fC 24) 10
noncomputable abbrev Yq:Stmt:=aM (fC 24) 11
noncomputable abbrev Yr:Stmt:=aM (fC 36) 14
noncomputable abbrev Ys:Stmt:=aM (fC 24) 6
noncomputable abbrev Yt:Stmt:=aM (fC 24) 7
noncomputable abbrev Pn:Stmt:=fC 37
noncomputable abbrev Po:Stmt:=fC 25
noncomputable abbrev Yu:Stmt:=aM (fC 24) 12
noncomputable abbrev Pp:Stmt:=aM (fC 36) 15
noncomputable abbrev Yv:Stmt:=aM (fC 36) 16
noncomputable abbrev Yw:Stmt:=aM (fC 36) 17
noncomputable abbrev Pq:Stmt:=aM (fC 24) 3
noncomputable abbrev Yx:Stmt:=aM (fC 36) 18
noncomputable abbrev Yy:Stmt:=aM (fC 36) 19
noncomputable abbrev Yz:Stmt:=fC 48
noncomputable abbrev YA:Stmt:=fC 49
noncomputable abbrev adz:Stmt:=aM (fC 39) 0
noncomputable abbrev akf:Stmt:=aM (fC 39) 1
noncomputable abbrev akg:Stmt:=aM (fC 39) 4
noncomputable abbrev akh:Stmt:=aM (fC 39) 5
noncomputable abbrev aki:Stmt:=aM (fC 39) 6
noncomputable abbrev akj:Stmt:=aM (fC 39) 8
noncomputable abbrev akk:Stmt:=aM (fC 39) 7
noncomputable abbrev YB:Stmt:=fC 52
noncomputable abbrev akl:Stmt:=aM (fC 39) 2
noncomputable abbrev YC:Stmt:=aM (fC 36) 25
noncomputable abbrev YD:Stmt:=fC 50
noncomputable abbrev akm:Stmt:=aM (fC 39) 3
noncomputable abbrev YE:Stmt:=fC 51
noncomputable abbrev YF:Stmt:=fC 53
noncomputable abbrev dU:Stmt:=aM (fC 3) 0
noncomputable abbrev eE:Stmt:=aM (fC 4) 0
structure AdF where
 CH:Addr
 CI:Addr
 CJ:Addr
 CK:Addr
 CM:Addr
 CN:Addr
 uQ:Addr
 yz:Addr
 yC:Addr
 yD:Addr
 yE:Addr
 yF:Addr
 yG:Addr
 yH:Addr
 yI:Addr
 yJ:Addr
 yK:Addr
 yL:Addr
 CO:Addr
 CQ:Addr
 yM:Addr
 yN:Addr
 yO:Addr
 CS:Addr
 yP:Addr
 yQ:Addr
 yR:Addr
 yS:Addr
 CT:Addr
 CU:Addr
 CV:Addr
 CW:Addr
 CY:Addr
 CZ:Addr
 C0:Addr
 yT:Addr
 FQ:Addr
 yU:Addr
 C1:Addr
 C2:Addr
 yV:Addr
 yW:Addr
 yX:Addr
 yY:Addr
 yZ:Addr
 y9:Addr
 y_:Addr
 zd:Addr
 ze:Addr
 C3:Addr
 C4:Addr
 zf:Addr
 zg:Addr
 zh:Addr
 zj:Addr
 zk:Addr
 zl:Addr
 zm:Addr
 C5:Addr
 C6:Addr
 FT:Addr
 K3:Addr
 K4:Addr
 K5:Addr
 K6:Addr
 K7:Addr
 K8:Addr
 C7:Addr
 K9:Addr
 zo:Addr
 C8:Addr
 K_:Addr
 C_:Addr
 Dc:Addr
 uR:FuncData
 uS:FuncData
 uU:FuncData
 uV:FuncData
 uW:FuncData
 uX:FuncData
 uY:FuncData
 uZ:FuncData
 u5:FuncData
 u6:FuncData
 u9:FuncData
 u_:FuncData
 vc:FuncData
 vd:FuncData
 ve:FuncData
 vf:FuncData
 vg:FuncData
 vh:FuncData
 vj:FuncData
 vm:FuncData
 vn:FuncData
 vo:FuncData
 vp:FuncData
 vq:FuncData
 vt:FuncData
 vz:FuncData
 vA:FuncData
 vD:FuncData
 vE:FuncData
 vF:FuncData
 vG:FuncData
 vH:FuncData
 vI:FuncData
 vJ:FuncData
 vK:FuncData
 vL:FuncData
 Dd:FuncData
 vM:FuncData
 vN:FuncData
 vO:FuncData
 vP:FuncData
 vQ:FuncData
 vR:FuncData
 vS:FuncData
 vU:FuncData
 vV:FuncData
 vW:FuncData
 vX:FuncData
 vY:FuncData
 vZ:FuncData
 v8:FuncData
 v9:FuncData
 v_:FuncData
 wc:FuncData
 we:FuncData
 wg:FuncData
 wj:FuncData
 wm:FuncData
 wo:FuncData
 wu:FuncData
 De:FuncData
 Df:FuncData
 Dg:FuncData
 Dh:FuncData
 Di:FuncData
 Dk:FuncData
 Dl:FuncData
 wz:FuncData
 Dm:FuncData
 wA:FuncData
 wB:FuncData
 Dn:FuncData
 wC:FuncData
 pA:FuncData
 aW:Addr
 bB:Addr
 eU:Addr
 jL:Tok
 AN:Tok
 i7:Tok
 i8:Tok
 nQ:Tok
 i9:Tok
 jM:Tok
 lH:Tok
 nR:Tok
 Iz:Tok
 lI:Tok
 i_:Tok
 jN:Tok
 nU:Tok
structure Ad extends AdF where
 aD:Addr
 a_:Addr
 bN:Addr
 aX:Addr
 br:Addr
 bQ:Addr
 aY:Addr
 eV:FuncData
 gb:FuncData
 jc:Tok
noncomputable def aA (a:Ad):Str->Addr:=λx=>if x="Innings" then a.aW else if x="Match" then a.bB else if x="Book" then a.eU else if x="NotLet" then a.a_ else if x="NoEntry" then a.aX else 0
noncomputable def er (a:Ad):List (Str×Addr×Addr):=[("NotLet",a.a_,a.br),("BadRow",a.bN,a.bQ),("NoEntry",a.aX,a.aY)]
structure TxF (K:W.Frag) (mg:Str->Option Value) (a:AdF):Prop where
 AO:mg "ValueError"=none
 akn:mg "any"=none
 adA:mg "dict"=none
 m8:mg "enumerate"=none
 lJ:mg "isinstance"=none
 kJ:mg "len"=none
 wD:mg "list"=none
 ako:mg "min"=none
 ql:mg "range"=none
 YG:mg "sum"=none
 Dp:mg "FOLLOW_AT"=some (.int 7 a.jL)
 adB:mg "FOUR"=some (.int 4 a.AN)
 AQ:mg "INNINGS_AT"=some (.int 6 a.i7)
 AR:mg "IS_CROSSED"=some (.int 6 a.i8)
 La:mg "IS_FAIR"=some (.int 4 a.nQ)
 qm:mg "LONG_MATCH"=some (.int 4 a.i9)
 Dq:mg "NOBALL_AT"=some (.int 4 a.jM)
 FU:mg "OVERS_AT"=some (.int 1 a.lH)
 Lb:mg "OVER_AT"=some (.int 0 a.nR)
 akp:mg "SIX"=some (.int 6 a.Iz)
 FW:mg "SPELL_AT"=some (.int 2 a.lI)
 qo:mg "TEAM_COUNT"=some (.int 2 a.i_)
 Dt:mg "TEAM_RUNS"=some (.int 0 a.jN)
 Lc:mg "WIDE_AT"=some (.int 3 a.nU)
 YH:qG K mg "_law_folded" XG ["_law_script","_law_most"] a.CH a.uR
 YI:qG K mg "_law_digit" XH ["_law_cell","_law_at","_law_many"] a.CI a.uS
 zq:qG K mg "_law_draw" XI ["_law_script","_law_k","_law_many"] a.CJ a.uU
 YJ:qG K mg "_law_rules" XJ ["_law_script"] a.CK a.uV
 YK:qG K mg "_law_teams" Iw ["_law_script","_law_side"] a.CM a.uW
 Pr:qG K mg "names_told" Pf ["teams","word"] a.CN a.uX
 zu:i6 K a.bB "__init__" "Match.__init__" Pg ["self","rules","teams"] a.uQ a.uY
 jO:i6 K a.bB "going" "Match.going" XM ["self"] a.yz a.uZ
 Du:i6 K a.bB "most_innings" "Match.most_innings" XN ["self"] a.yC a.u5
 Pw:i6 K a.bB "total_of" "Match.total_of" Ph ["self","side"] a.yD a.u6
 zv:i6 K a.bB "lead_of" "Match.lead_of" XO ["self","side"] a.yE a.u9
 Dv:i6 K a.bB "is_done" "Match.is_done" XQ ["self"] a.yF a.u_
 IA:i6 K a.bB "result" "Match.result" XR ["self"] a.yG a.vc
 IB:i6 K a.bB "state" "Match.state" XS ["self"] a.yH a.vd
 IC:i6 K a.bB "players" "Match.players" Pj ["self"] a.yI a.ve
 ID:i6 K a.bB "innings" "Match.innings" XT ["self"] a.yJ a.vf
 IE:i6 K a.bB "next_side" "Match.next_side" XU ["self"] a.yK a.vg
 IG:i6 K a.bB "turn" "Match.turn" XW ["self"] a.yL a.vh
 YL:qG K mg "_law_ball" XX ["_law_script","_law_k","_law_state"] a.CO a.vj
 YM:qG K mg "_law_entry" Pk ["_law_script","_law_k","_law_teams_here","_law_match"] a.CQ a.vm
 II:i6 K a.bB "side_to_start" "Match.side_to_start" XY ["self","team"] a.yM a.vn
 Px:i6 K a.bB "start_refusal" "Match.start_refusal" XZ ["self","entry"] a.yN a.vo
 rY:i6 K a.aW "stands" "Innings.stands" X0 ["self","name"] a.yO a.vp
 YN:qG K mg "swap_refusal_within" X3 ["innings","old"] a.CS a.vq
 Py:i6 K a.bB "swap_refusal" "Match.swap_refusal" X4 ["self","old","new"] a.yP a.vt
 Pz:i6 K a.bB "may_follow" "Match.may_follow" X5 ["self"] a.yQ a.vz
 PB:i6 K a.bB "follow_refusal" "Match.follow_refusal" X6 ["self"] a.yR a.vA
 Dw:i6 K a.aW "has_gap" "Innings.has_gap" X7 ["self"] a.yS a.vD
 YO:qG K mg "rope_goes" X8 ["kind","runs"] a.CT a.vE
 YQ:qG K mg "way_goes" X_ ["kind","runs","rope","way"] a.CU a.vF
 YR:qG K mg "ball_fault" Yb ["entry"] a.CV a.vG
 YS:qG K mg "ball_refusal" Yc ["innings","entry"] a.CW a.vH
 YT:qG K mg "in_refusal" Yd ["innings","batting","name"] a.CY a.vI
 YU:qG K mg "bowl_refusal" Ye ["innings","fielding","spell","name"] a.CZ a.vJ
 YV:qG K mg "refusal_within" Yg ["innings","rules","batting","fielding","entry"] a.C0 a.vK
 PD:i6 K a.bB "refusal" "Match.refusal" Yh ["self","entry"] a.yT a.vL
 akq:i6 K a.aW "__init__" "Innings.__init__" ake ["self","side","facing","other","bowler"] a.FQ a.Dd
 PF:i6 K a.bB "begin" "Match.begin" Yi ["self","entry"] a.yU a.vM
 YW:qG K mg "runs_by" Yj ["rules","kind","runs"] a.C1 a.vN
 YX:qG K mg "ball_sums" Yk ["rules","entry"] a.C2 a.vO
 PK:i6 K a.aW "out_by" "Innings.out_by" Yl ["self","entry"] a.yV a.vP
 Dy:i6 K a.aW "change_ends" "Innings.change_ends" Ym ["self"] a.yW a.vQ
 IJ:i6 K a.aW "leave" "Innings.leave" Yn ["self","name"] a.yX a.vR
 PM:i6 K a.aW "fall" "Innings.fall" Yo ["self","name","end"] a.yY a.vS
 PN:i6 K a.aW "count_fair" "Innings.count_fair" Yp ["self","over"] a.yZ a.vU
 PR:i6 K a.aW "play" "Innings.play" Yq ["self","rules","entry"] a.y9 a.vV
 PU:i6 K a.bB "play_ball" "Match.play_ball" Yr ["self","entry"] a.y_ a.vW
 PV:i6 K a.aW "come_in" "Innings.come_in" Ys ["self","name"] a.zd a.vX
 PX:i6 K a.aW "bowl_next" "Innings.bowl_next" Yt ["self","name"] a.ze a.vY
 YY:qG K mg "swapped" Pn ["players","old","new"] a.C3 a.vZ
 YZ:qG K mg "renamed" Po ["told","old","new"] a.C4 a.v8
 PY:i6 K a.aW "rename" "Innings.rename" Yu ["self","old","new"] a.zf a.v9
 PZ:i6 K a.bB "swap_player" "Match.swap_player" Pp ["self","old","new"] a.zg a.v_
 P0:i6 K a.bB "close" "Match.close" Yv ["self"] a.zh a.wc
 P1:i6 K a.bB "do" "Match.do" Yw ["self","entry"] a.zj a.we
 P4:i6 K a.aW "has_left" "Innings.has_left" Pq ["self","players"] a.zk a.wg
 P5:i6 K a.bB "ending_due" "Match.ending_due" Yx ["self","going"] a.zl a.wj
 zw:i6 K a.bB "tell" "Match.tell" Yy ["self","entry"] a.zm a.wm
 P6:qG K mg "_law_lets" Yz ["_law_match","_law_entry_here"] a.C5 a.wo
 Y0:qG K mg "_law_entries" YA ["_law_script","_law_rules_here","_law_teams_here","_law_many"] a.C6 a.wu
 akr:i6 K a.eU "__init__" "Book.__init__" adz ["self","rules","teams"] a.FT a.De
 adC:i6 K a.eU "tell" "Book.tell" akf ["self","entry"] a.K3 a.Df
 P7:i6 K a.eU "need_number" "Book.need_number" akg ["self","number","count"] a.K4 a.Dg
 P8:i6 K a.eU "retell" "Book.retell" akh ["self","entries"] a.K5 a.Dh
 adD:i6 K a.eU "put_right" "Book.put_right" aki ["self","number","entry"] a.K6 a.Di
 adE:i6 K a.eU "take_out" "Book.take_out" akj ["self","number"] a.K7 a.Dk
 adF:i6 K a.eU "put_in" "Book.put_in" akk ["self","number","entry"] a.K8 a.Dl
 Y3:qG K mg "_law_refused" YB ["_law_book","_law_way","_law_number","_law_entry_here"] a.C7 a.wz
 adG:i6 K a.eU "entries" "Book.entries" akl ["self"] a.K9 a.Dm
 P9:i6 K a.bB "log" "Match.log" YC ["self"] a.zo a.wA
 Y4:qG K mg "_law_seen" YD ["_law_match"] a.C8 a.wB
 adH:i6 K a.eU "match" "Book.match" akm ["self"] a.K_ a.Dn
 Y5:qG K mg "_law_fresh" YE ["_law_rules_here","_law_teams_here","_law_entries_here"] a.C_ a.wC
 P_:qG K mg "law" YF ["_law_script"] a.Dc a.pA
 cO:OE K mg "Innings" a.aW a.FQ
 aks:bW K a.aW "side"
 akt:bW K a.aW "facing"
 aku:bW K a.aW "other"
 akv:bW K a.aW "bowler"
 akw:bW K a.aW "ahead"
 akx:bW K a.aW "total"
 aky:bW K a.aW "wickets"
 akz:bW K a.aW "overs"
 akA:bW K a.aW "balls"
 akB:bW K a.aW "ending"
 adI:bW K a.aW "outs"
 adJ:bW K a.aW "spells"
 iz:OE K mg "Match" a.bB a.uQ
 akC:bW K a.bB "rules"
 akD:bW K a.bB "sides"
 akE:bW K a.bB "known"
 akF:bW K a.bB "played"
 akG:bW K a.bB "followed"
 akH:bW K a.bB "closed"
 akI:bW K a.bB "balls_told"
 pB:OE K mg "Book" a.eU a.FT
 akJ:bW K a.eU "rules"
 akK:bW K a.eU "teams"
 akL:bW K a.eU "kept"
 akM:bW K a.eU "current"
structure Txt (K:W.Frag) (mg:Str->Option Value) (a:Ad):Prop extends TxF K mg a.toAdF where
 Er:acU K mg a.aD (er a)
 fU:EC K mg a.aD "NotLet" a.a_ a.br dU a.eV ["self","words","rule","number"]
 zx:dQ K a.eV ["self","words","rule","number"] [.int 0 a.jc]
 jq:W.findIn K (.ref a.a_) "rule"=some none
 g_:W.findIn K (.ref a.a_) "number"=some none
 gD:EC K mg a.aD "NoEntry" a.aX a.aY eE a.gb ["self","words","number"]
 gP:W.findIn K (.ref a.aX) "number"=some none
 zy:a.a_≠a.aD
 rB:a.bN≠a.a_
 jP:a.aX≠a.a_
 wF:a.aX≠a.aD
 jQ:a.a_≠a.aX
 jR:a.bN≠a.aX
 zz:a.bN≠a.aD
theorem fO {K:W.Frag}{cl:Str->Addr}{E:XK}{x f:Str}{C:Addr}(e:cl x=C)(h:sj K C)(n:bW K C f):d8 ⟨K,cl,E⟩ [x] f:=λc hc=>by
 cases zav.mp hc
 subst e;exact⟨h,n⟩
theorem fD {N P:List Str}{sc:Scope}(h:autoParam (sc.kind = .function/\sc.isCoroutine=false/\sc.isGenerator=false/\N.take P.length=P) zp_9)(d:N.Nodup/\(∀x∈P,sc.names.lookup x=some .local\/sc.names.lookup x=some .cell)/\∀y∈sc.names,y.2 ≠ .free:=by decide +kernel):aq N P sc:=⟨h.1,h.2.1,h.2.2.1,d.1,h.2.2.2,d.2.1,d.2.2⟩
section
variable {P:Program}{w:World}{K:W.Frag}{mg:Str->Option Value}{base:Heap}{a:Ad}{E:XK}
theorem aZ:aA a "Innings"=a.aW:=by unfold aA;rw[if_pos rfl]
theorem bu (T:Txt K mg a):sj K (aA a "Innings"):=by rw[aZ];exact T.cO.c
theorem FY (T:Txt K mg a):Mk K (aA a "Innings") a.FQ:=by rw[aZ];exact T.cO.k
theorem Dz (T:Txt K mg a):mg "Innings"=some (.ref (aA a "Innings")):=by rw[aZ];exact T.cO.m
theorem lK (T:Txt K mg a):d8 ⟨K,aA a,E⟩ ["Innings"] "side" := fO aZ T.cO.c T.aks
theorem iQ (T:Txt K mg a):d8 ⟨K,aA a,E⟩ ["Innings"] "facing" := fO aZ T.cO.c T.akt
theorem m9 (T:Txt K mg a):d8 ⟨K,aA a,E⟩ ["Innings"] "other" := fO aZ T.cO.c T.aku
theorem lM (T:Txt K mg a):d8 ⟨K,aA a,E⟩ ["Innings"] "bowler" := fO aZ T.cO.c T.akv
theorem wG (T:Txt K mg a):d8 ⟨K,aA a,E⟩ ["Innings"] "ahead" := fO aZ T.cO.c T.akw
theorem wH (T:Txt K mg a):d8 ⟨K,aA a,E⟩ ["Innings"] "total" := fO aZ T.cO.c T.akx
theorem AS (T:Txt K mg a):d8 ⟨K,aA a,E⟩ ["Innings"] "wickets" := fO aZ T.cO.c T.aky
theorem rC (T:Txt K mg a):d8 ⟨K,aA a,E⟩ ["Innings"] "overs" := fO aZ T.cO.c T.akz
theorem pC (T:Txt K mg a):d8 ⟨K,aA a,E⟩ ["Innings"] "balls" := fO aZ T.cO.c T.akA
theorem rD (T:Txt K mg a):d8 ⟨K,aA a,E⟩ ["Innings"] "ending" := fO aZ T.cO.c T.akB
theorem nV (T:Txt K mg a):d8 ⟨K,aA a,E⟩ ["Innings"] "outs" := fO aZ T.cO.c T.adI
theorem qp (T:Txt K mg a):d8 ⟨K,aA a,E⟩ ["Innings"] "spells" := fO aZ T.cO.c T.adJ
theorem bg:aA a "Match"=a.bB:=by unfold aA;rw[if_neg (by decide)];rw[if_pos rfl]
theorem az (T:Txt K mg a):sj K (aA a "Match"):=by rw[bg];exact T.iz.c
theorem m_ (T:Txt K mg a):Mk K (aA a "Match") a.uQ:=by rw[bg];exact T.iz.k
theorem kK (T:Txt K mg a):mg "Match"=some (.ref (aA a "Match")):=by rw[bg];exact T.iz.m
theorem rE (T:Txt K mg a):d8 ⟨K,aA a,E⟩ ["Match"] "rules" := fO bg T.iz.c T.akC
theorem h_ (T:Txt K mg a):d8 ⟨K,aA a,E⟩ ["Match"] "sides" := fO bg T.iz.c T.akD
theorem FZ (T:Txt K mg a):d8 ⟨K,aA a,E⟩ ["Match"] "known" := fO bg T.iz.c T.akE
theorem jr (T:Txt K mg a):d8 ⟨K,aA a,E⟩ ["Match"] "played" := fO bg T.iz.c T.akF
theorem AU (T:Txt K mg a):d8 ⟨K,aA a,E⟩ ["Match"] "followed" := fO bg T.iz.c T.akG
theorem AV (T:Txt K mg a):d8 ⟨K,aA a,E⟩ ["Match"] "closed" := fO bg T.iz.c T.akH
theorem F1 (T:Txt K mg a):d8 ⟨K,aA a,E⟩ ["Match"] "balls_told" := fO bg T.iz.c T.akI
theorem eW:aA a "Book"=a.eU:=by unfold aA;rw[if_neg (by decide)];rw[if_neg (by decide)];rw[if_pos rfl]
theorem fq (T:Txt K mg a):sj K (aA a "Book"):=by rw[eW];exact T.pB.c
theorem VI (T:Txt K mg a):Mk K (aA a "Book") a.FT:=by rw[eW];exact T.pB.k
theorem Qa (T:Txt K mg a):mg "Book"=some (.ref (aA a "Book")):=by rw[eW];exact T.pB.m
theorem F3 (T:Txt K mg a):d8 ⟨K,aA a,E⟩ ["Book"] "rules" := fO eW T.pB.c T.akJ
theorem F4 (T:Txt K mg a):d8 ⟨K,aA a,E⟩ ["Book"] "teams" := fO eW T.pB.c T.akK
theorem ng (T:Txt K mg a):d8 ⟨K,aA a,E⟩ ["Book"] "kept" := fO eW T.pB.c T.akL
theorem F5 (T:Txt K mg a):d8 ⟨K,aA a,E⟩ ["Book"] "current" := fO eW T.pB.c T.akM
theorem ia:aA a "NotLet"=a.a_:=by unfold aA;rw[if_neg (by decide)];rw[if_neg (by decide)];rw[if_neg (by decide)];rw[if_pos rfl]
theorem fV (T:Txt K mg a):iY K (aA a "NotLet") a.br (.ref a.aD::lW):=by rw[ia];exact T.fU.M
theorem F8 (T:Txt K mg a):mg "NotLet"=some (.ref (aA a "NotLet")):=by rw[ia];exact T.fU.m
theorem pD:aq ["self","words","rule","number"] ["self","words","rule","number"] (aj dU):=fD
theorem pF (T:Txt K mg a):aO P w K mg base eL 1 a.br a.eV ["self","words","rule","number"] (OL (aA a "NotLet") 3 (gE2 "rule" "number")):=by
 rw[ia];refine T.fU.ok pD (λvs H Q E h=>?_) (λq fB A outer s H vs Q E hr h=>?_)
 ·obtain⟨b,xs,rfl,hl,_⟩:=h
  simp[hl]
 ·obtain⟨b,xs,rfl,hl,ha,k⟩:=h
  match xs,hl,k with
  |[x,y,z],_,k =>
   refine⟨_,pJ (zY (BV T.Er.EB rfl T.Er.m (gn (pv 0) (gn (pv 1) oX)))) (pJ (HN (pv 0) (pv 2)) (zX (Ub (pv 0) (pv 3)))),?_⟩
   refine⟨_,rfl,_,rfl,b,_,_,_,none,x,rfl,ha,T.fU.M,?_⟩
   refine⟨_,rfl,_,rfl,b,_,_,_,rfl,ha,T.fU.M,T.jq,λd nd=>?_⟩
   have nda:d≠b:=(dW ha nd).symm
   refine⟨_,rfl,_,rfl,b,_,_,_,d,[(("rule" : Str),y)],rfl,av,by rw[au nda,av],(show 1<1000 by decide),T.fU.M,T.g_,?_⟩
   have e1:gH "number" z [(("rule" : Str),y)]=[(("rule" : Str),y),("number",z)]:=by
    show (if ("rule" : Str)="number" then _ else _)=_
    rw[if_neg (by decide +kernel)]
    rfl
   rw[e1];refine k d _ nd (by rw[au nda.symm,av]) av λb o eb nb=>?_
   have nbd:b≠d:=dW eb nd
   rw[au nbd,au nb,au nbd];exact eb
theorem ic:aA a "NoEntry"=a.aX:=by unfold aA;rw[if_neg (by decide)];rw[if_neg (by decide)];rw[if_neg (by decide)];rw[if_neg (by decide)];rw[if_pos rfl]
theorem eX (T:Txt K mg a):iY K (aA a "NoEntry") a.aY (.ref a.aD::lW):=by rw[ic];exact T.gD.M
theorem DA (T:Txt K mg a):mg "NoEntry"=some (.ref (aA a "NoEntry")):=by rw[ic];exact T.gD.m
theorem oA:aq ["self","words","number"] ["self","words","number"] (aj eE):=fD
theorem oE (T:Txt K mg a):aO P w K mg base eL 1 a.aY a.gb ["self","words","number"] (OL (aA a "NoEntry") 2 (gE1 "number")):=by
 rw[ic];refine T.gD.ok oA (λvs H Q E h=>?_) (λq fB A outer s H vs Q E hr h=>?_)
 ·obtain⟨b,xs,rfl,hl,_⟩:=h
  simp[hl]
 ·obtain⟨b,xs,rfl,hl,ha,k⟩:=h
  match xs,hl,k with
  |[x,y],_,k =>
   refine⟨_,pJ (zY (BV T.Er.EB rfl T.Er.m (gn (pv 0) (gn (pv 1) oX)))) (zX (HN (pv 0) (pv 2))),?_⟩
   refine⟨_,rfl,_,rfl,b,_,_,_,none,x,rfl,ha,T.gD.M,?_⟩
   refine⟨_,rfl,_,rfl,b,_,_,_,rfl,ha,T.gD.M,T.gP,λd nd=>?_⟩
   have nda:d≠b:=(dW ha nd).symm
   refine k d _ nd av (by rw[au nda,av];rfl) λb o eb nb=>?_
   have nbd:b≠d:=dW eb nd
   rw[au nb,au nbd];exact eb
theorem wI (T:Txt K mg a):mg "NotLet"=some (.ref a.a_):=(T.Er.all _ (zax (i:=0) (l:=er a) rfl)).1
theorem Qc (T:Txt K mg a):mg "BadRow"=some (.ref a.bN):=(T.Er.all _ (zax (i:=1) (l:=er a) rfl)).1
theorem Ld (T:Txt K mg a):mg "NoEntry"=some (.ref a.aX):=(T.Er.all _ (zax (i:=2) (l:=er a) rfl)).1
theorem Le (T:Txt K mg a):iY K a.a_ a.br (.ref a.aD::lW):=(T.Er.all _ (zax (i:=0) (l:=er a) rfl)).2
theorem Lg (T:Txt K mg a):iY K a.bN a.bQ (.ref a.aD::lW):=(T.Er.all _ (zax (i:=1) (l:=er a) rfl)).2
theorem lN (T:Txt K mg a):iY K a.aX a.aY (.ref a.aD::lW):=(T.Er.all _ (zax (i:=2) (l:=er a) rfl)).2
theorem DB (T:Txt K mg a):mg "BookError"=some (.ref a.aD):=T.Er.m
theorem IK (T:Txt K mg a):FH ⟨K,aA a,E⟩ ["NotLet"] "rule" := by
 intro c hc;simp only[zam,zay,or_false] at hc;rcases hc with rfl
 ·exact⟨⟨_,_,fV T⟩,by show W.findIn K (.ref (aA a "NotLet")) _=_;rw[ia];exact T.jq⟩
theorem Lh (T:Txt K mg a):FH ⟨K,aA a,E⟩ ["NotLet","NoEntry"] "number" := by
 intro c hc;simp only[zam,zay,or_false] at hc;rcases hc with rfl|rfl
 ·exact⟨⟨_,_,fV T⟩,by show W.findIn K (.ref (aA a "NotLet")) _=_;rw[ia];exact T.g_⟩
 ·exact⟨⟨_,_,eX T⟩,by show W.findIn K (.ref (aA a "NoEntry")) _=_;rw[ic];exact T.gP⟩
theorem F9 (T:Txt K mg a):Cv ⟨K,aA a,E⟩ (.ref a.aX) [("NotLet",false),("NoEntry",true)]:=by
 intro c hc;simp only[zam,zay,or_false] at hc;rcases hc with rfl|rfl
 ·exact⟨⟨_,_,fV T⟩,E4 (g:=0) (bm':=[]) (fV T) (lN T).E5 (lN T).NJ (decide_eq_false λz=>z.elim (λz=>T.jP (z.trans (ia (a:=a)))) T.wF)⟩
 ·exact⟨⟨_,_,eX T⟩,E4 (g:=0) (bm':=[]) (eX T) (lN T).E5 (lN T).NJ (decide_eq_true (.inl (ic (a:=a)).symm))⟩
theorem pG (T:Txt K mg a):OR ⟨K,aA a,E⟩ ([a.bN,a.a_].map Value.ref) [("NoEntry",false)]:=by
 intro c hc;simp only[zam,zay,or_false] at hc;rcases hc with rfl
 ·refine⟨⟨_,_,eX T⟩,CA (eX T) _ λD hD=>?_⟩
  rw[ic];simp only[zam,zay,or_false] at hD;rcases hD with rfl|rfl
  ·exact⟨T.jR,T.zz,_,Lg T⟩
  ·exact⟨T.jQ,T.zy,_,Le T⟩
theorem xE (T:Txt K mg a):Cv ⟨K,aA a,E⟩ (.type "ValueError") [("NotLet",true),("NoEntry",true)]:=by
 intro c hc;simp only[zam,zay,or_false] at hc;rcases hc with rfl|rfl
 ·exact⟨⟨_,_,fV T⟩,NI (fV T)⟩
 ·exact⟨⟨_,_,eX T⟩,NI (eX T)⟩
theorem AW (T:Txt K mg a):nO ⟨K,aA a,E⟩ a.aD ["NotLet","NoEntry"]:=by
 intro c hc;simp only[zam,zay,or_false] at hc;rcases hc with rfl|rfl
 ·exact⟨_,_,fV T,by show (Value.ref (aA a "NotLet")::_).contains _=true;exact CB⟩
 ·exact⟨_,_,eX T,by show (Value.ref (aA a "NoEntry")::_).contains _=true;exact CB⟩
theorem zA (T:Txt K mg a):nO ⟨K,aA a,E⟩ a.a_ ["NotLet"]:=by
 intro c hc;simp only[zam,zay,or_false] at hc;rcases hc with rfl
 ·exact⟨_,_,fV T,by show (Value.ref (aA a "NotLet")::_).contains _=true;rw[ia];exact OT⟩
theorem gy (T:Txt K mg a):cL K (aA a "Match") "going" a.yz:=by rw[bg];exact T.jO.M
theorem AX (T:Txt K mg a):cL K (aA a "Match") "most_innings" a.yC:=by rw[bg];exact T.Du.M
theorem VJ (T:Txt K mg a):cL K (aA a "Match") "total_of" a.yD:=by rw[bg];exact T.Pw.M
theorem tw (T:Txt K mg a):cL K (aA a "Match") "lead_of" a.yE:=by rw[bg];exact T.zv.M
theorem AY (T:Txt K mg a):cL K (aA a "Match") "is_done" a.yF:=by rw[bg];exact T.Dv.M
theorem IM (T:Txt K mg a):cL K (aA a "Match") "result" a.yG:=by rw[bg];exact T.IA.M
theorem IP (T:Txt K mg a):cL K (aA a "Match") "state" a.yH:=by rw[bg];exact T.IB.M
theorem IQ (T:Txt K mg a):cL K (aA a "Match") "players" a.yI:=by rw[bg];exact T.IC.M
theorem IS (T:Txt K mg a):cL K (aA a "Match") "innings" a.yJ:=by rw[bg];exact T.ID.M
theorem IT (T:Txt K mg a):cL K (aA a "Match") "next_side" a.yK:=by rw[bg];exact T.IE.M
theorem IU (T:Txt K mg a):cL K (aA a "Match") "turn" a.yL:=by rw[bg];exact T.IG.M
theorem IV (T:Txt K mg a):cL K (aA a "Match") "side_to_start" a.yM:=by rw[bg];exact T.II.M
theorem VL (T:Txt K mg a):cL K (aA a "Match") "start_refusal" a.yN:=by rw[bg];exact T.Px.M
theorem nW (T:Txt K mg a):cL K (aA a "Innings") "stands" a.yO:=by rw[aZ];exact T.rY.M
theorem VM (T:Txt K mg a):cL K (aA a "Match") "swap_refusal" a.yP:=by rw[bg];exact T.Py.M
theorem VN (T:Txt K mg a):cL K (aA a "Match") "may_follow" a.yQ:=by rw[bg];exact T.Pz.M
theorem VO (T:Txt K mg a):cL K (aA a "Match") "follow_refusal" a.yR:=by rw[bg];exact T.PB.M
theorem AZ (T:Txt K mg a):cL K (aA a "Innings") "has_gap" a.yS:=by rw[aZ];exact T.Dw.M
theorem VP (T:Txt K mg a):cL K (aA a "Match") "refusal" a.yT:=by rw[bg];exact T.PD.M
theorem VQ (T:Txt K mg a):cL K (aA a "Match") "begin" a.yU:=by rw[bg];exact T.PF.M
theorem VR (T:Txt K mg a):cL K (aA a "Innings") "out_by" a.yV:=by rw[aZ];exact T.PK.M
theorem A0 (T:Txt K mg a):cL K (aA a "Innings") "change_ends" a.yW:=by rw[aZ];exact T.Dy.M
theorem IW (T:Txt K mg a):cL K (aA a "Innings") "leave" a.yX:=by rw[aZ];exact T.IJ.M
theorem VS (T:Txt K mg a):cL K (aA a "Innings") "fall" a.yY:=by rw[aZ];exact T.PM.M
theorem VT (T:Txt K mg a):cL K (aA a "Innings") "count_fair" a.yZ:=by rw[aZ];exact T.PN.M
theorem VU (T:Txt K mg a):cL K (aA a "Innings") "play" a.y9:=by rw[aZ];exact T.PR.M
theorem VW (T:Txt K mg a):cL K (aA a "Match") "play_ball" a.y_:=by rw[bg];exact T.PU.M
theorem VX (T:Txt K mg a):cL K (aA a "Innings") "come_in" a.zd:=by rw[aZ];exact T.PV.M
theorem VY (T:Txt K mg a):cL K (aA a "Innings") "bowl_next" a.ze:=by rw[aZ];exact T.PX.M
theorem VZ (T:Txt K mg a):cL K (aA a "Innings") "rename" a.zf:=by rw[aZ];exact T.PY.M
theorem V0 (T:Txt K mg a):cL K (aA a "Match") "swap_player" a.zg:=by rw[bg];exact T.PZ.M
theorem V1 (T:Txt K mg a):cL K (aA a "Match") "close" a.zh:=by rw[bg];exact T.P0.M
theorem V2 (T:Txt K mg a):cL K (aA a "Match") "do" a.zj:=by rw[bg];exact T.P1.M
theorem V3 (T:Txt K mg a):cL K (aA a "Innings") "has_left" a.zk:=by rw[aZ];exact T.P4.M
theorem V4 (T:Txt K mg a):cL K (aA a "Match") "ending_due" a.zl:=by rw[bg];exact T.P5.M
theorem tE (T:Txt K mg a):cL K (aA a "Match") "tell" a.zm:=by rw[bg];exact T.zw.M
theorem adK (T:Txt K mg a):cL K (aA a "Book") "tell" a.K3:=by rw[eW];exact T.adC.M
theorem F_ (T:Txt K mg a):cL K (aA a "Book") "need_number" a.K4:=by rw[eW];exact T.P7.M
theorem Ga (T:Txt K mg a):cL K (aA a "Book") "retell" a.K5:=by rw[eW];exact T.P8.M
theorem adL (T:Txt K mg a):cL K (aA a "Book") "put_right" a.K6:=by rw[eW];exact T.adD.M
theorem adM (T:Txt K mg a):cL K (aA a "Book") "take_out" a.K7:=by rw[eW];exact T.adE.M
theorem adN (T:Txt K mg a):cL K (aA a "Book") "put_in" a.K8:=by rw[eW];exact T.adF.M
theorem adO (T:Txt K mg a):cL K (aA a "Book") "entries" a.K9:=by rw[eW];exact T.adG.M
theorem V5 (T:Txt K mg a):cL K (aA a "Match") "log" a.zo:=by rw[bg];exact T.P9.M
theorem adP (T:Txt K mg a):cL K (aA a "Book") "match" a.K_:=by rw[eW];exact T.adH.M
end
local macro_rules
 | `(tactic|simp?[$x,*])=>`(tactic|simp only[↓bp,bx,simprocAttr,$x,*])
local macro_rules
 | `(tactic|exists $es,*)=>`(tactic|repeat' first|exact jh _|exact Ff|exact ab8|exact Aq|refine nL ?_ ?_|refine UL ?_ ?_|refine acA ?_|exact acz|refine aiP ?_ ?_|refine acB ?_|refine aiU ?_ ?_ ?_|refine ao9 _ (by assumption) ?_|refine jW (by first|exact UA|exact aiN|exact Ky|exact Kz|exact aiI|exact aiJ|exact aiO|exact HX) ?_ ?_ (tV _)|refine acm ?_|refine Ao (by first|exact aiL|exact aiG|exact aiF|exact aiE|exact aiK|exact aiH) ?_ ?_|refine UM ?_|exact ab9|exact aix|refine acn ?_|refine Ux ?_|refine aiQ ?_ ?_ ?_|refine UE ?_|exact UD|refine acj ?_ ?_ ?_|refine qU (by first|exact UA|exact aiN|exact Ky|exact Kz|exact aiI|exact aiJ|exact aiO|exact HX) ?_ ?_ (tV _)|refine acg ?_ ?_|refine Uv ?_|refine aiz ?_ ?_|refine acf ?_|refine ach ?_|refine aci ?_ ?_|refine aiA ?_ ?_|refine UQ ?_|refine acD ?_ ?_|refine acw ?_ ?_|refine Oq ?_ ?_|exact UK|exact US|refine UT ?_|refine aiy aiM ?_|refine ace ?_ $[| refine $es]* | refine acd ?_|refine N_.t ?_)
section
variable {P:Program}{w:World}{K:W.Frag}{mg:Str->Option Value}{base:Heap}{a:Ad}
noncomputable abbrev Qd:List Str:=["_law_script","_law_most","_law_cells","_law_k","_law_cell"]
theorem A1:aq Qd ["_law_script","_law_most"] (aj XG):=fD
noncomputable def IX:Fn:=l5 (dw Qd (ao (bf 2 (pX ak))
   (ao (o9 (mEn 0 (af (aa 0) ak)) (lZ 2 (gc (cg 3) (gc (cg 4) sL)))
   (cW (mB (ai Bl (aa 3) (aa 1)))
   (dG (sJ KD xC (aa 2) (af (aa 4) ak)))
   (acy (ai cU (ai sH (ai bM (aa 2) (ai ou (aa 3) (aa 1))) (mC (.int 31))) (aa 4)) (acv (aa 2) (ai ou (aa 3) (aa 1))))))
   (aJ (aa 2)))))
theorem adQ (T:Txt K mg a):aO P w K mg base eL 2 a.CH a.uR ["_law_script","_law_most"] (dM K (aA a) 2 IX):=
 aO.pure (bq T.YH.F A1 λ_ _ _ _ _ _=>(by have:=A1.nd;exists (jZ zbl ?_ ?_ ?_),(Ay T.m8 ?_),(m5 (n:=2) ?_),(f_ 3 A1.nd),(f_ 4 A1.nd),(lD zaM zbb zbc lC jk ?_ ?_)))
noncomputable abbrev Y6:List Str:=["_law_cell","_law_at","_law_many","_law_k"]
theorem Gb:aq Y6 ["_law_cell","_law_at","_law_many"] (aj XH):=fD
noncomputable def IY:Fn:=dw Y6 (ao (o9 (uC (af (aa 1) ak)) (cg 3)
   (bf 0 (ai Uy (aa 0) (mC (.int 60)))))
   (aJ (ai ou (aa 0) (aa 2))))
theorem adR (T:Txt K mg a):aO P w K mg base eL 2 a.CI a.uS ["_law_cell","_law_at","_law_many"] (dM K (aA a) 3 IY):=
 bq T.YI.F Gb λ_ _ _ _ _ _=>(by have:=Gb.nd;exists (jZ zbl ?_ ?_ ?_),(qd T.ql ?_),(f_ 3 Gb.nd))
noncomputable abbrev Y7:List Str:=["_law_script","_law_k","_law_many","_law_cell","_law_number"]
theorem Qe:aq Y7 ["_law_script","_law_k","_law_many"] (aj XI):=fD
noncomputable def di:Fn:=dw Y7 (ao (bf 3 (mC (.int 0)))
   (ao (cW (mB (ai Eo (cC gW (af (aa 0) ak)) (mC (.int 0))))
   (bf 3 (ai bM (aa 0) (ai ou (aa 1) (cC gW (af (aa 0) ak)))))
   aI)
   (ao (cW (mB (ai (cY false) (ai ou (cC gW (af (aa 0) ak)) (mC (.int 2))) (mC (.int 1))))
   (aJ (gF 3 IY (af (aa 3) (af (ai ou (ai Uy (aa 1) (cC gW (af (aa 0) ak))) (mC (.int 20))) (af (aa 2) ak)))))
   aI)
   (ao (bf 4 (ai ou (ai sH (ai cU (ai cU (ai ou (aa 3) (mC (.int 2147483647))) (ai sH (mC (.int 7)) (aa 1))) (mC (.int 3))) (ai cU (mC (.int 48271)) (ai sH (ai sH (mC (.int 1103)) (aa 1)) (aa 1)))) (mC (.int 2147483629))))
   (aJ (ai ou (ai Uy (aa 4) (mC (.int 64))) (aa 2)))))))
theorem wJ (T:Txt K mg a):aO P w K mg base eL 3 a.CJ a.uU ["_law_script","_law_k","_law_many"] (dM K (aA a) 3 di):=
 bq T.zq.F Qe λ_ _ _ _ _ _=>(by have:=Qe.nd;exists (cT kI T.kJ zaU ?_),(dH (adR T) T.YI ?_))
noncomputable abbrev Y8:List Str:=["_law_script","_law_over","_law_overs","_law_spell","_law_follow","_law_beside","_law_side","_law_turns"]
theorem Qf:aq Y8 ["_law_script"] (aj XJ):=fD
noncomputable def IZ:Fn:=dw Y8 (ao (bf 1 (ai cU (mC (.int 1)) (gF 3 di (af (aa 0) (af (mC (.int 900)) (af (mC (.int 3)) ak))))))
   (ao (bf 2 (ai bM (jX (af (mC (.int 0)) (af (mC (.int 1)) (af (mC (.int 2)) (af (mC (.int 3)) (af (mC (.int 4)) ak)))))) (gF 3 di (af (aa 0) (af (mC (.int 901)) (af (mC (.int 5)) ak))))))
   (ao (bf 3 (ai bM (jX (af (mC (.int 0)) (af (mC (.int 0)) (af (mC (.int 1)) (af (mC (.int 2)) ak))))) (gF 3 di (af (aa 0) (af (mC (.int 902)) (af (mC (.int 4)) ak))))))
   (ao (bf 4 (ai bM (jX (af (mC (.int 0)) (af (mC (.int 1)) (af (mC (.int 3)) (af (mC (.int 8)) ak))))) (gF 3 di (af (aa 0) (af (mC (.int 903)) (af (mC (.int 4)) ak))))))
   (ao (bf 5 (dm (af (gF 3 di (af (aa 0) (af (mC (.int 904)) (af (mC (.int 3)) ak)))) (af (gF 3 di (af (aa 0) (af (mC (.int 905)) (af (mC (.int 3)) ak)))) ak))))
   (ao (bf 6 (ai bM (jX (af (mC (.int 2)) (af (mC (.int 3)) (af (mC (.int 4)) (af (mC (.int 2)) (af (mC (.int 3)) (af (mC (.int 4)) (af (mC (.int 9)) (af (mC (.int 11)) ak))))))))) (gF 3 di (af (aa 0) (af (mC (.int 906)) (af (mC (.int 8)) ak))))))
   (ao (bf 7 (ai cU (mC (.int 1)) (gF 3 di (af (aa 0) (af (mC (.int 907)) (af (mC (.int 2)) ak))))))
   (aJ (dm (af (aa 1) (af (aa 2) (af (aa 3) (af (ai bM (aa 5) (mC (.int 0))) (af (ai bM (aa 5) (mC (.int 1))) (af (aa 6) (af (aa 7) (af (aa 4) ak)))))))))))))))))
theorem adS (T:Txt K mg a):aO P w K mg base eL 4 a.CK a.uV ["_law_script"] (dM K (aA a) 1 IZ):=
 bq T.YJ.F Qf λ_ _ _ _ _ _=>(by have:=Qf.nd;exists (dH (wJ T) T.zq ?_))
noncomputable abbrev Y9:List Str:=["_law_script","_law_side","_law_letters","_law_ahead","_law_behind","_law_first","_law_names","_law_others"]
theorem A2:aq Y9 ["_law_script","_law_side"] (aj Iw):=fD
noncomputable def I0:Fn:=dw Y9 (ao (bf 2 (mC (.str "bcdfghjkmnpqvwxz")))
   (ao (bf 3 (ai sH (mC (.str "zq")) (gF 3 di (af (aa 0) (af (mC (.int 908)) (af (mC (.int 2)) ak))))))
   (ao (bf 4 (Fv qX (mC (.str "vzb")) gq (iV (gF 3 di (af (aa 0) (af (mC (.int 909)) (af (mC (.int 4)) ak)))))))
   (ao (bf 5 (gF 3 di (af (aa 0) (af (mC (.int 910)) (af (mC (.int 16)) ak)))))
   (ao (bf 6 (gE (uC (af (mC (.int 16)) ak)) [4,3,2,5] 1 (cg 4) jJ (ai cU (ai cU (aa 1) (ai bM (aa 2) (ai ou (ai cU (aa 3) (aa 4)) (mC (.int 16))))) (aa 0))))
   (ao (bf 7 (Fv qX (aa 6) (iV (mC (.int 6))) (iV (ai cU (mC (.int 6)) (aa 1)))))
   (ao (cW (mB (ai Eo (aa 1) (mC (.int 4))))
   (bf 7 (gE (sM iL (Fv qX (aa 6) gq (iV (aa 1)))) [] 1 (cg 0) jJ (ai cU (aa 0) (mC (.str "x")))))
   aI)
   (aJ (jX (af (dm (af (ai bM (aa 6) (mC (.int 12))) (af (Fv qX (aa 6) gq (iV (aa 1))) ak))) (af (dm (af (ai bM (aa 6) (mC (.int 13))) (af (aa 7) ak))) ak)))))))))))
theorem adT (T:Txt K mg a):aO P w K mg base eL 4 a.CM a.uW ["_law_script","_law_side"] (dM K (aA a) 2 I0):=
 bq T.YK.F A2 λ_ _ _ _ _ _=>(by have:=A2.nd;exists (dH (wJ T) T.zq ?_),(Az (target:=.Name "_law_k" _) (i0:=6) (F:=["_law_behind","_law_ahead","_law_letters","_law_first"]) (T:=["_law_k"]) (fr:=[4,3,2,5]) (MA Iw (by decide +kernel)) ?_ (λ_ _ _ _ _=>?_) (λ_ _ _ _ _=>?_) (λ_ _ _ _ _=>?_) A2.nd rfl rfl rfl),(qd T.ql ?_),(f_ 4 (show (["_law_behind","_law_ahead","_law_letters","_law_first","_law_k"]:List Str).Nodup by decide +kernel)),(Az (target:=.Name "_law_name" _) (i0:=7) (F:=[]) (T:=["_law_name"]) (fr:=[]) (MA Iw (by decide +kernel)) ?_ (λ_ _ _ _ _=>?_) (λ_ _ _ _ _=>?_) (λ_ _ _ _ _=>?_) A2.nd rfl rfl rfl),(f_ 0 (show (["_law_name"]:List Str).Nodup by decide +kernel)))
noncomputable abbrev Y_:List Str:=["teams","word","names","name","players"]
theorem A3:aq Y_ ["teams","word"] (aj Pf):=fD
noncomputable def DC:Fn:=dw Y_ (ao (cW (mB (ai (cY false) (aa 1) (mC (.str "team"))))
   (aJ (gE (sM iL (aa 0)) [] 2 (lZ 2 (gc (cg 0) (gc (cg 1) sL))) jJ (aa 0)))
   aI)
   (ao (bf 2 (pX ak))
   (ao (o9 (sM iL (aa 0)) (lZ 2 (gc (cg 3) (gc (cg 4) sL)))
   (dG (sJ KD UH (aa 2) (af (aa 4) ak))))
   (aJ (aa 2)))))
theorem Qg (T:Txt K mg a):aO P w K mg base eL 2 a.CN a.uX ["teams","word"] (dM K (aA a) 2 DC):=
 bq T.Pr.F A3 λ_ _ _ _ _ _=>(by have:=A3.nd;exists (iZ (F:=[]) (T:=["name","players"]) (fr:=[]) (MA Pf (by decide +kernel)) ?_ (λ_ _ _ _ _=>?_) (λ_ _ _ _ _=>?_) (λ_ _ _ _ _=>?_)),(m5 (n:=2) ?_),(f_ 0 (show (["name","players"]:List Str).Nodup by decide +kernel)),(f_ 1 (show (["name","players"]:List Str).Nodup by decide +kernel)),(jZ zbl ?_ ?_ ?_),(f_ 3 A3.nd),(f_ 4 A3.nd),(lD zaM PySem.F.slot_list_extend PySem.F.type_list_extend lC Oo ?_ ?_))
noncomputable abbrev Za:List Str:=["self","rules","teams"]
theorem Qh:aq Za ["self","rules","teams"] (aj Pg):=fD
noncomputable def rZ:Fn:=dw Za (ao (bU ["Match"] "rules" (aa 0) (aa 1))
   (ao (bU ["Match"] "sides" (aa 0) (gE (sM iL (aa 2)) [] 2 (lZ 2 (gc (cg 0) (gc (cg 1) sL))) jJ (dm (af (aa 0) (af (cC rT (af (aa 1) ak)) ak)))))
   (ao (bU ["Match"] "known" (aa 0) (gF 2 DC (af (aa 2) (af (mC (.str "player")) ak))))
   (ao (bU ["Match"] "played" (aa 0) (pX ak))
   (ao (bU ["Match"] "followed" (aa 0) (mC (.bl false)))
   (ao (bU ["Match"] "closed" (aa 0) (mC (.bl false)))
   (bU ["Match"] "balls_told" (aa 0) (pX ak))))))))
theorem wK (T:Txt K mg a):aO P w K mg base eL 3 a.uQ a.uY ["self","rules","teams"] (dM K (aA a) 3 rZ):=
 bq T.zu.F Qh λ_ _ _ _ _ _=>(by have:=Qh.nd;exists (aV (rE T) ?_ ?_),(aV (h_ T) ?_ ?_),(iZ (F:=[]) (T:=["name","players"]) (fr:=[]) (MA Pg (by decide +kernel)) ?_ (λ_ _ _ _ _=>?_) (λ_ _ _ _ _=>?_) (λ_ _ _ _ _=>?_)),(m5 (n:=2) ?_),(f_ 0 (show (["name","players"]:List Str).Nodup by decide +kernel)),(f_ 1 (show (["name","players"]:List Str).Nodup by decide +kernel)),(jb uB T.wD zbL ?_),(aV (FZ T) ?_ ?_),(dH (Qg T) T.Pr ?_),(aV (jr T) ?_ ?_),(aV (AU T) ?_ ?_),(aV (AV T) ?_ ?_),(aV (F1 T) ?_ ?_))
noncomputable abbrev Zb:List Str:=["self"]
theorem Qi:aq Zb ["self"] (aj XM):=fD
noncomputable def jt:Fn:=dw Zb (ao (cW (Fg (mB (ai (cY false) (cC gW (af (aQ ["Match"] "played" (aa 0)) ak)) (mC (.int 0)))) (mB (ai (cY true) (aQ ["Innings"] "ending" (ai bM (aQ ["Match"] "played" (aa 0)) (Xk Au (mC (.int 1))))) (mC (.str "")))))
   (aJ (mC .bz))
   aI)
   (aJ (ai bM (aQ ["Match"] "played" (aa 0)) (Xk Au (mC (.int 1))))))
theorem iR (T:Txt K mg a):aO P w K mg base eL 2 a.yz a.uZ ["self"] (dM K (aA a) 1 jt):=
 bq T.jO.F Qi λ_ _ _ _ _ _=>(by have:=Qi.nd;exists (cT kI T.kJ zaU ?_),(ay (jr T) ?_),(ay (rD T) ?_))
noncomputable abbrev Zc:List Str:=["self"]
theorem Qj:aq Zc ["self"] (aj XN):=fD
noncomputable def wL:Fn:=dw Zc (aJ (ai sH (mC (.int 2)) (ai bM (aQ ["Match"] "rules" (aa 0)) (mC (.int 6)))))
theorem Gd (T:Txt K mg a):aO P w K mg base eL 2 a.yC a.u5 ["self"] (dM K (aA a) 1 wL):=
 bq T.Du.F Qj λ_ _ _ _ _ _=>(by have:=Qj.nd;exists (c7 T.qo),(ay (rE T) ?_),(c7 T.AQ))
noncomputable abbrev Zd:List Str:=["self","side"]
theorem Qk:aq Zd ["self","side"] (aj Ph):=fD
noncomputable def DE:Fn:=l5 (dw Zd (aJ (cC Fw (af (gE (sM iL (aQ ["Match"] "played" (aa 0))) [1] 1 (cg 1) (mB (ai (cY false) (aQ ["Innings"] "side" (aa 1)) (aa 0))) (aQ ["Innings"] "total" (aa 1))) ak))))
theorem adU (T:Txt K mg a):aO P w K mg base eL 2 a.yD a.u6 ["self","side"] (dM K (aA a) 2 DE):=
 aO.pure (bq T.Pw.F Qk λ_ _ _ _ _ _=>(by have:=Qk.nd;exists (cT Xo T.YG zeg ?_),(iZ (F:=["side"]) (T:=["innings"]) (fr:=[1]) (MA Ph (by decide +kernel)) ?_ (λ_ _ _ _ _=>?_) (λ_ _ _ _ _=>?_) (λ_ _ _ _ _=>?_)),(ay (jr T) ?_),(f_ 1 (show (["side","innings"]:List Str).Nodup by decide +kernel)),(ay (lK T) ?_),(ay (wH T) ?_)))
noncomputable abbrev Ze:List Str:=["self","side"]
theorem Ql:aq Ze ["self","side"] (aj XO):=fD
noncomputable def wM:Fn:=dw Ze (aJ (ai dF (aH "Match" "total_of" 2 DE (aa 0) (af (aa 1) ak)) (aH "Match" "total_of" 2 DE (aa 0) (af (ai dF (mC (.int 1)) (aa 1)) ak))))
theorem A4 (T:Txt K mg a):aO P w K mg base eL 3 a.yE a.u9 ["self","side"] (dM K (aA a) 2 wM):=
 bq T.zv.F Ql λ_ _ _ _ _ _=>(by have:=Ql.nd;exists (bE (az T) (VJ T) (adU T) (by decide) T.Pw.b aB ?_ ?_))
noncomputable abbrev Zf:List Str:=["self","count"]
theorem Qm:aq Zf ["self"] (aj XQ):=fD
noncomputable def zB:Fn:=dw Zf (ao (cW (mB (aQ ["Match"] "closed" (aa 0)))
   (aJ (mC (.bl true)))
   aI)
   (ao (cW (mB (ai (jj true) (aH "Match" "going" 1 jt (aa 0) ak) (mC .bz)))
   (aJ (mC (.bl false)))
   aI)
   (ao (bf 1 (cC gW (af (aQ ["Match"] "played" (aa 0)) ak)))
   (ao (cW (mD (mB (ai (cY false) (aa 1) (ai dF (mC (.int 4)) (mC (.int 1))))) (mB (ai (cY false) (aH "Match" "most_innings" 1 wL (aa 0) ak) (mC (.int 4)))))
   (aJ (ai Bl (aH "Match" "lead_of" 2 wM (aa 0) (af (aQ ["Innings"] "side" (ai bM (aQ ["Match"] "played" (aa 0)) (Xk Au (mC (.int 1))))) ak)) (mC (.int 0))))
   aI)
   (aJ (ai gGe (aa 1) (aH "Match" "most_innings" 1 wL (aa 0) ak)))))))
theorem Ge (T:Txt K mg a):aO P w K mg base eL 4 a.yF a.u_ ["self"] (dM K (aA a) 1 zB):=
 bq T.Dv.F Qm λ_ _ _ _ _ _=>(by have:=Qm.nd;exists (ay (AV T) ?_),(aL (az T) (gy T) (iR T) (by decide) T.jO.b aB ?_),(cT kI T.kJ zaU ?_),(ay (jr T) ?_),(c7 T.qm),(aL (az T) (AX T) (Gd T) (by decide) T.Du.b aB ?_),(bE (az T) (tw T) (A4 T) (by decide) T.zv.b aB ?_ ?_),(ay (lK T) ?_))
noncomputable abbrev Zg:List Str:=["self","lead"]
theorem Qn:aq Zg ["self"] (aj XR):=fD
noncomputable def DF:Fn:=l5 (dw Zg (ao (cW (uw (mB (aH "Match" "is_done" 1 zB (aa 0) ak)))
   (aJ (mC .bz))
   aI)
   (ao (cW (mB (aQ ["Match"] "closed" (aa 0)))
   (aJ (dm (af (mC (.str "closed")) ak)))
   aI)
   (ao (bf 1 (aH "Match" "lead_of" 2 wM (aa 0) (af (mC (.int 0)) ak)))
   (ao (cW (mB (ai (cY false) (aa 1) (mC (.int 0))))
   (aJ (dm (af (mC (.str "tie")) ak)))
   aI)
   (aJ (dm (af (mC (.str "won")) (af (ai bM (ai bM (aQ ["Match"] "sides" (aa 0)) (El (mB (ai Eo (aa 1) (mC (.int 0)))) (mC (.int 0)) (mC (.int 1)))) (mC (.int 0))) ak)))))))))
theorem Qo (T:Txt K mg a):aO P w K mg base eL 5 a.yG a.vc ["self"] (dM K (aA a) 1 DF):=
 aO.pure (bq T.IA.F Qn λ_ _ _ _ _ _=>(by have:=Qn.nd;exists (aL (az T) (AY T) (Ge T) (by decide) T.Dv.b aB ?_),(ay (AV T) ?_),(bE (az T) (tw T) (A4 T) (by decide) T.zv.b aB ?_ ?_),(ay (h_ T) ?_)))
noncomputable abbrev Zh:List Str:=["self","going","who"]
theorem Qp:aq Zh ["self"] (aj XS):=fD
noncomputable def DG:Fn:=l5 (dw Zh (ao (bf 1 (aH "Match" "going" 1 jt (aa 0) ak))
   (ao (cW (mB (ai (jj false) (aa 1) (mC .bz)))
   (aJ (mC .bz))
   aI)
   (ao (bf 2 (dm (af (ai bM (ai bM (aQ ["Match"] "sides" (aa 0)) (aQ ["Innings"] "side" (aa 1))) (mC (.int 0))) (af (aQ ["Innings"] "facing" (aa 1)) (af (aQ ["Innings"] "other" (aa 1)) (af (aQ ["Innings"] "bowler" (aa 1)) ak))))))
   (aJ (ai cU (aa 2) (dm (af (aQ ["Innings"] "total" (aa 1)) (af (aQ ["Innings"] "wickets" (aa 1)) (af (aQ ["Innings"] "overs" (aa 1)) (af (aQ ["Innings"] "balls" (aa 1)) ak)))))))))))
theorem Qq (T:Txt K mg a):aO P w K mg base eL 3 a.yH a.vd ["self"] (dM K (aA a) 1 DG):=
 aO.pure (bq T.IB.F Qp λ_ _ _ _ _ _=>(by have:=Qp.nd;exists (aL (az T) (gy T) (iR T) (by decide) T.jO.b aB ?_),(ay (h_ T) ?_),(ay (lK T) ?_),(ay (iQ T) ?_),(ay (m9 T) ?_),(ay (lM T) ?_),(ay (wH T) ?_),(ay (AS T) ?_),(ay (rC T) ?_),(ay (pC T) ?_)))
noncomputable abbrev Zi:List Str:=["self"]
theorem Qs:aq Zi ["self"] (aj Pj):=fD
noncomputable def DH:Fn:=dw Zi (aJ (gE (sM iL (aQ ["Match"] "sides" (aa 0))) [] 2 (lZ 2 (gc (cg 0) (gc (cg 1) sL))) jJ (dm (af (aa 0) (af (cC rT (af (aa 1) ak)) ak)))))
theorem Qt (T:Txt K mg a):aO P w K mg base eL 2 a.yI a.ve ["self"] (dM K (aA a) 1 DH):=
 bq T.IC.F Qs λ_ _ _ _ _ _=>(by have:=Qs.nd;exists (iZ (F:=[]) (T:=["name","players"]) (fr:=[]) (MA Pj (by decide +kernel)) ?_ (λ_ _ _ _ _=>?_) (λ_ _ _ _ _=>?_) (λ_ _ _ _ _=>?_)),(ay (h_ T) ?_),(m5 (n:=2) ?_),(f_ 0 (show (["name","players"]:List Str).Nodup by decide +kernel)),(f_ 1 (show (["name","players"]:List Str).Nodup by decide +kernel)),(jb uB T.wD zbL ?_))
noncomputable abbrev Zj:List Str:=["self","told","one"]
theorem Gf:aq Zj ["self"] (aj XT):=fD
noncomputable def DI:Fn:=l5 (dw Zj (ao (bf 1 (pX ak))
   (ao (o9 (sM iL (aQ ["Match"] "played" (aa 0))) (cg 2)
   (dG (sJ KD xC (aa 1) (af (dm (af (ai bM (ai bM (aQ ["Match"] "sides" (aa 0)) (aQ ["Innings"] "side" (aa 2))) (mC (.int 0))) (af (aQ ["Innings"] "total" (aa 2)) (af (aQ ["Innings"] "wickets" (aa 2)) (af (aQ ["Innings"] "overs" (aa 2)) (af (aQ ["Innings"] "balls" (aa 2)) (af (aQ ["Innings"] "ending" (aa 2)) ak))))))) ak))))
   (aJ (aa 1)))))
theorem Qu (T:Txt K mg a):aO P w K mg base eL 2 a.yJ a.vf ["self"] (dM K (aA a) 1 DI):=
 aO.pure (bq T.ID.F Gf λ_ _ _ _ _ _=>(by have:=Gf.nd;exists (jZ zbl ?_ ?_ ?_),(ay (jr T) ?_),(f_ 2 Gf.nd),(lD zaM zbb zbc lC jk ?_ ?_),(ay (h_ T) ?_),(ay (lK T) ?_),(ay (wH T) ?_),(ay (AS T) ?_),(ay (rC T) ?_),(ay (pC T) ?_),(ay (rD T) ?_)))
noncomputable abbrev Zk:List Str:=["self","last"]
theorem Qv:aq Zk ["self"] (aj XU):=fD
noncomputable def DJ:Fn:=dw Zk (ao (cW (Fg (mB (ai (cY false) (cC gW (af (aQ ["Match"] "played" (aa 0)) ak)) (mC (.int 0)))) (Fg (mB (ai (jj true) (aH "Match" "going" 1 jt (aa 0) ak) (mC .bz))) (mB (aH "Match" "is_done" 1 zB (aa 0) ak))))
   (aJ (mC .bz))
   aI)
   (ao (bf 1 (aQ ["Innings"] "side" (ai bM (aQ ["Match"] "played" (aa 0)) (Xk Au (mC (.int 1))))))
   (ao (cW (mD (mB (aQ ["Match"] "followed" (aa 0))) (mB (ai (cY false) (cC gW (af (aQ ["Match"] "played" (aa 0)) ak)) (mC (.int 2)))))
   (aJ (aa 1))
   aI)
   (aJ (ai dF (mC (.int 1)) (aa 1))))))
theorem Qw (T:Txt K mg a):aO P w K mg base eL 5 a.yK a.vg ["self"] (dM K (aA a) 1 DJ):=
 bq T.IE.F Qv λ_ _ _ _ _ _=>(by have:=Qv.nd;exists (cT kI T.kJ zaU ?_),(ay (jr T) ?_),(aL (az T) (gy T) (iR T) (by decide) T.jO.b aB ?_),(aL (az T) (AY T) (Ge T) (by decide) T.Dv.b aB ?_),(ay (lK T) ?_),(ay (AU T) ?_))
noncomputable abbrev Zl:List Str:=["self","side"]
theorem Qx:aq Zl ["self"] (aj XW):=fD
noncomputable def wN:Fn:=dw Zl (ao (bf 1 (aH "Match" "next_side" 1 DJ (aa 0) ak))
   (aJ (El (mB (ai (jj false) (aa 1) (mC .bz))) (mC (.str "")) (ai bM (ai bM (aQ ["Match"] "sides" (aa 0)) (aa 1)) (mC (.int 0))))))
theorem Qy (T:Txt K mg a):aO P w K mg base eL 6 a.yL a.vh ["self"] (dM K (aA a) 1 wN):=
 bq T.IG.F Qx λ_ _ _ _ _ _=>(by have:=Qx.nd;exists (aL (az T) (IT T) (Qw T) (by decide) T.IE.b aB ?_),(ay (h_ T) ?_))
noncomputable abbrev Zm:List Str:=["_law_script","_law_k","_law_state","_law_kind","_law_runs","_law_way","_law_who","_law_end","_law_out"]
theorem Qz:aq Zm ["_law_script","_law_k","_law_state"] (aj XX):=fD
noncomputable def I_:Fn:=dw Zm (ao (bf 3 (ai bM (jX (af (mC (.str "bat")) (af (mC (.str "bat")) (af (mC (.str "bat")) (af (mC (.str "bye")) (af (mC (.str "leg")) (af (mC (.str "wide")) (af (mC (.str "no")) (af (mC (.str "nobye")) ak))))))))) (gF 3 di (af (aa 0) (af (aa 1) (af (mC (.int 8)) ak))))))
   (ao (bf 4 (ai bM (jX (af (mC (.int 0)) (af (mC (.int 0)) (af (mC (.int 1)) (af (mC (.int 1)) (af (mC (.int 2)) (af (mC (.int 3)) (af (mC (.int 4)) (af (mC (.int 6)) ak))))))))) (gF 3 di (af (aa 0) (af (ai cU (aa 1) (mC (.int 1))) (af (mC (.int 8)) ak))))))
   (ao (bf 5 (gF 3 di (af (aa 0) (af (ai cU (aa 1) (mC (.int 2))) (af (mC (.int 9)) ak)))))
   (ao (cW (mB (ai (cY false) (aa 5) (mC (.int 0))))
   (ao (bf 6 (ai bM (jX (af (ai bM (aa 2) (mC (.int 1))) (af (ai bM (aa 2) (mC (.int 2))) ak))) (gF 3 di (af (aa 0) (af (ai cU (aa 1) (mC (.int 3))) (af (mC (.int 2)) ak))))))
   (ao (bf 7 (ai bM (jX (af (mC (.str "strike")) (af (mC (.str "other")) ak))) (gF 3 di (af (aa 0) (af (ai cU (aa 1) (mC (.int 4))) (af (mC (.int 2)) ak))))))
   (aJ (dm (af (mC (.str "ball")) (af (aa 3) (af (aa 4) (af (mC (.bl false)) (af (mC (.str "run")) (af (aa 6) (af (aa 7) ak)))))))))))
   aI)
   (ao (cW (mB (ai Bl (aa 5) (mC (.int 3))))
   (ao (bf 8 (ai bM (jX (af (mC (.str "bowled")) (af (mC (.str "caught")) (af (mC (.str "before")) (af (mC (.str "stumped")) (af (mC (.str "hit")) ak)))))) (gF 3 di (af (aa 0) (af (ai cU (aa 1) (mC (.int 3))) (af (mC (.int 5)) ak))))))
   (aJ (dm (af (mC (.str "ball")) (af (mC (.str "bat")) (af (mC (.int 0)) (af (mC (.bl false)) (af (aa 8) (af (mC (.str "")) (af (mC (.str "")) ak))))))))))
   aI)
   (aJ (dm (af (mC (.str "ball")) (af (aa 3) (af (aa 4) (af (ai (cY false) (gF 3 di (af (aa 0) (af (ai cU (aa 1) (mC (.int 3))) (af (mC (.int 4)) ak)))) (mC (.int 0))) (af (mC (.str "")) (af (mC (.str "")) (af (mC (.str "")) ak))))))))))))))
theorem adV (T:Txt K mg a):aO P w K mg base eL 4 a.CO a.vj ["_law_script","_law_k","_law_state"] (dM K (aA a) 3 I_):=
 bq T.YL.F Qz λ_ _ _ _ _ _=>(by have:=Qz.nd;exists (dH (wJ T) T.zq ?_))
noncomputable abbrev Zn:List Str:=["_law_script","_law_k","_law_teams_here","_law_match","_law_state","_law_now","_law_at","_law_order","_law_one","_law_fielders","_law_other","_law_fielder","_law_odd","_law_there","_law_players","_law_new"]
theorem Gg:aq Zn ["_law_script","_law_k","_law_teams_here","_law_match"] (aj Pk):=fD
noncomputable def DK:Fn:=dw Zn (ao (bf 4 (aH "Match" "state" 1 DG (aa 3) ak))
   (ao (bf 5 (aH "Match" "players" 1 DH (aa 3) ak))
   (ao (cW (mB (ai (jj false) (aa 4) (mC .bz)))
   (ao (cW (mD (mB (ai (cY false) (cC gW (af (aH "Match" "innings" 1 DI (aa 3) ak) ak)) (mC (.int 2)))) (mB (ai (cY false) (gF 3 di (af (aa 0) (af (aa 1) (af (mC (.int 2)) ak)))) (mC (.int 0)))))
   (aJ (dm (af (mC (.str "follow")) ak)))
   aI)
   (ao (bf 6 (gF 3 di (af (aa 0) (af (ai cU (aa 1) (mC (.int 1))) (af (mC (.int 2)) ak)))))
   (ao (cW (mB (ai (cY true) (aH "Match" "turn" 1 wN (aa 3) ak) (mC (.str ""))))
   (bf 6 (sJ KD qY (jX (af (ai bM (ai bM (aa 5) (mC (.int 0))) (mC (.int 0))) (af (ai bM (ai bM (aa 5) (mC (.int 1))) (mC (.int 0))) ak))) (af (aH "Match" "turn" 1 wN (aa 3) ak) ak)))
   aI)
   (ao (bf 7 (ai bM (ai bM (aa 5) (aa 6)) (mC (.int 1))))
   (ao (bf 8 (gF 3 di (af (aa 0) (af (ai cU (aa 1) (mC (.int 2))) (af (cC gW (af (aa 7) ak)) ak)))))
   (ao (bf 9 (ai bM (ai bM (aa 5) (ai dF (mC (.int 1)) (aa 6))) (mC (.int 1))))
   (ao (bf 10 (ai bM (aa 7) (ai ou (ai cU (aa 8) (mC (.int 1))) (cC gW (af (aa 7) ak)))))
   (ao (bf 11 (ai bM (aa 9) (gF 3 di (af (aa 0) (af (ai cU (aa 1) (mC (.int 3))) (af (cC gW (af (aa 9) ak)) ak))))))
   (aJ (dm (af (mC (.str "start")) (af (ai bM (ai bM (aa 5) (aa 6)) (mC (.int 0))) (af (ai bM (aa 7) (aa 8)) (af (aa 10) (af (aa 11) ak)))))))))))))))
   aI)
   (ao (bf 6 (sJ KD qY (jX (af (ai bM (ai bM (aa 5) (mC (.int 0))) (mC (.int 0))) (af (ai bM (ai bM (aa 5) (mC (.int 1))) (mC (.int 0))) ak))) (af (ai bM (aa 4) (mC (.int 0))) ak)))
   (ao (bf 12 (gF 3 di (af (aa 0) (af (ai cU (aa 1) (mC (.int 4))) (af (mC (.int 40)) ak)))))
   (ao (cW (mB (ai (cY false) (aa 12) (mC (.int 0))))
   (aJ (dm (af (mC (.str "declare")) ak)))
   aI)
   (ao (bf 13 (gE (sM iT (Fv qX (aa 4) (iV (mC (.int 1))) (iV (mC (.int 3))))) [] 1 (cg 0) (mB (ai (cY true) (aa 0) (mC (.str "")))) (aa 0)))
   (ao (cW (mD (mB (ai (cY false) (aa 12) (mC (.int 1)))) (mB (ai (CF true) (aa 13) (jX ak))))
   (aJ (dm (af (mC (.str "hurt")) (af (ai bM (aa 13) (ai ou (gF 3 di (af (aa 0) (af (ai cU (aa 1) (mC (.int 5))) (af (mC (.int 2)) ak)))) (cC gW (af (aa 13) ak)))) ak))))
   aI)
   (ao (cW (mB (ai (cY false) (aa 12) (mC (.int 2))))
   (ao (bf 14 (ai cU (ai bM (ai bM (aa 5) (mC (.int 0))) (mC (.int 1))) (ai bM (ai bM (aa 5) (mC (.int 1))) (mC (.int 1)))))
   (ao (bf 15 (ai cU (mC (.str "sw")) (ai bM (mC (.str "abcdefgh")) (gF 3 di (af (aa 0) (af (ai cU (aa 1) (mC (.int 6))) (af (mC (.int 8)) ak)))))))
   (aJ (dm (af (mC (.str "swap")) (af (ai bM (aa 14) (gF 3 di (af (aa 0) (af (ai cU (aa 1) (mC (.int 5))) (af (cC gW (af (aa 14) ak)) ak))))) (af (aa 15) ak)))))))
   aI)
   (ao (cW (Fg (mB (ai (cY false) (ai bM (aa 4) (mC (.int 1))) (mC (.str "")))) (mB (ai (cY false) (ai bM (aa 4) (mC (.int 2))) (mC (.str "")))))
   (aJ (dm (af (mC (.str "in")) (af (ai bM (ai bM (ai bM (aa 5) (aa 6)) (mC (.int 1))) (gF 3 di (af (aa 0) (af (ai cU (aa 1) (mC (.int 5))) (af (cC gW (af (ai bM (ai bM (aa 5) (aa 6)) (mC (.int 1))) ak)) ak))))) ak))))
   aI)
   (ao (cW (mB (ai (cY false) (ai bM (aa 4) (mC (.int 3))) (mC (.str ""))))
   (aJ (dm (af (mC (.str "bowl")) (af (ai bM (ai bM (ai bM (aa 5) (ai dF (mC (.int 1)) (aa 6))) (mC (.int 1))) (gF 3 di (af (aa 0) (af (ai cU (aa 1) (mC (.int 5))) (af (cC gW (af (ai bM (ai bM (aa 5) (ai dF (mC (.int 1)) (aa 6))) (mC (.int 1))) ak)) ak))))) ak))))
   aI)
   (aJ (gF 3 I_ (af (aa 0) (af (ai cU (aa 1) (mC (.int 5))) (af (aa 4) ak))))))))))))))))
theorem adW (T:Txt K mg a):aO P w K mg base eL 7 a.CQ a.vm ["_law_script","_law_k","_law_teams_here","_law_match"] (dM K (aA a) 4 DK):=
 bq T.YM.F Gg λ_ _ _ _ _ _=>(by have:=Gg.nd;exists (aL (az T) (IP T) (Qq T) (by decide) T.IB.b aB ?_),(aL (az T) (IQ T) (Qt T) (by decide) T.IC.b aB ?_),(cT kI T.kJ zaU ?_),(aL (az T) (IS T) (Qu T) (by decide) T.ID.b aB ?_),(dH (wJ T) T.zq ?_),(aL (az T) (IU T) (Qy T) (by decide) T.IG.b aB ?_),(lD zaM PySem.F.slot_list_index PySem.F.type_list_index lC UI ?_ ?_),(Az (i0:=13) (F:=[]) (T:=["_law_name"]) (fr:=[]) (MA Pk (by decide +kernel)) ?_ (λ_ _ _ _ _=>?_) (λ_ _ _ _ _=>?_) (λ_ _ _ _ _=>?_) Gg.nd rfl rfl rfl),(acE ?_),(f_ 0 (show (["_law_name"]:List Str).Nodup by decide +kernel)),(jW ajG ?_ ?_ (tV _)),(dH (adV T) T.YL ?_))
noncomputable abbrev Zo:List Str:=["self","team","side"]
theorem Gh:aq Zo ["self","team"] (aj XY):=fD
noncomputable def DL:Fn:=dw Zo (ao (o9 (uC (af (mC (.int 2)) ak)) (cg 2)
   (cW (mD (mB (ai (cY false) (ai bM (ai bM (aQ ["Match"] "sides" (aa 0)) (aa 2)) (mC (.int 0))) (aa 1))) (Fg (mB (ai (cY false) (cC gW (af (aQ ["Match"] "played" (aa 0)) ak)) (mC (.int 0)))) (mB (ai (cY false) (aa 2) (aH "Match" "next_side" 1 DJ (aa 0) ak)))))
   (aJ (aa 2))
   aI))
   (aJ (mC .bz)))
theorem QA (T:Txt K mg a):aO P w K mg base eL 6 a.yM a.vn ["self","team"] (dM K (aA a) 2 DL):=
 bq T.II.F Gh λ_ _ _ _ _ _=>(by have:=Gh.nd;exists (jZ zbl ?_ ?_ ?_),(qd T.ql ?_),(c7 T.qo),(f_ 2 Gh.nd),(ay (h_ T) ?_),(cT kI T.kJ zaU ?_),(ay (jr T) ?_),(aL (az T) (IT T) (Qw T) (by decide) T.IE.b aB ?_))
noncomputable abbrev Zp:List Str:=["self","entry","side","batting","fielding"]
theorem QB:aq Zp ["self","entry"] (aj XZ):=fD
noncomputable def Ja:Fn:=dw Zp (ao (cW (mB (ai (jj true) (aH "Match" "going" 1 jt (aa 0) ak) (mC .bz)))
   (aJ (mC (.str "going")))
   aI)
   (ao (bf 2 (aH "Match" "side_to_start" 2 DL (aa 0) (af (ai bM (aa 1) (mC (.int 1))) ak)))
   (ao (cW (mB (ai (jj false) (aa 2) (mC .bz)))
   (aJ (mC (.str "turn")))
   aI)
   (ao (bf 3 (ai bM (ai bM (aQ ["Match"] "sides" (aa 0)) (aa 2)) (mC (.int 1))))
   (ao (bf 4 (ai bM (ai bM (aQ ["Match"] "sides" (aa 0)) (ai dF (mC (.int 1)) (aa 2))) (mC (.int 1))))
   (ao (cW (Fg (mB (ai (Bm true) (ai bM (aa 1) (mC (.int 2))) (aa 3))) (Fg (mB (ai (Bm true) (ai bM (aa 1) (mC (.int 3))) (aa 3))) (mB (ai (Bm true) (ai bM (aa 1) (mC (.int 4))) (aa 4)))))
   (aJ (mC (.str "team")))
   aI)
   (aJ (El (mB (ai (cY false) (ai bM (aa 1) (mC (.int 2))) (ai bM (aa 1) (mC (.int 3))))) (mC (.str "alike")) (mC .bz)))))))))
theorem adX (T:Txt K mg a):aO P w K mg base eL 7 a.yN a.vo ["self","entry"] (dM K (aA a) 2 Ja):=
 bq T.Px.F QB λ_ _ _ _ _ _=>(by have:=QB.nd;exists (aL (az T) (gy T) (iR T) (by decide) T.jO.b aB ?_),(bE (az T) (IV T) (QA T) (by decide) T.II.b aB ?_ ?_),(ay (h_ T) ?_),(jW Ci ?_ ?_ (by with_unfolding_all rfl)))
noncomputable abbrev Zq:List Str:=["self","name"]
theorem QC:aq Zq ["self","name"] (aj X0):=fD
noncomputable def qt:Fn:=dw Zq (aJ (ai (Bm false) (aa 1) (dm (af (aQ ["Innings"] "facing" (aa 0)) (af (aQ ["Innings"] "other" (aa 0)) ak)))))
theorem rF (T:Txt K mg a):aO P w K mg base eL 2 a.yO a.vp ["self","name"] (dM K (aA a) 2 qt):=
 bq T.rY.F QC λ_ _ _ _ _ _=>(by have:=QC.nd;exists (qU KA ?_ ?_ (by with_unfolding_all rfl)),(ay (iQ T) ?_),(ay (m9 T) ?_))
noncomputable abbrev Zr:List Str:=["innings","old"]
theorem QD:aq Zr ["innings","old"] (aj X3):=fD
noncomputable def Jb:Fn:=dw Zr (aJ (El (Fg (mB (aH "Innings" "stands" 2 qt (aa 0) (af (aa 1) ak))) (mB (ai (cY false) (aa 1) (aQ ["Innings"] "bowler" (aa 0))))) (mC (.str "there")) (mC .bz)))
theorem adY (T:Txt K mg a):aO P w K mg base eL 3 a.CS a.vq ["innings","old"] (dM K (aA a) 2 Jb):=
 bq T.YN.F QD λ_ _ _ _ _ _=>(by have:=QD.nd;exists (bE (bu T) (nW T) (rF T) (by decide) T.rY.b aB ?_ ?_),(ay (lM T) ?_))
noncomputable abbrev Zs:List Str:=["self","old","new","going"]
theorem QE:aq Zs ["self","old","new"] (aj X4):=fD
noncomputable def Jc:Fn:=dw Zs (ao (cW (mB (ai (Bm true) (aa 1) (gF 2 DC (af (aQ ["Match"] "sides" (aa 0)) (af (mC (.str "player")) ak)))))
   (aJ (mC (.str "team")))
   aI)
   (ao (cW (mB (ai (Bm false) (aa 2) (aQ ["Match"] "known" (aa 0))))
   (aJ (mC (.str "name")))
   aI)
   (ao (bf 3 (aH "Match" "going" 1 jt (aa 0) ak))
   (aJ (El (mB (ai (jj false) (aa 3) (mC .bz))) (mC .bz) (gF 2 Jb (af (aa 3) (af (aa 1) ak))))))))
theorem adZ (T:Txt K mg a):aO P w K mg base eL 4 a.yP a.vt ["self","old","new"] (dM K (aA a) 3 Jc):=
 bq T.Py.F QE λ_ _ _ _ _ _=>(by have:=QE.nd;exists (jW Ci ?_ ?_ (by with_unfolding_all rfl)),(dH (Qg T) T.Pr ?_),(ay (h_ T) ?_),(jW KA ?_ ?_ (by with_unfolding_all rfl)),(ay (FZ T) ?_),(aL (az T) (gy T) (iR T) (by decide) T.jO.b aB ?_),(dH (adY T) T.YN ?_))
noncomputable abbrev Zt:List Str:=["self"]
theorem QF:aq Zt ["self"] (aj X5):=fD
noncomputable def Jd:Fn:=dw Zt (ao (cW (Fg (mB (ai (cY true) (cC gW (af (aQ ["Match"] "played" (aa 0)) ak)) (mC (.int 2)))) (Fg (mB (ai (cY true) (aH "Match" "most_innings" 1 wL (aa 0) ak) (mC (.int 4)))) (mB (aQ ["Match"] "followed" (aa 0)))))
   (aJ (mC (.bl false)))
   aI)
   (aJ (ly Bl So (mC (.int 0)) (ai bM (aQ ["Match"] "rules" (aa 0)) (mC (.int 7))) (aH "Match" "lead_of" 2 wM (aa 0) (af (aQ ["Innings"] "side" (ai bM (aQ ["Match"] "played" (aa 0)) (mC (.int 0)))) ak)))))
theorem ad0 (T:Txt K mg a):aO P w K mg base eL 4 a.yQ a.vz ["self"] (dM K (aA a) 1 Jd):=
 bq T.Pz.F QF λ_ _ _ _ _ _=>(by have:=QF.nd;exists (cT kI T.kJ zaU ?_),(ay (jr T) ?_),(aL (az T) (AX T) (Gd T) (by decide) T.Du.b aB ?_),(c7 T.qm),(ay (AU T) ?_),(Od Ky Kz ?_ ?_ ?_),(ay (rE T) ?_),(c7 T.Dp),(bE (az T) (tw T) (A4 T) (by decide) T.zv.b aB ?_ ?_),(ay (lK T) ?_))
noncomputable abbrev Zu:List Str:=["self"]
theorem QG:aq Zu ["self"] (aj X6):=fD
noncomputable def Je:Fn:=dw Zu (ao (cW (mB (ai (jj true) (aH "Match" "going" 1 jt (aa 0) ak) (mC .bz)))
   (aJ (mC (.str "going")))
   aI)
   (aJ (El (mB (aH "Match" "may_follow" 1 Jd (aa 0) ak)) (mC .bz) (mC (.str "follow")))))
theorem ad1 (T:Txt K mg a):aO P w K mg base eL 5 a.yR a.vA ["self"] (dM K (aA a) 1 Je):=
 bq T.PB.F QG λ_ _ _ _ _ _=>(by have:=QG.nd;exists (aL (az T) (gy T) (iR T) (by decide) T.jO.b aB ?_),(aL (az T) (VN T) (ad0 T) (by decide) T.Pz.b aB ?_))
noncomputable abbrev Zv:List Str:=["self"]
theorem QH:aq Zv ["self"] (aj X7):=fD
noncomputable def zC:Fn:=dw Zv (aJ (aH "Innings" "stands" 2 qt (aa 0) (af (mC (.str "")) ak)))
theorem Gi (T:Txt K mg a):aO P w K mg base eL 3 a.yS a.vD ["self"] (dM K (aA a) 1 zC):=
 bq T.Dw.F QH λ_ _ _ _ _ _=>(by have:=QH.nd;exists (bE (bu T) (nW T) (rF T) (by decide) T.rY.b aB ?_ ?_))
noncomputable abbrev Zw:List Str:=["kind","runs"]
theorem QI:aq Zw ["kind","runs"] (aj X8):=fD
noncomputable def Jf:Fn:=dw Zw (aJ (mOr (ai (cY false) (aa 1) (mC (.int 4))) (Kw (ai (cY false) (aa 1) (mC (.int 6))) (ai (Bm false) (aa 0) (dm (af (mC (.str "bat")) (af (mC (.str "no")) ak)))))))
theorem ad2 (T:Txt K mg a):aO P w K mg base eL 2 a.CT a.vE ["kind","runs"] (dM K (aA a) 2 Jf):=
 bq T.YO.F QI λ_ _ _ _ _ _=>(by have:=QI.nd;exists (c7 T.adB),(c7 T.akp),(qU KA ?_ ?_ (by with_unfolding_all rfl)))
noncomputable abbrev Zx:List Str:=["kind","runs","rope","way"]
theorem QJ:aq Zx ["kind","runs","rope","way"] (aj X_):=fD
noncomputable def Jg:Fn:=dw Zx (ao (cW (mB (ai (cY false) (aa 3) (mC (.str ""))))
   (aJ (mC (.bl true)))
   aI)
   (ao (cW (mB (aa 2))
   (aJ (mC (.bl false)))
   aI)
   (ao (cW (mB (ai (cY false) (aa 3) (mC (.str "run"))))
   (aJ (mC (.bl true)))
   aI)
   (ao (cW (mB (ai (cY true) (aa 1) (mC (.int 0))))
   (aJ (mC (.bl false)))
   aI)
   (ao (cW (mB (ai (Bm false) (aa 3) (dm (af (mC (.str "stumped")) (af (mC (.str "hit")) ak)))))
   (aJ (ai (Bm false) (aa 0) (dm (af (mC (.str "bat")) (af (mC (.str "wide")) ak)))))
   aI)
   (aJ (ai (cY false) (aa 0) (mC (.str "bat")))))))))
theorem ad3 (T:Txt K mg a):aO P w K mg base eL 2 a.CU a.vF ["kind","runs","rope","way"] (dM K (aA a) 4 Jg):=
 bq T.YQ.F QJ λ_ _ _ _ _ _=>(by have:=QJ.nd;exists (jW KA ?_ ?_ (by with_unfolding_all rfl)),(qU KA ?_ ?_ (by with_unfolding_all rfl)))
noncomputable abbrev Zy:List Str:=["entry","kind","runs","rope"]
theorem QK:aq Zy ["entry"] (aj Yb):=fD
noncomputable def Jh:Fn:=dw Zy (ao (bf 1 (ai bM (aa 0) (mC (.int 1))))
   (ao (bf 2 (ai bM (aa 0) (mC (.int 2))))
   (ao (bf 3 (ai bM (aa 0) (mC (.int 3))))
   (ao (cW (mD (mB (aa 3)) (uw (mB (gF 2 Jf (af (aa 1) (af (aa 2) ak))))))
   (aJ (mC (.str "rope")))
   aI)
   (ao (cW (uw (mB (gF 4 Jg (af (aa 1) (af (aa 2) (af (aa 3) (af (ai bM (aa 0) (mC (.int 4))) ak)))))))
   (aJ (mC (.str "way")))
   aI)
   (aJ (mC .bz)))))))
theorem ad4 (T:Txt K mg a):aO P w K mg base eL 3 a.CV a.vG ["entry"] (dM K (aA a) 1 Jh):=
 bq T.YR.F QK λ_ _ _ _ _ _=>(by have:=QK.nd;exists (dH (ad2 T) T.YO ?_),(dH (ad3 T) T.YQ ?_))
noncomputable abbrev Zz:List Str:=["innings","entry","fault"]
theorem QL:aq Zz ["innings","entry"] (aj Yc):=fD
noncomputable def Ji:Fn:=dw Zz (ao (cW (mB (aH "Innings" "has_gap" 1 zC (aa 0) ak))
   (aJ (mC (.str "empty")))
   aI)
   (ao (cW (mB (ai (cY false) (aQ ["Innings"] "bowler" (aa 0)) (mC (.str ""))))
   (aJ (mC (.str "bowler")))
   aI)
   (ao (bf 2 (gF 1 Jh (af (aa 1) ak)))
   (ao (cW (mD (mB (ai (jj false) (aa 2) (mC .bz))) (mD (mB (ai (cY false) (ai bM (aa 1) (mC (.int 4))) (mC (.str "run")))) (uw (mB (aH "Innings" "stands" 2 qt (aa 0) (af (ai bM (aa 1) (mC (.int 5))) ak))))))
   (aJ (mC (.str "who")))
   aI)
   (aJ (aa 2))))))
theorem ad5 (T:Txt K mg a):aO P w K mg base eL 4 a.CW a.vH ["innings","entry"] (dM K (aA a) 2 Ji):=
 bq T.YS.F QL λ_ _ _ _ _ _=>(by have:=QL.nd;exists (aL (bu T) (AZ T) (Gi T) (by decide) T.Dw.b aB ?_),(ay (lM T) ?_),(dH (ad4 T) T.YR ?_),(bE (bu T) (nW T) (rF T) (by decide) T.rY.b aB ?_ ?_))
noncomputable abbrev ZA:List Str:=["innings","batting","name"]
theorem QM:aq ZA ["innings","batting","name"] (aj Yd):=fD
noncomputable def Jj:Fn:=dw ZA (ao (cW (uw (mB (aH "Innings" "has_gap" 1 zC (aa 0) ak)))
   (aJ (mC (.str "full")))
   aI)
   (ao (cW (mB (ai (Bm true) (aa 2) (aa 1)))
   (aJ (mC (.str "team")))
   aI)
   (ao (cW (mB (ai (Cj false) (aa 2) (aQ ["Innings"] "outs" (aa 0))))
   (aJ (mC (.str "out")))
   aI)
   (aJ (El (mB (aH "Innings" "stands" 2 qt (aa 0) (af (aa 2) ak))) (mC (.str "there")) (mC .bz))))))
theorem ad6 (T:Txt K mg a):aO P w K mg base eL 4 a.CY a.vI ["innings","batting","name"] (dM K (aA a) 3 Jj):=
 bq T.YT.F QM λ_ _ _ _ _ _=>(by have:=QM.nd;exists (aL (bu T) (AZ T) (Gi T) (by decide) T.Dw.b aB ?_),(jW Ci ?_ ?_ (by with_unfolding_all rfl)),(acq ?_ ?_),(ay (nV T) ?_),(bE (bu T) (nW T) (rF T) (by decide) T.rY.b aB ?_ ?_))
noncomputable abbrev ZC:List Str:=["innings","fielding","spell","name"]
theorem QN:aq ZC ["innings","fielding","spell","name"] (aj Ye):=fD
noncomputable def Jk:Fn:=dw ZC (ao (cW (mB (ai (cY true) (aQ ["Innings"] "bowler" (aa 0)) (mC (.str ""))))
   (aJ (mC (.str "bowling")))
   aI)
   (ao (cW (mB (ai (Bm true) (aa 3) (aa 1)))
   (aJ (mC (.str "team")))
   aI)
   (ao (cW (mB (ai (cY false) (aa 3) (aQ ["Innings"] "ahead" (aa 0))))
   (aJ (mC (.str "twice")))
   aI)
   (ao (cW (mB (ly Bl So (mC (.int 0)) (aa 2) (Ii (aQ ["Innings"] "spells" (aa 0)) (aa 3) (mC (.int 0)))))
   (aJ (mC (.str "spell")))
   aI)
   (aJ (mC .bz))))))
theorem ad7 (T:Txt K mg a):aO P w K mg base eL 2 a.CZ a.vJ ["innings","fielding","spell","name"] (dM K (aA a) 4 Jk):=
 bq T.YU.F QN λ_ _ _ _ _ _=>(by have:=QN.nd;exists (ay (lM T) ?_),(jW Ci ?_ ?_ (by with_unfolding_all rfl)),(ay (wG T) ?_),(uv Ky Kz ?_ ?_ ?_),(Ij ?_ ?_ ?_),(ay (qp T) ?_))
noncomputable abbrev ZD:List Str:=["innings","rules","batting","fielding","entry"]
theorem QO:aq ZD ["innings","rules","batting","fielding","entry"] (aj Yg):=fD
noncomputable def Jl:Fn:=dw ZD (ao (cW (mB (ai (cY false) (ai bM (aa 4) (mC (.int 0))) (mC (.str "ball"))))
   (aJ (gF 2 Ji (af (aa 0) (af (aa 4) ak))))
   aI)
   (ao (cW (mB (ai (cY false) (ai bM (aa 4) (mC (.int 0))) (mC (.str "in"))))
   (aJ (gF 3 Jj (af (aa 0) (af (aa 2) (af (ai bM (aa 4) (mC (.int 1))) ak)))))
   aI)
   (ao (cW (mB (ai (cY false) (ai bM (aa 4) (mC (.int 0))) (mC (.str "bowl"))))
   (aJ (gF 4 Jk (af (aa 0) (af (aa 3) (af (ai bM (aa 1) (mC (.int 2))) (af (ai bM (aa 4) (mC (.int 1))) ak))))))
   aI)
   (ao (cW (mB (ai (cY false) (ai bM (aa 4) (mC (.int 0))) (mC (.str "hurt"))))
   (aJ (El (mB (aH "Innings" "stands" 2 qt (aa 0) (af (ai bM (aa 4) (mC (.int 1))) ak))) (mC .bz) (mC (.str "who"))))
   aI)
   (aJ (mC .bz))))))
theorem ad8 (T:Txt K mg a):aO P w K mg base eL 5 a.C0 a.vK ["innings","rules","batting","fielding","entry"] (dM K (aA a) 5 Jl):=
 bq T.YV.F QO λ_ _ _ _ _ _=>(by have:=QO.nd;exists (dH (ad5 T) T.YS ?_),(dH (ad6 T) T.YT ?_),(dH (ad7 T) T.YU ?_),(c7 T.FW),(bE (bu T) (nW T) (rF T) (by decide) T.rY.b aB ?_ ?_))
noncomputable abbrev ZE:List Str:=["self","entry","going","batting","fielding"]
theorem QS:aq ZE ["self","entry"] (aj Yh):=fD
noncomputable def r9:Fn:=dw ZE (ao (cW (mB (aH "Match" "is_done" 1 zB (aa 0) ak))
   (aJ (mC (.str "done")))
   aI)
   (ao (cW (mB (ai (cY false) (ai bM (aa 1) (mC (.int 0))) (mC (.str "start"))))
   (aJ (aH "Match" "start_refusal" 2 Ja (aa 0) (af (aa 1) ak)))
   aI)
   (ao (cW (mB (ai (cY false) (ai bM (aa 1) (mC (.int 0))) (mC (.str "swap"))))
   (aJ (aH "Match" "swap_refusal" 3 Jc (aa 0) (af (ai bM (aa 1) (mC (.int 1))) (af (ai bM (aa 1) (mC (.int 2))) ak))))
   aI)
   (ao (cW (mB (ai (cY false) (ai bM (aa 1) (mC (.int 0))) (mC (.str "follow"))))
   (aJ (aH "Match" "follow_refusal" 1 Je (aa 0) ak))
   aI)
   (ao (cW (mB (ai (cY false) (ai bM (aa 1) (mC (.int 0))) (mC (.str "close"))))
   (aJ (mC .bz))
   aI)
   (ao (bf 2 (aH "Match" "going" 1 jt (aa 0) ak))
   (ao (cW (mB (ai (jj false) (aa 2) (mC .bz)))
   (aJ (mC (.str "none")))
   aI)
   (ao (bf 3 (ai bM (ai bM (aQ ["Match"] "sides" (aa 0)) (aQ ["Innings"] "side" (aa 2))) (mC (.int 1))))
   (ao (bf 4 (ai bM (ai bM (aQ ["Match"] "sides" (aa 0)) (ai dF (mC (.int 1)) (aQ ["Innings"] "side" (aa 2)))) (mC (.int 1))))
   (aJ (gF 5 Jl (af (aa 2) (af (aQ ["Match"] "rules" (aa 0)) (af (aa 3) (af (aa 4) (af (aa 1) ak))))))))))))))))
theorem ad9 (T:Txt K mg a):aO P w K mg base eL 8 a.yT a.vL ["self","entry"] (dM K (aA a) 2 r9):=
 bq T.PD.F QS λ_ _ _ _ _ _=>(by have:=QS.nd;exists (aL (az T) (AY T) (Ge T) (by decide) T.Dv.b aB ?_),(bE (az T) (VL T) (adX T) (by decide) T.Px.b aB ?_ ?_),(bE (az T) (VM T) (adZ T) (by decide) T.Py.b aB ?_ ?_),(aL (az T) (VO T) (ad1 T) (by decide) T.PB.b aB ?_),(aL (az T) (gy T) (iR T) (by decide) T.jO.b aB ?_),(ay (h_ T) ?_),(ay (lK T) ?_),(dH (ad8 T) T.YV ?_),(ay (rE T) ?_))
noncomputable abbrev akN:List Str:=["self","side","facing","other","bowler"]
theorem ZF:aq akN ["self","side","facing","other","bowler"] (aj ake):=fD
noncomputable def V6:Fn:=dw akN (ao (bU ["Innings"] "side" (aa 0) (aa 1))
   (ao (bU ["Innings"] "facing" (aa 0) (aa 2))
   (ao (bU ["Innings"] "other" (aa 0) (aa 3))
   (ao (bU ["Innings"] "bowler" (aa 0) (aa 4))
   (ao (bU ["Innings"] "ahead" (aa 0) (mC (.str "")))
   (ao (bU ["Innings"] "total" (aa 0) (mC (.int 0)))
   (ao (bU ["Innings"] "wickets" (aa 0) (mC (.int 0)))
   (ao (bU ["Innings"] "overs" (aa 0) (mC (.int 0)))
   (ao (bU ["Innings"] "balls" (aa 0) (mC (.int 0)))
   (ao (bU ["Innings"] "ending" (aa 0) (mC (.str "")))
   (ao (bU ["Innings"] "outs" (aa 0) FD)
   (bU ["Innings"] "spells" (aa 0) (Ox [((aa 4),(mC (.int 1)))])))))))))))))
theorem akO (T:Txt K mg a):aO P w K mg base eL 2 a.FQ a.Dd ["self","side","facing","other","bowler"] (dM K (aA a) 5 V6):=
 bq T.akq.F ZF λ_ _ _ _ _ _=>(by have:=ZF.nd;exists (aV (lK T) ?_ ?_),(aV (iQ T) ?_ ?_),(aV (m9 T) ?_ ?_),(aV (lM T) ?_ ?_),(aV (wG T) ?_ ?_),(aV (wH T) ?_ ?_),(aV (AS T) ?_ ?_),(aV (rC T) ?_ ?_),(aV (pC T) ?_ ?_),(aV (rD T) ?_ ?_),(aV (nV T) ?_ ?_),Ow,(aV (qp T) ?_ ?_),(U0 ?_),(UZ ?_ ?_ ?_),acH)
noncomputable abbrev ZG:List Str:=["self","entry","side"]
theorem QT:aq ZG ["self","entry"] (aj Yi):=fD
noncomputable def Jm:Fn:=dw ZG (ao (bf 2 (aH "Match" "side_to_start" 2 DL (aa 0) (af (ai bM (aa 1) (mC (.int 1))) ak)))
   (dG (sJ KD xC (aQ ["Match"] "played" (aa 0)) (af (m6 "Innings" 5 V6 (af (aa 2) (af (ai bM (aa 1) (mC (.int 2))) (af (ai bM (aa 1) (mC (.int 3))) (af (ai bM (aa 1) (mC (.int 4))) ak))))) ak))))
theorem aea (T:Txt K mg a):aO P w K mg base eL 7 a.yU a.vM ["self","entry"] (dM K (aA a) 2 Jm):=
 bq T.PF.F QT λ_ _ _ _ _ _=>(by have:=QT.nd;exists (bE (az T) (IV T) (QA T) (by decide) T.II.b aB ?_ ?_),(lD zaM zbb zbc lC jk ?_ ?_),(ay (jr T) ?_),(lF (c:= "Innings") (FY T) (akO T) (by decide) (Dz T) T.akq.b aB ?_))
noncomputable abbrev ZH:List Str:=["rules","kind","runs","wide","noball"]
theorem QU:aq ZH ["rules","kind","runs"] (aj Yj):=fD
noncomputable def Jo:Fn:=dw ZH (ao (cW (mB (ai (cY false) (aa 1) (mC (.str "bat"))))
   (aJ (dm (af (aa 2) (af (mC (.int 0)) (af (aa 2) ak)))))
   aI)
   (ao (cW (mB (ai (cY false) (aa 1) (mC (.str "wide"))))
   (ao (bf 3 (ai cU (ai bM (aa 0) (mC (.int 3))) (aa 2)))
   (aJ (dm (af (mC (.int 0)) (af (aa 3) (af (aa 3) ak))))))
   aI)
   (ao (bf 4 (ai bM (aa 0) (mC (.int 4))))
   (ao (cW (mB (ai (cY false) (aa 1) (mC (.str "no"))))
   (aJ (dm (af (aa 2) (af (aa 4) (af (ai cU (aa 4) (aa 2)) ak)))))
   aI)
   (ao (cW (mB (ai (cY false) (aa 1) (mC (.str "nobye"))))
   (aJ (dm (af (mC (.int 0)) (af (ai cU (aa 4) (aa 2)) (af (aa 4) ak)))))
   aI)
   (aJ (dm (af (mC (.int 0)) (af (aa 2) (af (mC (.int 0)) ak))))))))))
theorem aeb (T:Txt K mg a):aO P w K mg base eL 2 a.C1 a.vN ["rules","kind","runs"] (dM K (aA a) 3 Jo):=
 bq T.YW.F QU λ_ _ _ _ _ _=>(by have:=QU.nd;exists (c7 T.Lc),(c7 T.Dq))
noncomputable abbrev ZI:List Str:=["rules","entry","kind","runs","by","fair","faced","crossed","credited"]
theorem QV:aq ZI ["rules","entry"] (aj Yk):=fD
noncomputable def Jp:Fn:=dw ZI (ao (bf 2 (ai bM (aa 1) (mC (.int 1))))
   (ao (bf 3 (ai bM (aa 1) (mC (.int 2))))
   (ao (bf 4 (gF 3 Jo (af (aa 0) (af (aa 2) (af (aa 3) ak)))))
   (ao (bf 5 (ai (Bm false) (aa 2) (dm (af (mC (.str "bat")) (af (mC (.str "bye")) (af (mC (.str "leg")) ak))))))
   (ao (bf 6 (ai (cY true) (aa 2) (mC (.str "wide"))))
   (ao (bf 7 (Kw (ai (cY false) (ai ou (aa 3) (mC (.int 2))) (mC (.int 1))) (Uw (ai bM (aa 1) (mC (.int 3))))))
   (ao (bf 8 (ai (Bm true) (ai bM (aa 1) (mC (.int 4))) (dm (af (mC (.str "")) (af (mC (.str "run")) ak)))))
   (aJ (ai cU (ai cU (dm (af (ai cU (ai bM (aa 4) (mC (.int 0))) (ai bM (aa 4) (mC (.int 1)))) ak)) (aa 4)) (dm (af (aa 5) (af (aa 6) (af (aa 7) (af (aa 8) ak))))))))))))))
theorem aec (T:Txt K mg a):aO P w K mg base eL 3 a.C2 a.vO ["rules","entry"] (dM K (aA a) 2 Jp):=
 bq T.YX.F QV λ_ _ _ _ _ _=>(by have:=QV.nd;exists (dH (aeb T) T.YW ?_),(qU KA ?_ ?_ (by with_unfolding_all rfl)),(Of ?_),(qU Ci ?_ ?_ (by with_unfolding_all rfl)))
noncomputable abbrev ZJ:List Str:=["self","entry"]
theorem QW:aq ZJ ["self","entry"] (aj Yl):=fD
noncomputable def Jq:Fn:=dw ZJ (ao (cW (mB (ai (cY false) (ai bM (aa 1) (mC (.int 4))) (mC (.str "run"))))
   (aJ (ai bM (aa 1) (mC (.int 5))))
   aI)
   (aJ (El (mB (ai (cY false) (ai bM (aa 1) (mC (.int 4))) (mC (.str "")))) (mC (.str "")) (aQ ["Innings"] "facing" (aa 0)))))
theorem aed (T:Txt K mg a):aO P w K mg base eL 2 a.yV a.vP ["self","entry"] (dM K (aA a) 2 Jq):=
 bq T.PK.F QW λ_ _ _ _ _ _=>(by have:=QW.nd;exists (ay (iQ T) ?_))
noncomputable abbrev ZK:List Str:=["self","facing"]
theorem QX:aq ZK ["self"] (aj Ym):=fD
noncomputable def zD:Fn:=dw ZK (ao (bf 1 (aQ ["Innings"] "facing" (aa 0)))
   (ao (bU ["Innings"] "facing" (aa 0) (aQ ["Innings"] "other" (aa 0)))
   (bU ["Innings"] "other" (aa 0) (aa 1))))
theorem Gj (T:Txt K mg a):aO P w K mg base eL 2 a.yW a.vQ ["self"] (dM K (aA a) 1 zD):=
 bq T.Dy.F QX λ_ _ _ _ _ _=>(by have:=QX.nd;exists (ay (iQ T) ?_),(aV (iQ T) ?_ ?_),(ay (m9 T) ?_),(aV (m9 T) ?_ ?_))
noncomputable abbrev ZL:List Str:=["self","name"]
theorem QY:aq ZL ["self","name"] (aj Yn):=fD
noncomputable def DM:Fn:=dw ZL (cW (mB (ai (cY false) (aQ ["Innings"] "facing" (aa 0)) (aa 1)))
   (bU ["Innings"] "facing" (aa 0) (mC (.str "")))
   (bU ["Innings"] "other" (aa 0) (mC (.str ""))))
theorem QZ (T:Txt K mg a):aO P w K mg base eL 2 a.yX a.vR ["self","name"] (dM K (aA a) 2 DM):=
 bq T.IJ.F QY λ_ _ _ _ _ _=>(by have:=QY.nd;exists (ay (iQ T) ?_),(aV (iQ T) ?_ ?_),(aV (m9 T) ?_ ?_))
noncomputable abbrev ZM:List Str:=["self","name","end","empty"]
theorem Q0:aq ZM ["self","name","end"] (aj Yo):=fD
noncomputable def Jr:Fn:=dw ZM (ao (Ia (aQ ["Innings"] "outs" (aa 0)) (aa 1) (mC (.bl true)))
   (ao (yi ["Innings"] "wickets" (λi j=>i+j) (aa 0) (mC (.int 1)))
   (ao (dG (aH "Innings" "leave" 2 DM (aa 0) (af (aa 1) ak)))
   (ao (bf 3 (El (mB (ai (cY false) (aQ ["Innings"] "facing" (aa 0)) (mC (.str "")))) (mC (.str "strike")) (mC (.str "other"))))
   (cW (mB (ai (cY true) (aa 3) (aa 2)))
   (dG (aH "Innings" "change_ends" 1 zD (aa 0) ak))
   aI)))))
theorem aee (T:Txt K mg a):aO P w K mg base eL 3 a.yY a.vS ["self","name","end"] (dM K (aA a) 3 Jr):=
 bq T.PM.F Q0 λ_ _ _ _ _ _=>(by have:=Q0.nd;exists (Ib ?_ ?_ ?_),(ay (nV T) ?_),(sX sY (AS T) ?_ ?_),(bE (bu T) (IW T) (QZ T) (by decide) T.IJ.b aB ?_ ?_),(ay (iQ T) ?_),(aL (bu T) (A0 T) (Gj T) (by decide) T.Dy.b aB ?_))
noncomputable abbrev ZN:List Str:=["self","over"]
theorem Q2:aq ZN ["self","over"] (aj Yp):=fD
noncomputable def Js:Fn:=dw ZN (ao (yi ["Innings"] "balls" (λi j=>i+j) (aa 0) (mC (.int 1)))
   (cW (mB (ai gGe (aQ ["Innings"] "balls" (aa 0)) (aa 1)))
   (ao (yi ["Innings"] "overs" (λi j=>i+j) (aa 0) (mC (.int 1)))
   (ao (bU ["Innings"] "balls" (aa 0) (mC (.int 0)))
   (ao (dG (aH "Innings" "change_ends" 1 zD (aa 0) ak))
   (ao (bU ["Innings"] "ahead" (aa 0) (aQ ["Innings"] "bowler" (aa 0)))
   (bU ["Innings"] "bowler" (aa 0) (mC (.str "")))))))
   aI))
theorem aef (T:Txt K mg a):aO P w K mg base eL 3 a.yZ a.vU ["self","over"] (dM K (aA a) 2 Js):=
 bq T.PN.F Q2 λ_ _ _ _ _ _=>(by have:=Q2.nd;exists (sX sY (pC T) ?_ ?_),(ay (pC T) ?_),(sX sY (rC T) ?_ ?_),(aV (pC T) ?_ ?_),(aL (bu T) (A0 T) (Gj T) (by decide) T.Dy.b aB ?_),(aV (wG T) ?_ ?_),(ay (lM T) ?_),(aV (lM T) ?_ ?_))
noncomputable abbrev ZO:List Str:=["self","rules","entry","sums","out"]
theorem Q3:aq ZO ["self","rules","entry"] (aj Yq):=fD
noncomputable def Jt:Fn:=dw ZO (ao (bf 3 (gF 2 Jp (af (aa 1) (af (aa 2) ak))))
   (ao (bf 4 (aH "Innings" "out_by" 2 Jq (aa 0) (af (aa 2) ak)))
   (ao (yi ["Innings"] "total" (λi j=>i+j) (aa 0) (ai bM (aa 3) (mC (.int 0))))
   (ao (cW (mB (ai bM (aa 3) (mC (.int 6))))
   (dG (aH "Innings" "change_ends" 1 zD (aa 0) ak))
   aI)
   (ao (cW (mB (ai (cY true) (aa 4) (mC (.str ""))))
   (dG (aH "Innings" "fall" 3 Jr (aa 0) (af (aa 4) (af (El (mB (ai (cY false) (ai bM (aa 2) (mC (.int 4))) (mC (.str "run")))) (ai bM (aa 2) (mC (.int 6))) (mC (.str "strike"))) ak))))
   aI)
   (ao (cW (mB (ai bM (aa 3) (mC (.int 4))))
   (dG (aH "Innings" "count_fair" 2 Js (aa 0) (af (ai bM (aa 1) (mC (.int 0))) ak)))
   aI)
   (aJ (aa 4))))))))
theorem aeg (T:Txt K mg a):aO P w K mg base eL 4 a.y9 a.vV ["self","rules","entry"] (dM K (aA a) 3 Jt):=
 bq T.PR.F Q3 λ_ _ _ _ _ _=>(by have:=Q3.nd;exists (dH (aec T) T.YX ?_),(bE (bu T) (VR T) (aed T) (by decide) T.PK.b aB ?_ ?_),(sX sY (wH T) ?_ ?_),(c7 T.Dt),(c7 T.AR),(aL (bu T) (A0 T) (Gj T) (by decide) T.Dy.b aB ?_),(bE (bu T) (VS T) (aee T) (by decide) T.PM.b aB ?_ ?_),(c7 T.La),(bE (bu T) (VT T) (aef T) (by decide) T.PN.b aB ?_ ?_),(c7 T.Lb))
noncomputable abbrev ZP:List Str:=["self","entry","going","ahead","out"]
theorem Q4:aq ZP ["self","entry"] (aj Yr):=fD
noncomputable def Ju:Fn:=dw ZP (ao (bf 2 (aH "Match" "going" 1 jt (aa 0) ak))
   (ao (bf 3 (dm (af (ai dF (cC gW (af (aQ ["Match"] "played" (aa 0)) ak)) (mC (.int 1))) (af (aQ ["Innings"] "overs" (aa 2)) (af (aQ ["Innings"] "balls" (aa 2)) (af (aQ ["Innings"] "facing" (aa 2)) (af (aQ ["Innings"] "other" (aa 2)) (af (aQ ["Innings"] "bowler" (aa 2)) ak))))))))
   (ao (bf 4 (aH "Innings" "play" 3 Jt (aa 2) (af (aQ ["Match"] "rules" (aa 0)) (af (aa 1) ak))))
   (dG (sJ KD xC (aQ ["Match"] "balls_told" (aa 0)) (af (ai cU (aa 3) (dm (af (aa 1) (af (aa 4) ak)))) ak))))))
theorem aeh (T:Txt K mg a):aO P w K mg base eL 5 a.y_ a.vW ["self","entry"] (dM K (aA a) 2 Ju):=
 bq T.PU.F Q4 λ_ _ _ _ _ _=>(by have:=Q4.nd;exists (aL (az T) (gy T) (iR T) (by decide) T.jO.b aB ?_),(cT kI T.kJ zaU ?_),(ay (jr T) ?_),(ay (rC T) ?_),(ay (pC T) ?_),(ay (iQ T) ?_),(ay (m9 T) ?_),(ay (lM T) ?_),(bE (bu T) (VU T) (aeg T) (by decide) T.PR.b aB ?_ ?_),(ay (rE T) ?_),(lD zaM zbb zbc lC jk ?_ ?_),(ay (F1 T) ?_))
noncomputable abbrev ZQ:List Str:=["self","name"]
theorem Q5:aq ZQ ["self","name"] (aj Ys):=fD
noncomputable def Jv:Fn:=dw ZQ (cW (mB (ai (cY false) (aQ ["Innings"] "facing" (aa 0)) (mC (.str ""))))
   (bU ["Innings"] "facing" (aa 0) (aa 1))
   (bU ["Innings"] "other" (aa 0) (aa 1)))
theorem aei (T:Txt K mg a):aO P w K mg base eL 2 a.zd a.vX ["self","name"] (dM K (aA a) 2 Jv):=
 bq T.PV.F Q5 λ_ _ _ _ _ _=>(by have:=Q5.nd;exists (ay (iQ T) ?_),(aV (iQ T) ?_ ?_),(aV (m9 T) ?_ ?_))
noncomputable abbrev ZR:List Str:=["self","name"]
theorem Q6:aq ZR ["self","name"] (aj Yt):=fD
noncomputable def Jw:Fn:=dw ZR (ao (bU ["Innings"] "bowler" (aa 0) (aa 1))
   (Ia (aQ ["Innings"] "spells" (aa 0)) (aa 1) (ai cU (Ii (aQ ["Innings"] "spells" (aa 0)) (aa 1) (mC (.int 0))) (mC (.int 1)))))
theorem aej (T:Txt K mg a):aO P w K mg base eL 2 a.ze a.vY ["self","name"] (dM K (aA a) 2 Jw):=
 bq T.PX.F Q6 λ_ _ _ _ _ _=>(by have:=Q6.nd;exists (aV (lM T) ?_ ?_),(Ib ?_ ?_ ?_),(ay (qp T) ?_),(Ij ?_ ?_ ?_))
noncomputable abbrev ZS:List Str:=["players","old","new"]
theorem Q7:aq ZS ["players","old","new"] (aj Pn):=fD
noncomputable def Jx:Fn:=dw ZS (aJ (gE (sM iL (aa 0)) [2,1] 1 (cg 2) jJ (El (mB (ai (cY false) (aa 2) (aa 1))) (aa 0) (aa 2))))
theorem aek (T:Txt K mg a):aO P w K mg base eL 2 a.C3 a.vZ ["players","old","new"] (dM K (aA a) 3 Jx):=
 bq T.YY.F Q7 λ_ _ _ _ _ _=>(by have:=Q7.nd;exists (iZ (F:=["new","old"]) (T:=["name"]) (fr:=[2,1]) (MA Pn (by decide +kernel)) ?_ (λ_ _ _ _ _=>?_) (λ_ _ _ _ _=>?_) (λ_ _ _ _ _=>?_)),(f_ 2 (show (["new","old","name"]:List Str).Nodup by decide +kernel)))
noncomputable abbrev ZT:List Str:=["told","old","new"]
theorem Q8:aq ZT ["told","old","new"] (aj Po):=fD
noncomputable def DN:Fn:=dw ZT (aJ (cC AK (af (gE (sM iD (aa 0)) [2,0,1] 1 (cg 3) jJ (dm (af (El (mB (ai (cY false) (aa 3) (aa 2))) (aa 0) (aa 3)) (af (ai O9 (aa 1) (aa 3)) ak)))) ak)))
theorem ael (T:Txt K mg a):aO P w K mg base eL 2 a.C4 a.v8 ["told","old","new"] (dM K (aA a) 3 DN):=
 bq T.YZ.F Q8 λ_ _ _ _ _ _=>(by have:=Q8.nd;exists (jb VE T.adA PyProof.Rows.boot_dict ?_),(iZ (F:=["new","told","old"]) (T:=["name"]) (fr:=[2,0,1]) (MA Po (by decide +kernel)) ?_ (λ_ _ _ _ _=>?_) (λ_ _ _ _ _=>?_) (λ_ _ _ _ _=>?_)),(VD ?_),(f_ 3 (show (["new","told","old","name"]:List Str).Nodup by decide +kernel)),(adu ?_ ?_))
noncomputable abbrev ZU:List Str:=["self","old","new"]
theorem Q9:aq ZU ["self","old","new"] (aj Yu):=fD
noncomputable def Jy:Fn:=dw ZU (ao (bU ["Innings"] "outs" (aa 0) (gF 3 DN (af (aQ ["Innings"] "outs" (aa 0)) (af (aa 1) (af (aa 2) ak)))))
   (ao (bU ["Innings"] "spells" (aa 0) (gF 3 DN (af (aQ ["Innings"] "spells" (aa 0)) (af (aa 1) (af (aa 2) ak)))))
   (cW (mB (ai (cY false) (aQ ["Innings"] "ahead" (aa 0)) (aa 1)))
   (bU ["Innings"] "ahead" (aa 0) (aa 2))
   aI)))
theorem aem (T:Txt K mg a):aO P w K mg base eL 3 a.zf a.v9 ["self","old","new"] (dM K (aA a) 3 Jy):=
 bq T.PY.F Q9 λ_ _ _ _ _ _=>(by have:=Q9.nd;exists (aV (nV T) ?_ ?_),(dH (ael T) T.YZ ?_),(ay (nV T) ?_),(aV (qp T) ?_ ?_),(ay (qp T) ?_),(ay (wG T) ?_),(aV (wG T) ?_ ?_))
noncomputable abbrev ZV:List Str:=["self","old","new","going"]
theorem Q_:aq ZV ["self","old","new"] (aj Pp):=fD
noncomputable def Jz:Fn:=dw ZV (ao (dG (sJ KD xC (aQ ["Match"] "known" (aa 0)) (af (aa 2) ak)))
   (ao (bU ["Match"] "sides" (aa 0) (gE (sM iL (aQ ["Match"] "sides" (aa 0))) [1,2] 2 (lZ 2 (gc (cg 2) (gc (cg 3) sL))) jJ (dm (af (aa 2) (af (gF 3 Jx (af (aa 3) (af (aa 0) (af (aa 1) ak)))) ak)))))
   (ao (bf 3 (aH "Match" "going" 1 jt (aa 0) ak))
   (cW (mB (ai (jj true) (aa 3) (mC .bz)))
   (dG (aH "Innings" "rename" 3 Jy (aa 3) (af (aa 1) (af (aa 2) ak))))
   aI))))
theorem aen (T:Txt K mg a):aO P w K mg base eL 4 a.zg a.v_ ["self","old","new"] (dM K (aA a) 3 Jz):=
 bq T.PZ.F Q_ λ_ _ _ _ _ _=>(by have:=Q_.nd;exists (lD zaM zbb zbc lC jk ?_ ?_),(ay (FZ T) ?_),(aV (h_ T) ?_ ?_),(iZ (F:=["old","new"]) (T:=["name","players"]) (fr:=[1,2]) (MA Pp (by decide +kernel)) ?_ (λ_ _ _ _ _=>?_) (λ_ _ _ _ _=>?_) (λ_ _ _ _ _=>?_)),(ay (h_ T) ?_),(m5 (n:=2) ?_),(f_ 2 (show (["old","new","name","players"]:List Str).Nodup by decide +kernel)),(f_ 3 (show (["old","new","name","players"]:List Str).Nodup by decide +kernel)),(dH (aek T) T.YY ?_),(aL (az T) (gy T) (iR T) (by decide) T.jO.b aB ?_),(bE (bu T) (VZ T) (aem T) (by decide) T.PY.b aB ?_ ?_))
noncomputable abbrev ZW:List Str:=["self","going"]
theorem Ra:aq ZW ["self"] (aj Yv):=fD
noncomputable def JA:Fn:=dw ZW (ao (bU ["Match"] "closed" (aa 0) (mC (.bl true)))
   (ao (bf 1 (aH "Match" "going" 1 jt (aa 0) ak))
   (cW (mB (ai (jj true) (aa 1) (mC .bz)))
   (bU ["Innings"] "ending" (aa 1) (mC (.str "closed")))
   aI)))
theorem aeo (T:Txt K mg a):aO P w K mg base eL 3 a.zh a.wc ["self"] (dM K (aA a) 1 JA):=
 bq T.P0.F Ra λ_ _ _ _ _ _=>(by have:=Ra.nd;exists (aV (AV T) ?_ ?_),(aL (az T) (gy T) (iR T) (by decide) T.jO.b aB ?_),(aV (rD T) ?_ ?_))
noncomputable abbrev ZX:List Str:=["self","entry","going","word"]
theorem Rb:aq ZX ["self","entry"] (aj Yw):=fD
noncomputable def wO:Fn:=dw ZX (ao (bf 2 (aH "Match" "going" 1 jt (aa 0) ak))
   (ao (bf 3 (ai bM (aa 1) (mC (.int 0))))
   (cW (mB (ai (cY false) (aa 3) (mC (.str "start"))))
   (dG (aH "Match" "begin" 2 Jm (aa 0) (af (aa 1) ak)))
   (cW (mB (ai (cY false) (aa 3) (mC (.str "ball"))))
   (dG (aH "Match" "play_ball" 2 Ju (aa 0) (af (aa 1) ak)))
   (cW (mB (ai (cY false) (aa 3) (mC (.str "in"))))
   (dG (aH "Innings" "come_in" 2 Jv (aa 2) (af (ai bM (aa 1) (mC (.int 1))) ak)))
   (cW (mB (ai (cY false) (aa 3) (mC (.str "bowl"))))
   (dG (aH "Innings" "bowl_next" 2 Jw (aa 2) (af (ai bM (aa 1) (mC (.int 1))) ak)))
   (cW (mB (ai (cY false) (aa 3) (mC (.str "hurt"))))
   (dG (aH "Innings" "leave" 2 DM (aa 2) (af (ai bM (aa 1) (mC (.int 1))) ak)))
   (cW (mB (ai (cY false) (aa 3) (mC (.str "swap"))))
   (dG (aH "Match" "swap_player" 3 Jz (aa 0) (af (ai bM (aa 1) (mC (.int 1))) (af (ai bM (aa 1) (mC (.int 2))) ak))))
   (cW (mB (ai (cY false) (aa 3) (mC (.str "declare"))))
   (bU ["Innings"] "ending" (aa 2) (mC (.str "declared")))
   (cW (mB (ai (cY false) (aa 3) (mC (.str "follow"))))
   (bU ["Match"] "followed" (aa 0) (mC (.bl true)))
   (dG (aH "Match" "close" 1 JA (aa 0) ak))))))))))))
theorem aep (T:Txt K mg a):aO P w K mg base eL 8 a.zj a.we ["self","entry"] (dM K (aA a) 2 wO):=
 bq T.P1.F Rb λ_ _ _ _ _ _=>(by have:=Rb.nd;exists (aL (az T) (gy T) (iR T) (by decide) T.jO.b aB ?_),(bE (az T) (VQ T) (aea T) (by decide) T.PF.b aB ?_ ?_),(bE (az T) (VW T) (aeh T) (by decide) T.PU.b aB ?_ ?_),(bE (bu T) (VX T) (aei T) (by decide) T.PV.b aB ?_ ?_),(bE (bu T) (VY T) (aej T) (by decide) T.PX.b aB ?_ ?_),(bE (bu T) (IW T) (QZ T) (by decide) T.IJ.b aB ?_ ?_),(bE (az T) (V0 T) (aen T) (by decide) T.PZ.b aB ?_ ?_),(aV (rD T) ?_ ?_),(aV (AU T) ?_ ?_),(aL (az T) (V1 T) (aeo T) (by decide) T.P0.b aB ?_))
noncomputable abbrev ZY:List Str:=["self","players"]
theorem Rc:aq ZY ["self","players"] (aj Pq):=fD
noncomputable def JB:Fn:=dw ZY (aJ (cC UG (af (gE (sM iL (aa 1)) [0] 1 (cg 1) jJ (Kw (ai (Cj true) (aa 1) (aQ ["Innings"] "outs" (aa 0))) (Uw (aH "Innings" "stands" 2 qt (aa 0) (af (aa 1) ak))))) ak)))
theorem aeq (T:Txt K mg a):aO P w K mg base eL 3 a.zk a.wg ["self","players"] (dM K (aA a) 2 JB):=
 bq T.P4.F Rc λ_ _ _ _ _ _=>(by have:=Rc.nd;exists (cT aiR T.akn PyProof.Rows.boot_any ?_),(iZ (F:=["self"]) (T:=["name"]) (fr:=[0]) (MA Pq (by decide +kernel)) ?_ (λ_ _ _ _ _=>?_) (λ_ _ _ _ _=>?_) (λ_ _ _ _ _=>?_)),(f_ 1 (show (["self","name"]:List Str).Nodup by decide +kernel)),(UB ?_ ?_),(ay (nV T) ?_),(Of ?_),(bE (bu T) (nW T) (rF T) (by decide) T.rY.b aB ?_ ?_))
noncomputable abbrev ZZ:List Str:=["self","going"]
theorem Rf:aq ZZ ["self","going"] (aj Yx):=fD
noncomputable def JC:Fn:=dw ZZ (ao (cW (mD (mB (ai (cY false) (cC gW (af (aQ ["Match"] "played" (aa 0)) ak)) (aH "Match" "most_innings" 1 wL (aa 0) ak))) (mB (ai Eo (aH "Match" "lead_of" 2 wM (aa 0) (af (aQ ["Innings"] "side" (aa 1)) ak)) (mC (.int 0)))))
   (aJ (mC (.str "won")))
   aI)
   (ao (cW (mD (mB (aH "Innings" "has_gap" 1 zC (aa 1) ak)) (uw (mB (aH "Innings" "has_left" 2 JB (aa 1) (af (ai bM (ai bM (aQ ["Match"] "sides" (aa 0)) (aQ ["Innings"] "side" (aa 1))) (mC (.int 1))) ak)))))
   (aJ (mC (.str "out")))
   aI)
   (aJ (El (mB (ly Bl So (mC (.int 0)) (ai bM (aQ ["Match"] "rules" (aa 0)) (mC (.int 1))) (aQ ["Innings"] "overs" (aa 1)))) (mC (.str "overs")) (mC (.str ""))))))
theorem aer (T:Txt K mg a):aO P w K mg base eL 4 a.zl a.wj ["self","going"] (dM K (aA a) 2 JC):=
 bq T.P5.F Rf λ_ _ _ _ _ _=>(by have:=Rf.nd;exists (cT kI T.kJ zaU ?_),(ay (jr T) ?_),(aL (az T) (AX T) (Gd T) (by decide) T.Du.b aB ?_),(bE (az T) (tw T) (A4 T) (by decide) T.zv.b aB ?_ ?_),(ay (lK T) ?_),(aL (bu T) (AZ T) (Gi T) (by decide) T.Dw.b aB ?_),(bE (bu T) (V3 T) (aeq T) (by decide) T.P4.b aB ?_ ?_),(ay (h_ T) ?_),(uv Ky Kz ?_ ?_ ?_),(ay (rE T) ?_),(c7 T.FU),(ay (rC T) ?_))
noncomputable abbrev Z0:List Str:=["self","entry","rule","going"]
theorem Rg:aq Z0 ["self","entry"] (aj Yy):=fD
noncomputable def l6:Fn:=Sv Z0 (ao (bf 2 (aH "Match" "refusal" 2 r9 (aa 0) (af (aa 1) ak)))
   (ao (cW (mB (ai (jj true) (aa 2) (mC .bz)))
   (s_ "NotLet" 3 (gT2 "rule" "number") [.int 0] (af (fJ [(mC (.str "the rules don't let this entry: ")),(OB (aa 2))] Str.empty) (af (aa 2) ak)))
   aI)
   (ao (dG (aH "Match" "do" 2 wO (aa 0) (af (aa 1) ak)))
   (ao (bf 3 (aH "Match" "going" 1 jt (aa 0) ak))
   (cW (mB (ai (jj true) (aa 3) (mC .bz)))
   (bU ["Innings"] "ending" (aa 3) (aH "Match" "ending_due" 2 JC (aa 0) (af (aa 3) ak)))
   aI)))))
theorem A5 (T:Txt K mg a):aO P w K mg base (oh P w) 9 a.zm a.wm ["self","entry"] (dM K (aA a) 2 l6):=
 uH T.zw.F Rg λ_ _ _ _ _ _=>(by have:=Rg.nd;exists (bE (az T) (VP T) (ad9 T) (by decide) T.PD.b aB ?_ ?_),(Cr (c:= "NotLet") (n:=3) (g:=gE2 "rule" "number") (gT:=gT2 "rule" "number") (FG:=[.int 0]) (mS:=[.int 0]) (fV T) (pF T) (by decide) (F8 T) T.zx (.cons ⟨_,rfl⟩ .nil) (λ_=>.cons d7 .nil) gR2 ?_),(Il ?_),(Ik ?_ ?_),(OC ?_),OD,(bE (az T) (V2 T) (aep T) (by decide) T.P1.b aB ?_ ?_),(aL (az T) (gy T) (iR T) (by decide) T.jO.b aB ?_),(aV (rD T) ?_ ?_),(bE (az T) (V4 T) (aer T) (by decide) T.P5.b aB ?_ ?_))
noncomputable abbrev Z1:List Str:=["_law_match","_law_entry_here","_law_rule","refused"]
theorem Gk:aq Z1 ["_law_match","_law_entry_here"] (aj Yz):=fD
noncomputable def DO:Fn:=dw Z1 (ao (bf 2 (mC (.str "")))
   (ao (Cy "Match" "tell" 2 l6 (aa 0) (af (aa 1) ak) ["NotLet"] (some 3)
   (bf 2 (Cu ["NotLet"] "rule" (aa 3))))
   (aJ (aa 2))))
theorem Rh (T:Txt K mg a):aO P w K mg base eL 10 a.C5 a.wo ["_law_match","_law_entry_here"] (dM K (aA a) 2 DO):=
 bq T.P6.F Gk λ_ _ _ _ _ _=>(by have:=Gk.nd;exists (yu (l:=3) (c:= "Match") (T.fU.M.aja) (zA T) (wI T) (az T) (tE T) (A5 T) (by decide) T.zw.b ?_ ?_ Gk.nd (λ_=>?_) rfl rfl),(AE (IK T) ?_))
noncomputable abbrev Ri:List Str:=["_law_script","_law_rules_here","_law_teams_here","_law_many","_law_match","_law_kept","_law_k","_law_entry_here"]
theorem Gm:aq Ri ["_law_script","_law_rules_here","_law_teams_here","_law_many"] (aj YA):=fD
noncomputable def JD:Fn:=l5 (dw Ri (ao (bf 4 (m6 "Match" 3 rZ (af (aa 1) (af (aa 2) ak))))
   (ao (bf 5 (pX ak))
   (ao (o9 (uC (af (aa 3) ak)) (cg 6)
   (cW (mB (ai (jj false) (aH "Match" "result" 1 DF (aa 4) ak) (mC .bz)))
   (ao (bf 7 (gF 4 DK (af (aa 0) (af (ai sH (mC (.int 11)) (aa 6)) (af (aa 2) (af (aa 4) ak))))))
   (cW (mB (ai (cY false) (gF 2 DO (af (aa 4) (af (aa 7) ak))) (mC (.str ""))))
   (dG (sJ KD xC (aa 5) (af (aa 7) ak)))
   aI))
   aI))
   (aJ (aa 5))))))
theorem aes (T:Txt K mg a):aO P w K mg base eL 11 a.C6 a.wu ["_law_script","_law_rules_here","_law_teams_here","_law_many"] (dM K (aA a) 4 JD):=
 aO.pure (bq T.Y0.F Gm λ_ _ _ _ _ _=>(by have:=Gm.nd;exists (lF (c:= "Match") (m_ T) (wK T) (by decide) (kK T) T.zu.b aB ?_),(jZ zbl ?_ ?_ ?_),(qd T.ql ?_),(f_ 6 Gm.nd),(aL (az T) (IM T) (Qo T) (by decide) T.IA.b aB ?_),(dH (adW T) T.YM ?_),(dH (Rh T) T.P6 ?_),(lD zaM zbb zbc lC jk ?_ ?_)))
noncomputable abbrev akP:List Str:=["self","rules","teams"]
theorem Z2:aq akP ["self","rules","teams"] (aj adz):=fD
noncomputable def Rj:Fn:=dw akP (ao (bU ["Book"] "rules" (aa 0) (aa 1))
   (ao (bU ["Book"] "teams" (aa 0) (gE (sM iL (aa 2)) [] 2 (lZ 2 (gc (cg 0) (gc (cg 1) sL))) jJ (dm (af (aa 0) (af (cC rT (af (aa 1) ak)) ak)))))
   (ao (bU ["Book"] "kept" (aa 0) (pX ak))
   (bU ["Book"] "current" (aa 0) (m6 "Match" 3 rZ (af (aa 1) (af (aa 2) ak)))))))
theorem akQ (T:Txt K mg a):aO P w K mg base eL 5 a.FT a.De ["self","rules","teams"] (dM K (aA a) 3 Rj):=
 bq T.akr.F Z2 λ_ _ _ _ _ _=>(by have:=Z2.nd;exists (aV (F3 T) ?_ ?_),(aV (F4 T) ?_ ?_),(iZ (F:=[]) (T:=["name","players"]) (fr:=[]) (MA adz (by decide +kernel)) ?_ (λ_ _ _ _ _=>?_) (λ_ _ _ _ _=>?_) (λ_ _ _ _ _=>?_)),(m5 (n:=2) ?_),(f_ 0 (show (["name","players"]:List Str).Nodup by decide +kernel)),(f_ 1 (show (["name","players"]:List Str).Nodup by decide +kernel)),(jb uB T.wD zbL ?_),(aV (ng T) ?_ ?_),(aV (F5 T) ?_ ?_),(lF (c:= "Match") (m_ T) (wK T) (by decide) (kK T) T.zu.b aB ?_))
noncomputable abbrev akR:List Str:=["self","entry"]
theorem Z3:aq akR ["self","entry"] (aj akf):=fD
noncomputable def V7:Fn:=dw akR (ao (dG (aH "Match" "tell" 2 l6 (aQ ["Book"] "current" (aa 0)) (af (aa 1) ak)))
   (dG (sJ KD xC (aQ ["Book"] "kept" (aa 0)) (af (aa 1) ak))))
theorem akS (T:Txt K mg a):aO P w K mg base eL 10 a.K3 a.Df ["self","entry"] (dM K (aA a) 2 V7):=
 bq T.adC.F Z3 λ_ _ _ _ _ _=>(by have:=Z3.nd;exists (bE (az T) (tE T) (A5 T) (by decide) T.zw.b FI ?_ ?_),(ay (F5 T) ?_),(lD zaM zbb zbc lC jk ?_ ?_),(ay (ng T) ?_))
noncomputable abbrev akT:List Str:=["self","number","count"]
theorem Z4:aq akT ["self","number","count"] (aj akg):=fD
noncomputable def DP:Fn:=Sv akT (cW (uw (mB (ly So Bl (mC (.int 0)) (aa 1) (aa 2))))
   (s_ "NoEntry" 2 (gT1 "number") [] (af (fJ [(mC (.str "there is no entry ")),(OB (aa 1))] Str.empty) (af (aa 1) ak)))
   aI)
theorem Rk (T:Txt K mg a):aO P w K mg base (oh P w) 3 a.K4 a.Dg ["self","number","count"] (dM K (aA a) 3 DP):=
 uH T.P7.F Z4 λ_ _ _ _ _ _=>(by have:=Z4.nd;exists (uv Kz Ky ?_ ?_ ?_),(Cr (c:= "NoEntry") (n:=2) (g:=gE1 "number") (gT:=gT1 "number") (FG:=[]) (mS:=[]) (eX T) (oE T) (by decide) (DA T) T.gD.b .nil (λ_=>.nil) gR1 ?_),(Il ?_),(Ik ?_ ?_),(OC ?_),OD)
noncomputable abbrev akU:List Str:=["self","entries","trial","number","entry","error"]
theorem DQ:aq akU ["self","entries"] (aj akh):=fD
noncomputable def DR:Fn:=dw akU (ao (bf 2 (m6 "Match" 3 rZ (af (aQ ["Book"] "rules" (aa 0)) (af (aQ ["Book"] "teams" (aa 0)) ak))))
   (ao (o9 (mEn 0 (af (aa 1) ak)) (lZ 2 (gc (cg 3) (gc (cg 4) sL)))
   (Cy "Match" "tell" 2 l6 (aa 2) (af (aa 4) ak) ["NotLet"] (some 5)
   (aJ (dm (af (aa 3) (af (Cu ["NotLet"] "rule" (aa 5)) ak))))))
   (ao (bU ["Book"] "kept" (aa 0) (aa 1))
   (ao (bU ["Book"] "current" (aa 0) (aa 2))
   (aJ (mC .bz))))))
theorem Rl (T:Txt K mg a):aO P w K mg base eL 10 a.K5 a.Dh ["self","entries"] (dM K (aA a) 2 DR):=
 bq T.P8.F DQ λ_ _ _ _ _ _=>(by have:=DQ.nd;exists (lF (c:= "Match") (m_ T) (wK T) (by decide) (kK T) T.zu.b aB ?_),(ay (F3 T) ?_),(ay (F4 T) ?_),(jZ zbl ?_ ?_ ?_),(Ay T.m8 ?_),(m5 (n:=2) ?_),(f_ 3 DQ.nd),(f_ 4 DQ.nd),(yu (l:=5) (c:= "Match") (T.fU.M.aja) (zA T) (wI T) (az T) (tE T) (A5 T) (by decide) T.zw.b ?_ ?_ DQ.nd (λ_=>?_) rfl rfl),(AE (IK T) ?_),(aV (ng T) ?_ ?_),(aV (F5 T) ?_ ?_))
noncomputable abbrev akV:List Str:=["self","number","entry"]
theorem Z5:aq akV ["self","number","entry"] (aj aki):=fD
noncomputable def Gn:Fn:=Sv akV (ao (dG (aH "Book" "need_number" 3 DP (aa 0) (af (aa 1) (af (cC gW (af (aQ ["Book"] "kept" (aa 0)) ak)) ak))))
   (aJ (aH "Book" "retell" 2 DR (aa 0) (af (ai pY (ai cU (Fv qX (aQ ["Book"] "kept" (aa 0)) gq (iV (aa 1))) (jX (af (aa 2) ak))) (Fv qX (aQ ["Book"] "kept" (aa 0)) (iV (ai cU (aa 1) (mC (.int 1)))) gq)) ak))))
theorem akW (T:Txt K mg a):aO P w K mg base (oh P w) 11 a.K6 a.Di ["self","number","entry"] (dM K (aA a) 3 Gn):=
 uH T.adD.F Z5 λ_ _ _ _ _ _=>(by have:=Z5.nd;exists (uO (c:= "Book") (fq T) (F_ T) (Rk T) (by decide) T.P7.b Pc ?_ ?_),(cT kI T.kJ zaU ?_),(ay (ng T) ?_),(bE (fq T) (Ga T) (Rl T) (by decide) T.P8.b aB ?_ ?_),(Ao Fq ?_ ?_))
noncomputable abbrev akX:List Str:=["self","number"]
theorem Z6:aq akX ["self","number"] (aj akj):=fD
noncomputable def V8:Fn:=Sv akX (ao (dG (aH "Book" "need_number" 3 DP (aa 0) (af (aa 1) (af (cC gW (af (aQ ["Book"] "kept" (aa 0)) ak)) ak))))
   (aJ (aH "Book" "retell" 2 DR (aa 0) (af (ai pY (Fv qX (aQ ["Book"] "kept" (aa 0)) gq (iV (aa 1))) (Fv qX (aQ ["Book"] "kept" (aa 0)) (iV (ai cU (aa 1) (mC (.int 1)))) gq)) ak))))
theorem akY (T:Txt K mg a):aO P w K mg base (oh P w) 11 a.K7 a.Dk ["self","number"] (dM K (aA a) 2 V8):=
 uH T.adE.F Z6 λ_ _ _ _ _ _=>(by have:=Z6.nd;exists (uO (c:= "Book") (fq T) (F_ T) (Rk T) (by decide) T.P7.b Pc ?_ ?_),(cT kI T.kJ zaU ?_),(ay (ng T) ?_),(bE (fq T) (Ga T) (Rl T) (by decide) T.P8.b aB ?_ ?_),(Ao Fq ?_ ?_))
noncomputable abbrev akZ:List Str:=["self","number","entry"]
theorem Z7:aq akZ ["self","number","entry"] (aj akk):=fD
noncomputable def Gp:Fn:=Sv akZ (ao (dG (aH "Book" "need_number" 3 DP (aa 0) (af (aa 1) (af (ai cU (cC gW (af (aQ ["Book"] "kept" (aa 0)) ak)) (mC (.int 1))) ak))))
   (aJ (aH "Book" "retell" 2 DR (aa 0) (af (ai pY (ai cU (Fv qX (aQ ["Book"] "kept" (aa 0)) gq (iV (aa 1))) (jX (af (aa 2) ak))) (Fv qX (aQ ["Book"] "kept" (aa 0)) (iV (aa 1)) gq)) ak))))
theorem ak0 (T:Txt K mg a):aO P w K mg base (oh P w) 11 a.K8 a.Dl ["self","number","entry"] (dM K (aA a) 3 Gp):=
 uH T.adF.F Z7 λ_ _ _ _ _ _=>(by have:=Z7.nd;exists (uO (c:= "Book") (fq T) (F_ T) (Rk T) (by decide) T.P7.b Pc ?_ ?_),(cT kI T.kJ zaU ?_),(ay (ng T) ?_),(bE (fq T) (Ga T) (Rl T) (by decide) T.P8.b aB ?_ ?_),(Ao Fq ?_ ?_))
noncomputable abbrev Z8:List Str:=["_law_book","_law_way","_law_number","_law_entry_here","_law_caught","refused"]
theorem Gq:aq Z8 ["_law_book","_law_way","_law_number","_law_entry_here"] (aj YB):=fD
noncomputable def wQ:Fn:=dw Z8 (ao (bf 4 (mC .bz))
   (ao (uP (AL (mB (ai (cY false) (aa 1) (mC (.int 0)))) (j8 "Book" "put_right" 3 Gn (aa 0) (af (aa 2) (af (aa 3) ak))) (AL (mB (ai (cY false) (aa 1) (mC (.int 1)))) (j8 "Book" "take_out" 2 V8 (aa 0) (af (aa 2) ak)) (j8 "Book" "put_in" 3 Gp (aa 0) (af (aa 2) (af (aa 3) ak))))) ["NotLet","NoEntry"] (some 5)
   (bf 4 (aa 5)))
   (ao (cW (mB (ai (jj false) (aa 4) (mC .bz)))
   (aJ (mC .bz))
   aI)
   (ao (cW (Fg (uw (mB (Cw [("NotLet",false),("NoEntry",true)] (aa 4)))) (Fg (mB (Cw [("NoEntry",false)] (aa 4))) (uw (mB (Cw [("NotLet",true),("NoEntry",true)] (aa 4))))))
   (aJ (mC (.bl false)))
   aI)
   (aJ (ai (cY false) (Cu ["NotLet","NoEntry"] "number" (aa 4)) (aa 2)))))))
theorem aet (T:Txt K mg a):aO P w K mg base eL 12 a.C7 a.wz ["_law_book","_law_way","_law_number","_law_entry_here"] (dM K (aA a) 4 wQ):=
 bq T.Y3.F Gq λ_ _ _ _ _ _=>(by have:=Gq.nd;exists (VH (l:=5) T.Er.kU (AW T) (DB T) (XF (jW UA (jh 1) Ff (tV _)) (AM (c:= "Book") (fq T) (adL T) (akW T) (by decide) T.adD.b (jh 0) (nL (jh 2) (nL (jh 3) Aq))) (XF (jW UA (jh 1) Ff (tV _)) (AM (c:= "Book") (fq T) (adM T) (akY T) (by decide) T.adE.b (jh 0) (nL (jh 2) Aq)) (AM (c:= "Book") (fq T) (adN T) (ak0 T) (by decide) T.adF.b (jh 0) (nL (jh 2) (nL (jh 3) Aq))))) Gq.nd (λ_=>?_) rfl rfl),(Vb T.Er.sy (F9 T) T.lJ (Ld T) ?_),(Vd (cs:=[a.bN,a.a_]) T.Er.sy (pG T) T.lJ (OU (C:=a.bN) (Qc T) (OU (C:=a.a_) (wI T) Vf)) ?_),(Vc T.Er.sy (xE T) T.lJ T.AO ?_),(AE (Lh T) ?_))
noncomputable abbrev ak1:List Str:=["self"]
theorem Z9:aq ak1 ["self"] (aj akl):=fD
noncomputable def Rm:Fn:=dw ak1 (aJ (cC rT (af (aQ ["Book"] "kept" (aa 0)) ak)))
theorem ak2 (T:Txt K mg a):aO P w K mg base eL 2 a.K9 a.Dm ["self"] (dM K (aA a) 1 Rm):=
 bq T.adG.F Z9 λ_ _ _ _ _ _=>(by have:=Z9.nd;exists (jb uB T.wD zbL ?_),(ay (ng T) ?_))
noncomputable abbrev Z_:List Str:=["self"]
theorem Rn:aq Z_ ["self"] (aj YC):=fD
noncomputable def JE:Fn:=l5 (dw Z_ (aJ (cC rT (af (aQ ["Match"] "balls_told" (aa 0)) ak))))
theorem aeu (T:Txt K mg a):aO P w K mg base eL 2 a.zo a.wA ["self"] (dM K (aA a) 1 JE):=
 aO.pure (bq T.P9.F Rn λ_ _ _ _ _ _=>(by have:=Rn.nd;exists (jb uB T.wD zbL ?_),(ay (F1 T) ?_)))
noncomputable abbrev aaa:List Str:=["_law_match"]
theorem Ro:aq aaa ["_law_match"] (aj YD):=fD
noncomputable def DS:Fn:=dw aaa (aJ (jX (af (aH "Match" "state" 1 DG (aa 0) ak) (af (aH "Match" "innings" 1 DI (aa 0) ak) (af (aH "Match" "turn" 1 wN (aa 0) ak) (af (aH "Match" "players" 1 DH (aa 0) ak) (af (aH "Match" "result" 1 DF (aa 0) ak) (af (aH "Match" "log" 1 JE (aa 0) ak) ak))))))))
theorem aev (T:Txt K mg a):aO P w K mg base eL 7 a.C8 a.wB ["_law_match"] (dM K (aA a) 1 DS):=
 bq T.Y4.F Ro λ_ _ _ _ _ _=>(by have:=Ro.nd;exists (aL (az T) (IP T) (Qq T) (by decide) T.IB.b aB ?_),(aL (az T) (IS T) (Qu T) (by decide) T.ID.b aB ?_),(aL (az T) (IU T) (Qy T) (by decide) T.IG.b aB ?_),(aL (az T) (IQ T) (Qt T) (by decide) T.IC.b aB ?_),(aL (az T) (IM T) (Qo T) (by decide) T.IA.b aB ?_),(aL (az T) (V5 T) (aeu T) (by decide) T.P9.b aB ?_))
noncomputable abbrev ak3:List Str:=["self","own","entry"]
theorem Rp:aq ak3 ["self"] (aj akm):=fD
noncomputable def V9:Fn:=dw ak3 (ao (bf 1 (m6 "Match" 3 rZ (af (aQ ["Book"] "rules" (aa 0)) (af (aQ ["Book"] "teams" (aa 0)) ak))))
   (ao (o9 (sM iL (aQ ["Book"] "kept" (aa 0))) (cg 2)
   (dG (aH "Match" "tell" 2 l6 (aa 1) (af (aa 2) ak))))
   (aJ (aa 1))))
theorem ak4 (T:Txt K mg a):aO P w K mg base eL 10 a.K_ a.Dn ["self"] (dM K (aA a) 1 V9):=
 bq T.adH.F Rp λ_ _ _ _ _ _=>(by have:=Rp.nd;exists (lF (c:= "Match") (m_ T) (wK T) (by decide) (kK T) T.zu.b aB ?_),(ay (F3 T) ?_),(ay (F4 T) ?_),(jZ zbl ?_ ?_ ?_),(ay (ng T) ?_),(f_ 2 Rp.nd),(bE (az T) (tE T) (A5 T) (by decide) T.zw.b FI ?_ ?_))
noncomputable abbrev aab:List Str:=["_law_rules_here","_law_teams_here","_law_entries_here","_law_match","_law_number","_law_entry_here","_law_rule"]
theorem A6:aq aab ["_law_rules_here","_law_teams_here","_law_entries_here"] (aj YE):=fD
noncomputable def zF:Fn:=dw aab (ao (bf 3 (m6 "Match" 3 rZ (af (aa 0) (af (aa 1) ak))))
   (ao (o9 (mEn 0 (af (aa 2) ak)) (lZ 2 (gc (cg 4) (gc (cg 5) sL)))
   (ao (bf 6 (gF 2 DO (af (aa 3) (af (aa 5) ak))))
   (cW (mB (ai (cY true) (aa 6) (mC (.str ""))))
   (aJ (dm (af (aa 3) (af (dm (af (aa 4) (af (aa 6) ak))) ak))))
   aI)))
   (aJ (dm (af (aa 3) (af (mC .bz) ak))))))
theorem aew (T:Txt K mg a):aO P w K mg base eL 11 a.C_ a.wC ["_law_rules_here","_law_teams_here","_law_entries_here"] (dM K (aA a) 3 zF):=
 bq T.Y5.F A6 λ_ _ _ _ _ _=>(by have:=A6.nd;exists (lF (c:= "Match") (m_ T) (wK T) (by decide) (kK T) T.zu.b aB ?_),(jZ zbl ?_ ?_ ?_),(Ay T.m8 ?_),(m5 (n:=2) ?_),(f_ 4 A6.nd),(f_ 5 A6.nd),(dH (Rh T) T.P6 ?_))
noncomputable abbrev aac:List Str:=["_law_script","_law_cells","_law_rules_here","_law_teams_here","_law_kept","_law_book","_law_entry_here","_law_many","_law_far","_law_way","_law_number","_law_found","_law_due"]
theorem wR:aq aac ["_law_script"] (aj YF):=fD
noncomputable def Rq:Fn:=dw aac (ao (bf 1 (gF 2 IX (af (aa 0) (af (mC (.int 40)) ak))))
   (ao (bf 2 (gF 1 IZ (af (aa 1) ak)))
   (ao (bf 3 (gF 2 I0 (af (aa 1) (af (ai bM (aa 2) (mC (.int 5))) ak))))
   (ao (bf 4 (gF 4 JD (af (aa 1) (af (aa 2) (af (aa 3) (af (cC yh (af (mC (.int 30)) (af (ai sH (mC (.int 3)) (cC gW (af (aa 1) ak))) ak))) ak))))))
   (ao (bf 5 (m6 "Book" 3 Rj (af (aa 2) (af (aa 3) ak))))
   (ao (o9 (sM iL (aa 4)) (cg 6)
   (dG (aH "Book" "tell" 2 V7 (aa 5) (af (aa 6) ak))))
   (ao (bf 7 (cC gW (af (aa 4) ak)))
   (ao (bf 8 (ai ou (cC Fw (af (Fv qX (aa 0) gq (iV (mC (.int 1)))) ak)) (ai aiC (mC (.int 10)) (mC (.int 30)))))
   (ao (o9 (uC (af (mC (.int 3)) ak)) (cg 9)
   (ao (o9 (sM iL (jX (af (Xk Au (mC (.int 1))) (af (ai dF (Xk Au (aa 8)) (mC (.int 1))) (af (aa 7) (af (ai cU (aa 7) (mC (.int 1))) (af (ai cU (aa 7) (mC (.int 10))) (af (ai cU (ai cU (aa 7) (mC (.int 2))) (aa 8)) ak)))))))) (cg 10)
   (ao (bf 11 (gF 4 wQ (af (aa 5) (af (aa 9) (af (aa 10) (af (dm (af (mC (.str "in")) (af (mC (.str "nobodyzz")) ak))) ak))))))
   (ao (bf 12 (mC (.bl true)))
   (ao (cW (mD (mB (ai (cY false) (aa 9) (mC (.int 2)))) (mB (ai (cY false) (aa 10) (aa 7))))
   (bf 12 (mC .bz))
   aI)
   (cW (Fg (mB (ai (cY true) (aa 11) (aa 12))) (mB (ai (cY true) (aH "Book" "entries" 1 Rm (aa 5) ak) (aa 4))))
   (aJ (mC (.bl false)))
   aI)))))
   (cW (mD (mB (ai Eo (aa 7) (mC (.int 0)))) (mB (ai (cY true) (aa 9) (mC (.int 1)))))
   (cW (mB (ai (jj true) (gF 4 wQ (af (aa 5) (af (aa 9) (af (gF 3 di (af (aa 1) (af (ai cU (mC (.int 3500)) (aa 9)) (af (aa 7) ak)))) (af (dm (af (mC (.str "in")) (af (mC (.str "nobodyzz")) ak))) ak))))) (mC .bz)))
   (aJ (mC (.bl false)))
   aI)
   aI)))
   (aJ (Kw (ai (cY false) (aH "Book" "entries" 1 Rm (aa 5) ak) (aa 4)) (ai (cY false) (gF 1 DS (af (aH "Book" "match" 1 V9 (aa 5) ak) ak)) (gF 1 DS (af (ai bM (gF 3 zF (af (aa 2) (af (aa 3) (af (aa 4) ak)))) (mC (.int 0))) ak))))))))))))))
theorem aex (T:Txt K mg a):aO P w K mg base eL 13 a.Dc a.pA ["_law_script"] (dM K (aA a) 1 Rq):=
 bq T.P_.F wR λ_ _ _ _ _ _=>(by have:=wR.nd;exists (dH (adQ T) T.YH ?_),(dH (adS T) T.YJ ?_),(dH (adT T) T.YK ?_),(dH (aes T) T.Y0 ?_),(cT acr T.ako PyProof.Rows.boot_min ?_),(cT kI T.kJ zaU ?_),(lF (c:= "Book") (VI T) (akQ T) (by decide) (Qa T) T.akr.b aB ?_),(jZ zbl ?_ ?_ ?_),(f_ 6 wR.nd),(bE (fq T) (adK T) (akS T) (by decide) T.adC.b aB ?_ ?_),(cT Xo T.YG zeg ?_),(qd T.ql ?_),(f_ 9 wR.nd),(f_ 10 wR.nd),(dH (aet T) T.Y3 ?_),(aL (fq T) (adO T) (ak2 T) (by decide) T.adG.b aB ?_),(dH (wJ T) T.zq ?_),(dH (aev T) T.Y4 ?_),(aL (fq T) (adP T) (ak4 T) (by decide) T.adH.b aB ?_),(dH (aew T) T.Y5 ?_))
end
theorem tF (c:Nat):Str.length ⟨#[c]⟩=1:=rfl
theorem qu (a b:Str):(a++b).length=a.length+b.length:=by
 have:(a++b).cps.toList.length=a.cps.toList.length+b.cps.toList.length:=by rw[NK,zaj]
 simpa[Str.length] using this
theorem A7 (l:List Tr)(m:Nat):qa l none (some (m:Int))=l.take m:=by
 unfold qa;rw[HT.BL,HT.z8,List.drop_zero,Nat.sub_zero];by_cases h:m<=l.length
 ·rw[zcY h]
 ·rw[zcP (by omega),zbk (zah _),zbk (by omega)]
theorem V_ (l:List Tr)(i j:Nat)(h:i<=j):qa l (some (i:Int)) (some (j:Int))=(l.take j).drop i:=by
 unfold qa;simp only[HT.z8];rw[List.drop_take];by_cases h1:i<=l.length
 ·rw[zcY h1]
  by_cases h2:j<=l.length
  ·rw[zcY h2]
  ·rw[zcP (by omega)]
   rw[zbk (by simp),zbk (by simp;omega)]
 ·rw[zcj (as:=l) (i:=i) (by omega),zcj (as:=l) (i:=min i l.length) (by rw[zcP (by omega)];exact zah _)]
  simp
section
variable {x0 x1 x2 x3 x4 x5 x6 x7 x8 x9 gx gp v:Tr}
noncomputable abbrev mr (x0 x1 x2 x3 x4 x5 x6:Tr):List (Str×Tr):=[("rules",x0),("sides",x1),("known",x2),("played",x3),("followed",x4),("closed",x5),("balls_told",x6)]
noncomputable abbrev ir (x0 x1 x2 x3 x4 x5 x6 x7 x8 x9 gx gp:Tr):List (Str×Tr):=[("side",x0),("facing",x1),("other",x2),("bowler",x3),("ahead",x4),("total",x5),("wickets",x6),("overs",x7),("balls",x8),("ending",x9),("outs",gx),("spells",gp)]
theorem aey:b_ ("rules" : Str) v ([]:List (Str×Tr))=([("rules",v)]:List (Str×Tr)):=by kernel_rfl
theorem aez:aR ("rules" : Str) (mr x0 x1 x2 x3 x4 x5 x6)=some x0:=by kernel_rfl
theorem aeA:b_ ("sides" : Str) v ([("rules",x0)]:List (Str×Tr))=([("rules",x0),("sides",v)]:List (Str×Tr)):=by kernel_rfl
theorem aeB:aR ("sides" : Str) (mr x0 x1 x2 x3 x4 x5 x6)=some x1:=by kernel_rfl
theorem aeC:b_ ("sides" : Str) v (mr x0 x1 x2 x3 x4 x5 x6)=([("rules",x0),("sides",v),("known",x2),("played",x3),("followed",x4),("closed",x5),("balls_told",x6)]:List (Str×Tr)):=by kernel_rfl
theorem aeD:b_ ("known" : Str) v ([("rules",x0),("sides",x1)]:List (Str×Tr))=([("rules",x0),("sides",x1),("known",v)]:List (Str×Tr)):=by kernel_rfl
theorem aeE:aR ("known" : Str) (mr x0 x1 x2 x3 x4 x5 x6)=some x2:=by kernel_rfl
theorem aeF:b_ ("played" : Str) v ([("rules",x0),("sides",x1),("known",x2)]:List (Str×Tr))=([("rules",x0),("sides",x1),("known",x2),("played",v)]:List (Str×Tr)):=by kernel_rfl
theorem aeG:aR ("played" : Str) (mr x0 x1 x2 x3 x4 x5 x6)=some x3:=by kernel_rfl
theorem aeH:b_ ("followed" : Str) v ([("rules",x0),("sides",x1),("known",x2),("played",x3)]:List (Str×Tr))=([("rules",x0),("sides",x1),("known",x2),("played",x3),("followed",v)]:List (Str×Tr)):=by kernel_rfl
theorem aeI:aR ("followed" : Str) (mr x0 x1 x2 x3 x4 x5 x6)=some x4:=by kernel_rfl
theorem aeJ:b_ ("followed" : Str) v (mr x0 x1 x2 x3 x4 x5 x6)=([("rules",x0),("sides",x1),("known",x2),("played",x3),("followed",v),("closed",x5),("balls_told",x6)]:List (Str×Tr)):=by kernel_rfl
theorem aeK:b_ ("closed" : Str) v ([("rules",x0),("sides",x1),("known",x2),("played",x3),("followed",x4)]:List (Str×Tr))=([("rules",x0),("sides",x1),("known",x2),("played",x3),("followed",x4),("closed",v)]:List (Str×Tr)):=by kernel_rfl
theorem aeL:aR ("closed" : Str) (mr x0 x1 x2 x3 x4 x5 x6)=some x5:=by kernel_rfl
theorem aeM:b_ ("closed" : Str) v (mr x0 x1 x2 x3 x4 x5 x6)=([("rules",x0),("sides",x1),("known",x2),("played",x3),("followed",x4),("closed",v),("balls_told",x6)]:List (Str×Tr)):=by kernel_rfl
theorem aeN:b_ ("balls_told" : Str) v ([("rules",x0),("sides",x1),("known",x2),("played",x3),("followed",x4),("closed",x5)]:List (Str×Tr))=([("rules",x0),("sides",x1),("known",x2),("played",x3),("followed",x4),("closed",x5),("balls_told",v)]:List (Str×Tr)):=by kernel_rfl
theorem aeO:aR ("balls_told" : Str) (mr x0 x1 x2 x3 x4 x5 x6)=some x6:=by kernel_rfl
theorem aeP:aR ("going" : Str) (mr x0 x1 x2 x3 x4 x5 x6)=none:=by kernel_rfl
theorem aeQ:aR ("state" : Str) (mr x0 x1 x2 x3 x4 x5 x6)=none:=by kernel_rfl
theorem aeR:aR ("most_innings" : Str) (mr x0 x1 x2 x3 x4 x5 x6)=none:=by kernel_rfl
theorem aeS:aR ("total_of" : Str) (mr x0 x1 x2 x3 x4 x5 x6)=none:=by kernel_rfl
theorem aeT:aR ("lead_of" : Str) (mr x0 x1 x2 x3 x4 x5 x6)=none:=by kernel_rfl
theorem aeU:aR ("is_done" : Str) (mr x0 x1 x2 x3 x4 x5 x6)=none:=by kernel_rfl
theorem aeV:aR ("next_side" : Str) (mr x0 x1 x2 x3 x4 x5 x6)=none:=by kernel_rfl
theorem aeW:aR ("may_follow" : Str) (mr x0 x1 x2 x3 x4 x5 x6)=none:=by kernel_rfl
theorem aeX:aR ("side_to_start" : Str) (mr x0 x1 x2 x3 x4 x5 x6)=none:=by kernel_rfl
theorem aeY:aR ("start_refusal" : Str) (mr x0 x1 x2 x3 x4 x5 x6)=none:=by kernel_rfl
theorem aeZ:aR ("swap_refusal" : Str) (mr x0 x1 x2 x3 x4 x5 x6)=none:=by kernel_rfl
theorem ae0:aR ("follow_refusal" : Str) (mr x0 x1 x2 x3 x4 x5 x6)=none:=by kernel_rfl
theorem ae1:aR ("refusal" : Str) (mr x0 x1 x2 x3 x4 x5 x6)=none:=by kernel_rfl
theorem ae2:aR ("begin" : Str) (mr x0 x1 x2 x3 x4 x5 x6)=none:=by kernel_rfl
theorem ae3:aR ("play_ball" : Str) (mr x0 x1 x2 x3 x4 x5 x6)=none:=by kernel_rfl
theorem ae4:aR ("swap_player" : Str) (mr x0 x1 x2 x3 x4 x5 x6)=none:=by kernel_rfl
theorem ae5:aR ("close" : Str) (mr x0 x1 x2 x3 x4 x5 x6)=none:=by kernel_rfl
theorem ae6:aR ("do" : Str) (mr x0 x1 x2 x3 x4 x5 x6)=none:=by kernel_rfl
theorem ae7:aR ("ending_due" : Str) (mr x0 x1 x2 x3 x4 x5 x6)=none:=by kernel_rfl
theorem ae8:aR ("tell" : Str) (mr x0 x1 x2 x3 x4 x5 x6)=none:=by kernel_rfl
theorem ae9:aR ("innings" : Str) (mr x0 x1 x2 x3 x4 x5 x6)=none:=by kernel_rfl
theorem afa:aR ("turn" : Str) (mr x0 x1 x2 x3 x4 x5 x6)=none:=by kernel_rfl
theorem afb:aR ("players" : Str) (mr x0 x1 x2 x3 x4 x5 x6)=none:=by kernel_rfl
theorem afc:aR ("result" : Str) (mr x0 x1 x2 x3 x4 x5 x6)=none:=by kernel_rfl
theorem afd:aR ("log" : Str) (mr x0 x1 x2 x3 x4 x5 x6)=none:=by kernel_rfl
theorem Rr:(("Match" : Str)∈(["Match"]:List Str))=True:=eq_true (zav.mpr rfl)
theorem afe:b_ ("side" : Str) v ([]:List (Str×Tr))=([("side",v)]:List (Str×Tr)):=by kernel_rfl
theorem afg:aR ("side" : Str) (ir x0 x1 x2 x3 x4 x5 x6 x7 x8 x9 gx gp)=some x0:=by kernel_rfl
theorem afh:b_ ("facing" : Str) v ([("side",x0)]:List (Str×Tr))=([("side",x0),("facing",v)]:List (Str×Tr)):=by kernel_rfl
theorem afi:aR ("facing" : Str) (ir x0 x1 x2 x3 x4 x5 x6 x7 x8 x9 gx gp)=some x1:=by kernel_rfl
theorem afj:b_ ("facing" : Str) v (ir x0 x1 x2 x3 x4 x5 x6 x7 x8 x9 gx gp)=([("side",x0),("facing",v),("other",x2),("bowler",x3),("ahead",x4),("total",x5),("wickets",x6),("overs",x7),("balls",x8),("ending",x9),("outs",gx),("spells",gp)]:List (Str×Tr)):=by kernel_rfl
theorem afk:b_ ("other" : Str) v ([("side",x0),("facing",x1)]:List (Str×Tr))=([("side",x0),("facing",x1),("other",v)]:List (Str×Tr)):=by kernel_rfl
theorem afl:aR ("other" : Str) (ir x0 x1 x2 x3 x4 x5 x6 x7 x8 x9 gx gp)=some x2:=by kernel_rfl
theorem afm:b_ ("other" : Str) v (ir x0 x1 x2 x3 x4 x5 x6 x7 x8 x9 gx gp)=([("side",x0),("facing",x1),("other",v),("bowler",x3),("ahead",x4),("total",x5),("wickets",x6),("overs",x7),("balls",x8),("ending",x9),("outs",gx),("spells",gp)]:List (Str×Tr)):=by kernel_rfl
theorem afn:b_ ("bowler" : Str) v ([("side",x0),("facing",x1),("other",x2)]:List (Str×Tr))=([("side",x0),("facing",x1),("other",x2),("bowler",v)]:List (Str×Tr)):=by kernel_rfl
theorem afo:aR ("bowler" : Str) (ir x0 x1 x2 x3 x4 x5 x6 x7 x8 x9 gx gp)=some x3:=by kernel_rfl
theorem afp:b_ ("bowler" : Str) v (ir x0 x1 x2 x3 x4 x5 x6 x7 x8 x9 gx gp)=([("side",x0),("facing",x1),("other",x2),("bowler",v),("ahead",x4),("total",x5),("wickets",x6),("overs",x7),("balls",x8),("ending",x9),("outs",gx),("spells",gp)]:List (Str×Tr)):=by kernel_rfl
theorem afq:b_ ("ahead" : Str) v ([("side",x0),("facing",x1),("other",x2),("bowler",x3)]:List (Str×Tr))=([("side",x0),("facing",x1),("other",x2),("bowler",x3),("ahead",v)]:List (Str×Tr)):=by kernel_rfl
theorem afr:aR ("ahead" : Str) (ir x0 x1 x2 x3 x4 x5 x6 x7 x8 x9 gx gp)=some x4:=by kernel_rfl
theorem afs:b_ ("ahead" : Str) v (ir x0 x1 x2 x3 x4 x5 x6 x7 x8 x9 gx gp)=([("side",x0),("facing",x1),("other",x2),("bowler",x3),("ahead",v),("total",x5),("wickets",x6),("overs",x7),("balls",x8),("ending",x9),("outs",gx),("spells",gp)]:List (Str×Tr)):=by kernel_rfl
theorem aft:b_ ("total" : Str) v ([("side",x0),("facing",x1),("other",x2),("bowler",x3),("ahead",x4)]:List (Str×Tr))=([("side",x0),("facing",x1),("other",x2),("bowler",x3),("ahead",x4),("total",v)]:List (Str×Tr)):=by kernel_rfl
theorem afu:aR ("total" : Str) (ir x0 x1 x2 x3 x4 x5 x6 x7 x8 x9 gx gp)=some x5:=by kernel_rfl
theorem afv:b_ ("total" : Str) v (ir x0 x1 x2 x3 x4 x5 x6 x7 x8 x9 gx gp)=([("side",x0),("facing",x1),("other",x2),("bowler",x3),("ahead",x4),("total",v),("wickets",x6),("overs",x7),("balls",x8),("ending",x9),("outs",gx),("spells",gp)]:List (Str×Tr)):=by kernel_rfl
theorem afw:b_ ("wickets" : Str) v ([("side",x0),("facing",x1),("other",x2),("bowler",x3),("ahead",x4),("total",x5)]:List (Str×Tr))=([("side",x0),("facing",x1),("other",x2),("bowler",x3),("ahead",x4),("total",x5),("wickets",v)]:List (Str×Tr)):=by kernel_rfl
theorem afx:aR ("wickets" : Str) (ir x0 x1 x2 x3 x4 x5 x6 x7 x8 x9 gx gp)=some x6:=by kernel_rfl
theorem afy:b_ ("wickets" : Str) v (ir x0 x1 x2 x3 x4 x5 x6 x7 x8 x9 gx gp)=([("side",x0),("facing",x1),("other",x2),("bowler",x3),("ahead",x4),("total",x5),("wickets",v),("overs",x7),("balls",x8),("ending",x9),("outs",gx),("spells",gp)]:List (Str×Tr)):=by kernel_rfl
theorem afz:b_ ("overs" : Str) v ([("side",x0),("facing",x1),("other",x2),("bowler",x3),("ahead",x4),("total",x5),("wickets",x6)]:List (Str×Tr))=([("side",x0),("facing",x1),("other",x2),("bowler",x3),("ahead",x4),("total",x5),("wickets",x6),("overs",v)]:List (Str×Tr)):=by kernel_rfl
theorem afA:aR ("overs" : Str) (ir x0 x1 x2 x3 x4 x5 x6 x7 x8 x9 gx gp)=some x7:=by kernel_rfl
theorem afB:b_ ("overs" : Str) v (ir x0 x1 x2 x3 x4 x5 x6 x7 x8 x9 gx gp)=([("side",x0),("facing",x1),("other",x2),("bowler",x3),("ahead",x4),("total",x5),("wickets",x6),("overs",v),("balls",x8),("ending",x9),("outs",gx),("spells",gp)]:List (Str×Tr)):=by kernel_rfl
theorem afC:b_ ("balls" : Str) v ([("side",x0),("facing",x1),("other",x2),("bowler",x3),("ahead",x4),("total",x5),("wickets",x6),("overs",x7)]:List (Str×Tr))=([("side",x0),("facing",x1),("other",x2),("bowler",x3),("ahead",x4),("total",x5),("wickets",x6),("overs",x7),("balls",v)]:List (Str×Tr)):=by kernel_rfl
theorem afD:aR ("balls" : Str) (ir x0 x1 x2 x3 x4 x5 x6 x7 x8 x9 gx gp)=some x8:=by kernel_rfl
theorem afE:b_ ("balls" : Str) v (ir x0 x1 x2 x3 x4 x5 x6 x7 x8 x9 gx gp)=([("side",x0),("facing",x1),("other",x2),("bowler",x3),("ahead",x4),("total",x5),("wickets",x6),("overs",x7),("balls",v),("ending",x9),("outs",gx),("spells",gp)]:List (Str×Tr)):=by kernel_rfl
theorem afF:b_ ("ending" : Str) v ([("side",x0),("facing",x1),("other",x2),("bowler",x3),("ahead",x4),("total",x5),("wickets",x6),("overs",x7),("balls",x8)]:List (Str×Tr))=([("side",x0),("facing",x1),("other",x2),("bowler",x3),("ahead",x4),("total",x5),("wickets",x6),("overs",x7),("balls",x8),("ending",v)]:List (Str×Tr)):=by kernel_rfl
theorem afG:aR ("ending" : Str) (ir x0 x1 x2 x3 x4 x5 x6 x7 x8 x9 gx gp)=some x9:=by kernel_rfl
theorem afH:b_ ("ending" : Str) v (ir x0 x1 x2 x3 x4 x5 x6 x7 x8 x9 gx gp)=([("side",x0),("facing",x1),("other",x2),("bowler",x3),("ahead",x4),("total",x5),("wickets",x6),("overs",x7),("balls",x8),("ending",v),("outs",gx),("spells",gp)]:List (Str×Tr)):=by kernel_rfl
theorem Wa:b_ ("outs" : Str) v ([("side",x0),("facing",x1),("other",x2),("bowler",x3),("ahead",x4),("total",x5),("wickets",x6),("overs",x7),("balls",x8),("ending",x9)]:List (Str×Tr))=([("side",x0),("facing",x1),("other",x2),("bowler",x3),("ahead",x4),("total",x5),("wickets",x6),("overs",x7),("balls",x8),("ending",x9),("outs",v)]:List (Str×Tr)):=by kernel_rfl
theorem Wb:aR ("outs" : Str) (ir x0 x1 x2 x3 x4 x5 x6 x7 x8 x9 gx gp)=some gx:=by kernel_rfl
theorem Wc:b_ ("outs" : Str) v (ir x0 x1 x2 x3 x4 x5 x6 x7 x8 x9 gx gp)=([("side",x0),("facing",x1),("other",x2),("bowler",x3),("ahead",x4),("total",x5),("wickets",x6),("overs",x7),("balls",x8),("ending",x9),("outs",v),("spells",gp)]:List (Str×Tr)):=by kernel_rfl
theorem We:b_ ("spells" : Str) v ([("side",x0),("facing",x1),("other",x2),("bowler",x3),("ahead",x4),("total",x5),("wickets",x6),("overs",x7),("balls",x8),("ending",x9),("outs",gx)]:List (Str×Tr))=([("side",x0),("facing",x1),("other",x2),("bowler",x3),("ahead",x4),("total",x5),("wickets",x6),("overs",x7),("balls",x8),("ending",x9),("outs",gx),("spells",v)]:List (Str×Tr)):=by kernel_rfl
theorem Wf:aR ("spells" : Str) (ir x0 x1 x2 x3 x4 x5 x6 x7 x8 x9 gx gp)=some gp:=by kernel_rfl
theorem Wg:b_ ("spells" : Str) v (ir x0 x1 x2 x3 x4 x5 x6 x7 x8 x9 gx gp)=([("side",x0),("facing",x1),("other",x2),("bowler",x3),("ahead",x4),("total",x5),("wickets",x6),("overs",x7),("balls",x8),("ending",x9),("outs",gx),("spells",v)]:List (Str×Tr)):=by kernel_rfl
theorem afI:aR ("stands" : Str) (ir x0 x1 x2 x3 x4 x5 x6 x7 x8 x9 gx gp)=none:=by kernel_rfl
theorem afJ:aR ("has_gap" : Str) (ir x0 x1 x2 x3 x4 x5 x6 x7 x8 x9 gx gp)=none:=by kernel_rfl
theorem afK:aR ("has_left" : Str) (ir x0 x1 x2 x3 x4 x5 x6 x7 x8 x9 gx gp)=none:=by kernel_rfl
theorem afL:aR ("change_ends" : Str) (ir x0 x1 x2 x3 x4 x5 x6 x7 x8 x9 gx gp)=none:=by kernel_rfl
theorem afM:aR ("leave" : Str) (ir x0 x1 x2 x3 x4 x5 x6 x7 x8 x9 gx gp)=none:=by kernel_rfl
theorem afN:aR ("come_in" : Str) (ir x0 x1 x2 x3 x4 x5 x6 x7 x8 x9 gx gp)=none:=by kernel_rfl
theorem afO:aR ("bowl_next" : Str) (ir x0 x1 x2 x3 x4 x5 x6 x7 x8 x9 gx gp)=none:=by kernel_rfl
theorem afP:aR ("out_by" : Str) (ir x0 x1 x2 x3 x4 x5 x6 x7 x8 x9 gx gp)=none:=by kernel_rfl
theorem afQ:aR ("fall" : Str) (ir x0 x1 x2 x3 x4 x5 x6 x7 x8 x9 gx gp)=none:=by kernel_rfl
theorem afR:aR ("count_fair" : Str) (ir x0 x1 x2 x3 x4 x5 x6 x7 x8 x9 gx gp)=none:=by kernel_rfl
theorem afS:aR ("play" : Str) (ir x0 x1 x2 x3 x4 x5 x6 x7 x8 x9 gx gp)=none:=by kernel_rfl
theorem afT:aR ("rename" : Str) (ir x0 x1 x2 x3 x4 x5 x6 x7 x8 x9 gx gp)=none:=by kernel_rfl
theorem Gr:(("Innings" : Str)∈(["Innings"]:List Str))=True:=eq_true (zav.mpr rfl)
end
def fx:=jp @aey<|jp @aez<|jp @aeA<|jp @aeB<|jp @aeC<|jp @aeD<|jp @aeE<|jp @aeF<|jp @aeG<|jp @aeH<|jp @aeI<|jp @aeJ<|jp @aeK<|jp @aeL<|jp @aeM<|jp @aeN<|jp @aeO<|jp @Rr<|jp @aeP<|jp @aeQ<|jp @aeR<|jp @aeS<|jp @aeT<|jp @aeU<|jp @aeV<|jp @aeW<|jp @aeX<|jp @aeY<|jp @aeZ<|jp @ae0<|jp @ae1<|jp @ae2<|jp @ae3<|jp @ae4<|jp @ae5<|jp @ae6<|jp @ae7<|jp @ae8<|jp @ae9<|jp @afa<|jp @afb<|jp @afc<|jp @afd<|jp @afe<|jp @afg<|jp @afh<|jp @afi<|jp @afj<|jp @afk<|jp @afl<|jp @afm<|jp @afn<|jp @afo<|jp @afp<|jp @afq<|jp @afr<|jp @afs<|jp @aft<|jp @afu<|jp @afv<|jp @afw<|jp @afx<|jp @afy<|jp @afz<|jp @afA<|jp @afB<|jp @afC<|jp @afD<|jp @afE<|jp @afF<|jp @afG<|jp @afH<|jp @Wa<|jp @Wb<|jp @Wc<|jp @We<|jp @Wf<|jp @Wg<|jp @Gr<|jp @afI<|jp @afJ<|jp @afK<|jp @afL<|jp @afM<|jp @afN<|jp @afO<|jp @afP<|jp @afQ<|jp @afR<|jp @afS<|jp @afT<|@U8
noncomputable def aE (t0 t1:Str)(p0 p1:List Str):Tr:=.ls [.tp [.str t0,.ls (p0.map .str)],.tp [.str t1,.ls (p1.map .str)]]
structure U where
 o:Int
 v:Int
 s:Int
 w:Int
 n:Int
 d:Int
 i:Int
 f:Int
noncomputable def U.t (u:U):Tr:=.tp [.int u.o,.int u.v,.int u.s,.int u.w,.int u.n,.int u.d,.int u.i,.int u.f]
structure I where
 bZ:Int
 oF:Str
 wU:Str
 xo:Str
 ahe:Str
 DT:Int
 wk:Int
 ov:Int
 ba:Int
 en:Str
 outs:List Str
 gU:List (Str×Int)
structure M where
 ru:U
 t0:Str
 t1:Str
 p0:List Str
 p1:List Str
 kn:List Str
 pl:List I
 fol:Bool
 clo:Bool
 g5:List Tr
structure L3 where
 i:Nat
 o:Nat
 s:Nat
structure Ly where
 a:Nat
 k:Nat
 p:Nat
 l:Nat
 cs:List L3
noncomputable def jd (x:I)(c:L3):List (Str×Tr):=[("side",.int x.bZ),("facing",.str x.oF),("other",.str x.wU),("bowler",.str x.xo),("ahead",.str x.ahe),("total",.int x.DT),("wickets",.int x.wk),("overs",.int x.ov),("balls",.int x.ba),("ending",.str x.en),("outs",.hd c.o),("spells",.hd c.s)]
noncomputable def iJ (l:List Str):List (d_×Tr):=l.map λk=>(.inr k,.bl true)
noncomputable def tG (l:List (Str×Int)):List (d_×Tr):=l.map λp=>(.inr p.1,.int p.2)
structure ie (S:Cs) (x:I) (c:L3):Prop where
 i:S[c.i]? = some (.e9 "Innings" (jd x c))
 o:S[c.o]? = some (.jV (iJ x.outs))
 s:S[c.s]? = some (.jV (tG x.gU))
structure Dj (c:L3):Prop where
 io:c.i≠c.o
 is:c.i≠c.s
 os:c.o≠c.s
noncomputable def kL (S:Cs)(x:I)(c:L3):Cs:=((S.set c.i (.e9 "Innings" (jd x c))).set c.o (.jV (iJ x.outs))).set c.s (.jV (tG x.gU))
theorem aN {S:Cs}{n:Nat}{c:Ce}(h:S[n]? = some c):n<S.length:=(zab.mp h).1
theorem cy {S:Cs}{n:Nat}{c:Ce}(h:n<S.length):(S.set n c)[n]? = some c:=zaB h
theorem cZ {S:Cs}{n k:Nat}{c:Ce}(h:¬ n=k):(S.set n c)[k]? = S[k]?:= zaz h
theorem eY {S:Cs}{n:Nat}{c d:Ce}:(S.set n c).set n d=S.set n d:=List.set_set ..
theorem lO {S:Cs}{x y:I}{c:L3}(h:ie S x c)(d:Dj c):ie (kL S y c) y c where
 i:=by
  unfold kL;rw[cZ d.is.symm,cZ d.io.symm,cy (aN h.i)]
 o:=by
  unfold kL;rw[cZ d.os.symm,cy (by rw[zcU];exact aN h.o)]
 s:=by
  unfold kL;rw[cy (by rw[zcU,zcU];exact aN h.s)]
theorem nX {S:Cs}{x y:I}{c:L3}(d:Dj c):kL (kL S x c) y c=kL S y c:=by
 unfold kL;rw[zdw (i:=c.s) (j:=c.i) _ _ d.is.symm,zdw (i:=c.o) (j:=c.i) _ _ d.io.symm,eY,zdw (i:=c.s) (j:=c.o) _ _ d.os.symm,eY,eY]
theorem l7 {S:Cs}{x y:I}{c:L3}(h:ie S x c)(d:Dj c)(ho:y.outs=x.outs)(hs:y.gU=x.gU):S.set c.i (.e9 "Innings" (jd y c))=kL S y c:=by
 unfold kL;rw[ho,hs,jo (i:=c.o) (by rw[cZ d.io];exact h.o),jo (i:=c.s) (by rw[cZ d.is];exact h.s)]
theorem gz {x:Str}{l:List Str}:Mz (.str x) (l.map .str)=decide (x∈l):=by
 rw[zbe];simp only[Mz,zcE,zcO,Function.comp,Sq,beq_iff_eq,decide_eq_true_eq];exact⟨λ⟨y,h,e⟩=>e ▸ h,λh=>⟨x,h,rfl⟩⟩
theorem in2:Mz (.str x) [.str a,.str b]=decide (x=a\/x=b):=by
 rw[zbe];simp only[Mz,zcc,zeI,Sq,zds,zcV,decide_eq_true_eq,beq_iff_eq];exact⟨λh=>h.imp zcG zcG,λh=>h.imp zcG zcG⟩
theorem in3:Mz (.str x) [.str a,.str b,.str c]=decide (x=a\/x=b\/x=c):=by
 rw[zbe];simp only[Mz,zcc,zeI,Sq,zds,zcV,decide_eq_true_eq,beq_iff_eq];exact⟨λh=>h.imp zcG (·.imp zcG zcG),λh=>h.imp zcG (·.imp zcG zcG)⟩
theorem cK:fZ (.str s)=true:=rfl
theorem gA {l:List Str}:(l.map Tr.str).all fZ=true:=by
 rw[zaQ];intro x hx;obtain⟨s,_,rfl⟩:=zbj.mp hx;rfl
theorem kM:∀{l:List Str},(aR (.inr k) (iJ l)).isSome=decide (k∈l)
 |[]=>rfl
 |a::r=>by
  unfold iJ;rw[tu];unfold aR;by_cases h:a=k
  ·subst h;rw[if_pos rfl];simp
  ·rw[if_neg (λz=>h (zdl z))]
   have:=kM (k:=k) (l:=r)
   unfold iJ at this;rw[this];simp[zam,zbg h]
noncomputable def I.eZ (x:I)(n:Str):Bool:=decide (n=x.oF\/n=x.wU)
noncomputable def I.gap (x:I):Bool:=x.eZ ""
noncomputable def I.left (x:I)(ps:List Str):Bool:=ps.any λn=>!decide (n∈x.outs) && !x.eZ n
noncomputable def I.swap (x:I):I:={x with oF:=x.wU,wU:=x.oF}
noncomputable def I.gQ (x:I)(n:Str):I:=if x.oF=n then { x with oF:= "" } else { x with wU:= "" }
noncomputable def I.DU (x:I)(n:Str):I:=if x.oF="" then {x with oF:=n} else {x with wU:=n}
section
variable {S:Cs}{x:I}{c:L3}
theorem kN (h:ie S x c)(n:Str):qt [.hd c.i,.str n] S = .ok (.bl (x.eZ n)) S:=by
 unfold qt I.eZ;have hi:=h.i;unfold jd at hi;simp?[fx,hi,zaC,zaN,cK,zaV,in2]
theorem Rt (h:ie S x c):zC [.hd c.i] S = .ok (.bl x.gap) S:=by
 unfold zC I.gap;have e:=kN h ""
 have hi:=h.i;unfold jd at hi;simp?[fx,hi,e]
theorem Gs (h:ie S x c)(d:Dj c):zD [.hd c.i] S = .ok .bz (kL S x.swap c):=by
 unfold zD;rw[<-l7 (y:=x.swap) h d rfl rfl];have hl:=aN h.i;have hi:=h.i;unfold jd at *
 simp?[fx,hi,hl,cy,eY,I.swap]
theorem JF (h:ie S x c)(d:Dj c)(n:Str):DM [.hd c.i,.str n] S = .ok .bz (kL S (x.gQ n) c):=by
 unfold DM I.gQ;have hl:=aN h.i;have hi:=h.i;by_cases hn:x.oF=n
 ·rw[if_pos hn,<-l7 (x:=x) (y:={ x with oF:= "" }) h d rfl rfl]
  unfold jd at *
  simp?[fx,hi,hl,cy,eY,hn]
 ·rw[if_neg hn,<-l7 (x:=x) (y:={ x with wU:= "" }) h d rfl rfl]
  unfold jd at *
  simp?[fx,hi,hl,cy,eY,hn]
theorem afU (h:ie S x c)(d:Dj c)(n:Str):Jv [.hd c.i,.str n] S = .ok .bz (kL S (x.DU n) c):=by
 unfold Jv I.DU;have hl:=aN h.i;have hi:=h.i;by_cases hn:x.oF=""
 ·rw[if_pos hn,<-l7 (x:=x) (y:={x with oF:=n}) h d rfl rfl]
  unfold jd at *
  simp?[fx,hi,hl,cy,eY,hn]
 ·rw[if_neg hn,<-l7 (x:=x) (y:={x with wU:=n}) h d rfl rfl]
  unfold jd at *
  simp?[fx,hi,hl,cy,eY,hn]
end
structure B where
 k:Str
 r:Int
 rp:Bool
 w:Str
 who:Str
 en:Str
noncomputable def B.t (b:B):Tr:=.tp [.str "ball",.str b.k,.int b.r,.bl b.rp,.str b.w,.str b.who,.str b.en]
noncomputable def dN:Option Str->Tr|none=>.bz|some s=>.str s
noncomputable def JG (k:Str)(r:Int):Bool:=if r=4 then true else if r=6 then decide (k="bat" \/ k="no") else false
noncomputable def Ru (k:Str)(r:Int)(rp:Bool)(w:Str):Bool:=if w="" then true else if rp=true then false else if w="run" then true else if r≠0 then false else if w="stumped" \/ w="hit" then decide (k="bat" \/ k="wide") else decide (k="bat")
noncomputable def B.zG (b:B):Option Str:=if (b.rp && !JG b.k b.r)=true then some "rope" else if Ru b.k b.r b.rp b.w=true then none else some "way"
theorem afV (k:Str)(r:Int)(S:Cs):Jf [.str k,.int r] S = .ok (.bl (JG k r)) S:=by
 unfold Jf JG;simp?[zaC,zaN,cK,zaV,in2]
theorem ak7 (k:Str)(r:Int)(rp:Bool)(w:Str)(S:Cs):Jg [.str k,.int r,.bl rp,.str w] S = .ok (.bl (Ru k r rp w)) S:=by
 unfold Jg Ru;by_cases h1:w=""
 ·simp?[h1]
 ·cases rp with
  |true=>simp?[h1]
  |false =>
   by_cases h2:w="run"
   ·simp?[fx,h2]
   ·by_cases h3:r=0
    ·by_cases h4:w="stumped" \/ w="hit"
     ·simp?[fx,h1,h2,h3,h4,zaC,zaN,cK,zaV,in2,ne_eq]
     ·simp?[fx,h1,h2,h3,h4,zaC,zaN,cK,zaV,in2,ne_eq]
    ·simp?[fx,h1,h2,h3,ne_eq]
theorem Wh (b:B)(S:Cs):Jh [b.t] S = .ok (dN b.zG) S:=by
 unfold Jh B.t B.zG;have e1:=λS=>afV b.k b.r S
 have e2:=λS=>ak7 b.k b.r b.rp b.w S
 obtain⟨k,r,rp,w,who,en⟩:=b;simp only at e1 e2 ⊢
 cases rp with
 |false =>
  cases h2:Ru k r false w<;>simp?[e1,e2,h2,dN,zdh]
 |true =>
  cases h1:JG k r
  ·simp?[e1,e2,h1,dN,zdx]
  ·cases h2:Ru k r true w<;>simp?[e1,e2,h1,h2,dN,zdx]
structure By where
 Gu:Int
 ext:Int
 cha:Int
noncomputable def Wi (u:U)(k:Str)(r:Int):By:=if k="bat" then ⟨r,0,r⟩ else if k="wide" then ⟨0,u.w+r,u.w+r⟩ else if k="no" then ⟨r,u.n,u.n+r⟩ else if k="nobye" then ⟨0,u.n+r,u.n⟩ else ⟨0,r,0⟩
noncomputable def r_ (k:Str):Bool:=decide (k="bat" \/ k="bye" \/ k="leg")
noncomputable def pH (r:Int)(rp:Bool):Bool:=if r % 2=1 then !rp else false
noncomputable def aag (w:Str):Bool:=!decide (w="" \/ w="run")
noncomputable def B.Wj (u:U)(b:B):Int:=(Wi u b.k b.r).Gu+(Wi u b.k b.r).ext
noncomputable def B.Li (u:U)(b:B):Tr:=.tp [.int (b.Wj u),.int (Wi u b.k b.r).Gu,.int (Wi u b.k b.r).ext,.int (Wi u b.k b.r).cha,.bl (r_ b.k),.bl (!decide (b.k="wide")),.bl (pH b.r b.rp),.bl (aag b.w)]
theorem apa (u:U)(k:Str)(r:Int)(S:Cs):Jo [u.t,.str k,.int r] S = .ok (.tp [.int (Wi u k r).Gu,.int (Wi u k r).ext,.int (Wi u k r).cha]) S:=by
 unfold Jo U.t Wi;by_cases h1:k="bat"
 ·simp?[fx,h1]
 ·by_cases h2:k="wide"
  ·simp?[fx,h2]
  ·by_cases h3:k="no"
   ·simp?[fx,h3]
   ·by_cases h4:k="nobye"
    ·simp?[fx,h4]
    ·simp?[fx,h1,h2,h3,h4]
theorem afW (u:U)(b:B)(S:Cs):Jp [u.t,b.t] S = .ok (b.Li u) S:=by
 unfold Jp B.Li B.Wj B.t r_ pH aag;have e1:=λS=>apa u b.k b.r S
 unfold U.t at *
 simp?[e1,zaC,zaN,cK,zaV,in2,in3]
noncomputable def I.E7 (x:I)(b:B):Str:=if b.w="run" then b.who else if b.w="" then "" else x.oF
section
variable {S:Cs}{x:I}{c:L3}
theorem Wk (h:ie S x c)(b:B):Jq [.hd c.i,b.t] S = .ok (.str (x.E7 b)) S:=by
 unfold Jq I.E7 B.t;have hi:=h.i;unfold jd at hi;by_cases h1:b.w="run"
 ·simp?[fx,hi,h1]
 ·by_cases h2:b.w="" <;> simp?[fx,hi,h1,h2]
end
noncomputable def gR (l:List Str)(n:Str):List Str:=if n∈l then l else l++[n]
noncomputable def ju (l:List (Str×Int))(n:Str):Int:=match l with|[]=>0 | (k,v)::r=>if k=n then v else ju r n
noncomputable def nh (l:List (Str×Int))(n:Str)(v:Int):List (Str×Int):=if (l.any λp=>decide (p.1=n))=true then l.map (λp=>if p.1=n then (p.1,v) else p) else l++[(n,v)]
theorem DW:lY (iJ l) (.inr n) (.bl true)=iJ (gR l n):=by
 unfold lY gR;have h1:((iJ l).any λkv=>decide (kv.1=(.inr n:d_)))=decide (n∈l):=by
  unfold iJ;rw[zcE,zbe,zcO];simp only[Function.comp,decide_eq_true_eq];exact⟨λ⟨x,h,e⟩=>zdl e ▸ h,λh=>⟨n,h,rfl⟩⟩
 rw[h1];by_cases h:n∈l
 ·rw[if_pos (decide_eq_true h),if_pos h]
  unfold iJ;rw[zby];apply zcw
  intro x hx;simp only[Function.comp];split<;>rfl
 ·rw[if_neg (by simpa using h),if_neg h]
  unfold iJ;rw[zaO];rfl
theorem tH:∀{l:List (Str×Int)},(aR (.inr n) (tG l)).getD (.int 0) = .int (ju l n)
 |[]=>rfl
 | (k,v)::r=>by
  unfold tG;rw[tu];unfold aR ju;by_cases h:k=n
  ·subst h;rw[if_pos rfl,if_pos rfl];rfl
  ·rw[if_neg (λz=>h (zdl z)),if_neg h]
   exact tH (n:=n) (l:=r)
theorem JH:lY (tG l) (.inr n) (.int v)=tG (nh l n v):=by
 unfold lY nh;have h1:((tG l).any λkv=>decide (kv.1=(.inr n:d_)))=l.any λp=>decide (p.1=n):=by
  unfold tG;rw[zcE];congr 1
  funext p
  simp only[Function.comp,Sum.inr.injEq]
 rw[h1];split
 ·unfold tG
  rw[zby,zby];apply zcw
  intro x hx;simp only[Function.comp,Sum.inr.injEq];split<;>rfl
 ·unfold tG
  rw[zaO];rfl
theorem Rv:(iJ l).length=l.length:=by unfold iJ;simp
theorem Wl:(tG l).length=l.length:=by unfold tG;simp
noncomputable def I.zH (x:I)(n:Str):I:={x with xo:=n,gU:=nh x.gU n (ju x.gU n+1)}
noncomputable def I.xF (x:I)(n e:Str):I:=
 let y:=({x with outs:=gR x.outs n,wk:=x.wk+1}:I).gQ n
 if (if y.oF="" then "strike" else "other")=e then y else y.swap
noncomputable def I.xG (x:I)(o:Int):I:=if o<=x.ba+1 then { x with ov:=x.ov+1,ba:=0,oF:=x.wU,wU:=x.oF,ahe:=x.xo,xo:= "" } else {x with ba:=x.ba+1}
noncomputable def I.qv (u:U)(x:I)(b:B):I:=
 let x1:I:={x with DT:=x.DT+b.Wj u}
 let x2:=if pH b.r b.rp=true then x1.swap else x1
 let x3:=if x.E7 b="" then x2 else x2.xF (x.E7 b) (if b.w="run" then b.en else "strike")
 if r_ b.k=true then x3.xG u.o else x3
section
variable {S:Cs}{x:I}{c:L3}
theorem Wm (h:ie S x c)(d:Dj c)(n:Str)(hl:x.gU.length<=1000):Jw [.hd c.i,.str n] S = .ok .bz (kL S (x.zH n) c):=by
 unfold Jw;have hi:=h.i;have hs:=h.s;have Xh:=aN h.i;have hz:(x.gU.length<sizeLine)=True:=jm (by omega)
 have e:((S.set c.i (.e9 "Innings" (jd {x with xo:=n} c))).set c.s (.jV (tG (nh x.gU n (ju x.gU n+1)))))=kL S (x.zH n) c:=by
  unfold kL I.zH;rw[jo (i:=c.o) (l:=S.set c.i _) (by rw[cZ d.io];exact h.o)]
  rfl
 unfold jd at hi e;simp only[↓bp,bx,simprocAttr,fx,hi,hs,Xh,cy,eY,cZ d.is,d.is,d.is.symm,ne_eq,zbF,tH,JH,Wl,hz] at e ⊢
 rw[e]
theorem afX (h:ie S x c)(d:Dj c)(n en:Str)(hl:x.outs.length<=1000):Jr [.hd c.i,.str n,.str en] S = .ok .bz (kL S (x.xF n en) c):=by
 unfold Jr;have hi:=h.i;have ho:=h.o;have hol:=aN h.o;have hz:(x.outs.length<sizeLine)=True:=jm (by omega)
 generalize hy:({x with outs:=gR x.outs n,wk:=x.wk+1}:I)=y
 have e:((S.set c.o (.jV (iJ (gR x.outs n)))).set c.i (.e9 "Innings" (jd {x with wk:=x.wk+1} c)))=kL S y c:=by
  rw[<-hy];unfold kL;rw[zdw _ _ d.io,jo (i:=c.s) (by rw[cZ d.is,cZ d.os];exact h.s)]
  rfl
 have hY:=lO (y:=y) h d
 have e1:=JF hY d n;rw[nX d] at e1;have hZ:=lO (y:=y.gQ n) h d
 have hzi:=hZ.i;have e2:=Gs hZ d;rw[nX d] at e2;have Rw:=hY.i;have ef:x.xF n en=if (if (y.gQ n).oF="" then "strike" else "other")=en then y.gQ n else (y.gQ n).swap:=by unfold I.xF;rw[hy]
 rw[ef];generalize y.gQ n=z at *
 unfold jd at hi e hzi Rw;simp only[↓bp,bx,simprocAttr,fx,hi,ho,hol,cy,eY,cZ d.io.symm,d.io,d.io.symm,ne_eq,DW,Rv,hz] at e ⊢
 simp?[fx,e,e1,Rw,hzi];by_cases hf:z.oF=""
 ·by_cases he:en="strike"
  ·subst he;simp?[fx,hf]
  ·have Rx:¬ "strike"=en:=λq=>he q.symm
   simp?[fx,hf,Rx,hzi,e2]
 ·by_cases he:en="other"
  ·subst he;simp?[fx,hf]
  ·have Rx:¬ "other"=en:=λq=>he q.symm
   simp?[fx,hf,Rx,hzi,e2]
theorem afY (h:ie S x c)(d:Dj c)(o:Int):Js [.hd c.i,.int o] S = .ok .bz (kL S (x.xG o) c):=by
 unfold Js I.xG;have hi:=h.i;have Xh:=aN h.i;by_cases ho:o<=x.ba+1
 ·rw[if_pos ho]
  generalize hy:({x with ov:=x.ov+1,ba:=0}:I)=y
  have e:=l7 (y:=y) h d (by rw[<-hy]) (by rw[<-hy])
  have hY:=lO (y:=y) h d
  have e1:=Gs hY d;rw[nX d] at e1;have Rw:=hY.i;have hZ:=lO (y:=y.swap) h d
  have hZi:=hZ.i;have hZl:=aN hZ.i;have e2:=l7 (y:={ y.swap with ahe:=y.xo,xo:= "" }) hZ d rfl rfl
  rw[nX d] at e2;subst hy;unfold jd at hi e Rw hZi e2;simp only[I.swap] at e1 hZi hZl e2 ⊢
  have xj:¬ x.ba+1<o:=by omega
  simp?[fx,hi,Xh,cy,eY,ho,ge_iff_le,e,e1,Rw,hZi,hZl,e2]
 ·rw[if_neg ho]
  have e:=l7 (y:={x with ba:=x.ba+1}) h d rfl rfl
  have Rw:=(lO (y:={x with ba:=x.ba+1}) h d).i
  unfold jd at hi e Rw;simp?[fx,hi,Xh,cy,eY,ho,ge_iff_le,e,Rw]
theorem af0 (h:ie S x c)(d:Dj c)(u:U)(b:B)(hl:x.outs.length<=1000):Jt [.hd c.i,u.t,b.t] S = .ok (.str (x.E7 b)) (kL S (x.qv u b) c):=by
 have e1:=afW u b S;have e2:=Wk h b;have hi:=h.i;have e3:=l7 (y:=({x with DT:=x.DT+b.Wj u}:I)) h d rfl rfl
 obtain⟨y,hy⟩:∃y:I,y = {x with DT:=x.DT+b.Wj u}:=⟨_,rfl⟩
 obtain⟨z,hz⟩:∃z,z=if pH b.r b.rp=true then y.swap else y:=⟨_,rfl⟩
 obtain⟨w,hw⟩:∃w,w=if x.E7 b="" then z else z.xF (x.E7 b) (if b.w="run" then b.en else "strike"):=⟨_,rfl⟩
 have hp:x.qv u b=if r_ b.k=true then w.xG u.o else w:=by
  unfold I.qv;simp only[hw,hz,hy]
 have hzo:z.outs=x.outs:=by rw[hz,hy];split<;>rfl
 have hY:=lO (y:=y) h d
 have hZ:=lO (y:=z) h d
 have hW:=lO (y:=w) h d
 have e4:=Gs hY d;have e5:=λn en=>afX hZ d n en (by rw[hzo];exact hl)
 have e6:=afY hW d u.o;rw[nX d] at e4 e6;simp only[nX d] at e5;have Rw:=hY.i;have hZi:=hZ.i;have hWi:=hW.i;have g0:∀S,bM (b.Li u) (.int 0) S = .ok (.int (b.Wj u)) S:=λ_=>rfl
 have g6:∀S,bM (b.Li u) (.int 6) S = .ok (.bl (pH b.r b.rp)) S:=λ_=>rfl
 have g4:∀S,bM (b.Li u) (.int 4) S = .ok (.bl (r_ b.k)) S:=λ_=>rfl
 have gu:∀S,bM u.t (.int 0) S = .ok (.int u.o) S:=λ_=>rfl
 have gw:∀S,bM b.t (.int 4) S = .ok (.str b.w) S:=λ_=>rfl
 have ge:∀S,bM b.t (.int 6) S = .ok (.str b.en) S:=λ_=>rfl
 rw[hp];unfold jd at hi e3 Rw hZi hWi;dsimp only at e3
 rw[<-hy] at e3;clear hp hzo hY hZ hW hy hl
 unfold Jt;generalize x.E7 b=o at *
 generalize b.Li u=sT at *
 generalize u.t=uT at *
 generalize b.t=bT at *
 generalize b.Wj u=gt at *
 generalize hI1:cW (mB (ai bM (aa 3) (mC (.int 6)))) _ _=I1
 generalize hI2:cW (mB (ai (cY true) (aa 4) (mC (.str "")))) _ _=I2
 generalize hI3:cW (mB (ai bM (aa 3) (mC (.int 4)))) _ _=I3
 have k1:I1 [some (.hd c.i),some uT,some bT,some sT,some (.str o)] (kL S y c) = .nx [some (.hd c.i),some uT,some bT,some sT,some (.str o)] (kL S z c):=by
  rw[<-hI1,hz];cases hcr:pH b.r b.rp<;>rw[hcr] at g6<;>simp?[fx,↓g6,Rw,e4]
 have k2:I2 [some (.hd c.i),some uT,some bT,some sT,some (.str o)] (kL S z c) = .nx [some (.hd c.i),some uT,some bT,some sT,some (.str o)] (kL S w c):=by
  rw[<-hI2,hw];by_cases ho:o=""
  ·simp?[fx,ho]
  ·by_cases hr:b.w="run"
   ·rw[hr] at gw
    simp?[fx,ho,hr,↓gw,↓ge,hZi,e5]
   ·simp?[fx,ho,hr,↓gw,hZi,e5]
 have k3:I3 [some (.hd c.i),some uT,some bT,some sT,some (.str o)] (kL S w c) = .nx [some (.hd c.i),some uT,some bT,some sT,some (.str o)] (kL S (if r_ b.k=true then w.xG u.o else w) c):=by
  rw[<-hI3];cases hf:r_ b.k<;>rw[hf] at g4<;>simp?[fx,↓g4,↓gu,hWi,e6]
 generalize kL S (if r_ b.k=true then w.xG u.o else w) c=SF at *
 simp?[fx,e1,e2,hi,↓g0,e3,k1,k2,k3]
end
inductive bP where
 |dg (t f o b:Str)|qw (b:B)|mJ (n:Str)|qx (n:Str)|qy (n:Str)|swap (a b:Str)|fW|ig|l8
noncomputable def bP.t:bP->Tr
 |.dg t f o b=>.tp [.str "start",.str t,.str f,.str o,.str b]
 |.qw b=>b.t
 |.mJ n=>.tp [.str "in",.str n]
 |.qx n=>.tp [.str "bowl",.str n]
 |.qy n=>.tp [.str "hurt",.str n]
 |.swap a b=>.tp [.str "swap",.str a,.str b]
 |.fW=>.tp [.str "declare"]
 |.ig=>.tp [.str "follow"]
 |.l8=>.tp [.str "close"]
noncomputable def oS (l:List Str):Tr:=.ls (l.map .str)
noncomputable def I.nY (x:I)(b:B):Option Str:=if x.gap=true then some "empty" else if x.xo="" then some "bowler" else match b.zG with|some f=>some f|none=>if b.w="run" /\ x.eZ b.who=false then some "who" else none
noncomputable def I.wV (x:I)(Gu:List Str)(n:Str):Option Str:=if x.gap=false then some "full" else if n∉Gu then some "team" else if n∈x.outs then some "out" else if x.eZ n=true then some "there" else none
noncomputable def I.qz (x:I)(Ry:List Str)(sp:Int)(n:Str):Option Str:=if x.xo ≠ "" then some "bowling" else if n∉Ry then some "team" else if n=x.ahe then some "twice" else if 0<sp/\sp<=ju x.gU n then some "spell" else none
noncomputable def I.ni (x:I)(u:U)(Gu Ry:List Str):bP->Option Str
 |.qw b=>x.nY b
 |.mJ n=>x.wV Gu n
 |.qx n=>x.qz Ry u.s n
 |.qy n=>if x.eZ n=true then none else some "who"
 |_=>none
theorem DX {α:Type}(f:α -> Bool):∀l:List α,rV (l.map λa=>.bl (f a))=some (l.map f)
 |[]=>rfl
 |a::r=>by rw[tu];unfold rV;rw[DX f r];rfl
theorem DY {α:Type}(f:α -> Int):∀l:List α,mZ (l.map λa=>.int (f a))=some (l.map f)
 |[]=>rfl
 |a::r=>by rw[tu];unfold mZ;rw[DY f r];rfl
section
variable {S:Cs}{x:I}{c:L3}
theorem Lj (h:ie S x c)(b:B):Ji [.hd c.i,b.t] S = .ok (dN (x.nY b)) S:=by
 unfold Ji I.nY;have e1:=Rt h;have e2:=Wh b S;have e3:=λn=>kN h n
 have hi:=h.i;unfold jd at hi;cases hg:x.gap
 ·by_cases hb:x.xo=""
  ·simp?[fx,hi,e1,hg,hb,dN]
  ·cases hf:b.zG with
   |some f=>unfold B.t at *;simp?[fx,hi,e1,hg,hb,e2,hf,dN]
   |none =>
    by_cases hr:b.w="run"
    ·unfold B.t at *
     rw[hr] at e2;cases hs:x.eZ b.who<;>simp?[fx,hi,e1,hg,hb,e2,hf,dN,hr,e3,hs]
    ·unfold B.t at *;simp?[fx,hi,e1,hg,hb,e2,hf,dN,hr]
 ·simp?[fx,hi,e1,hg,dN]
theorem Wn (h:ie S x c)(Gu:List Str)(n:Str):Jj [.hd c.i,oS Gu,.str n] S = .ok (dN (x.wV Gu n)) S:=by
 unfold Jj I.wV oS;have e1:=Rt h;have e3:=λn=>kN h n
 have hi:=h.i;have ho:=h.o;unfold jd at hi;cases hg:x.gap
 ·simp?[fx,hi,e1,hg,dN]
 ·by_cases hb:n∈Gu
  ·by_cases hn:n∈x.outs
   ·simp?[fx,hi,ho,e1,hg,hb,hn,gA,cK,gz,kM,dN]
   ·cases hs:x.eZ n<;>simp?[fx,hi,ho,e1,e3,hg,hb,hn,hs,gA,cK,gz,kM,dN]
  ·simp?[fx,hi,e1,hg,hb,gA,cK,gz,dN]
theorem Lk (h:ie S x c)(Ry:List Str)(sp:Int)(n:Str):Jk [.hd c.i,oS Ry,.int sp,.str n] S = .ok (dN (x.qz Ry sp n)) S:=by
 unfold Jk I.qz oS;have hi:=h.i;have hs:=h.s;unfold jd at hi;by_cases hw:x.xo=""
 ·by_cases hb:n∈Ry
  ·by_cases ha:n=x.ahe
   ·subst ha;simp?[fx,hi,hw,hb,gA,cK,gz,dN,ne_eq]
   ·by_cases h0:0<sp
    ·by_cases h1:sp<=ju x.gU n<;>simp?[fx,hi,hs,hw,hb,ha,h0,h1,gA,cK,gz,tH,dN,ne_eq]
    ·simp?[fx,hi,hs,hw,hb,ha,h0,gA,cK,gz,tH,dN,ne_eq]
  ·simp?[fx,hi,hw,hb,gA,cK,gz,dN,ne_eq]
 ·simp?[fx,hi,hw,dN,ne_eq]
noncomputable def bP.zI:bP->Bool|.qw _=>true|.mJ _=>true|.qx _=>true|.qy _=>true|.fW=>true|_=>false
theorem Rz (h:ie S x c)(u:U)(Gu Ry:List Str)(e:bP)(he:e.zI=true):Jl [.hd c.i,u.t,oS Gu,oS Ry,e.t] S = .ok (dN (x.ni u Gu Ry e)) S:=by
 unfold Jl;have e1:=λb=>Lj h b
 have e2:=λn=>Wn h Gu n
 have e3:=λsp n=>Lk h Ry sp n
 have e4:=λn=>kN h n
 have hi:=h.i;unfold jd at hi;cases e with
 |qw b =>
  have e1:=e1 b;unfold bP.t I.ni;generalize dN (x.nY b)=z at *
  unfold B.t at *
  simp?[fx,e1]
 |mJ n =>
  have e2:=e2 n;unfold bP.t I.ni;simp?[fx,e2]
 |qx n =>
  have e3:=λsp=>e3 sp n
  unfold bP.t I.ni U.t;simp?[fx,e3]
 |qy n =>
  have e4:=e4 n;unfold bP.t I.ni;cases hs:x.eZ n<;>simp?[fx,hi,e4,hs,dN]
 |fW=>unfold bP.t I.ni;simp?[fx,dN]
 |dg _ _ _ _=>cases he
 |swap _ _=>cases he
 |ig=>cases he
 |l8=>cases he
theorem af1 (h:ie S x c)(ps:List Str)(hl:ps.length<=1000):JB [.hd c.i,oS ps] S = .ok (.bl (x.left ps)) S:=by
 unfold JB oS;have e3:=λn=>kN h n
 have hi:=h.i;have ho:=h.o;unfold jd at hi;have hz:(ps.length<=sizeLine)=True:=bH (by omega)
 simp only[Cq,gO,aJ,cC,af,gE,sM,aa,ak,iL,Fl,R.dZ,R.fF,j6,tu,Bp,zaL,K2,FP,zaI,Nat.reduceAdd,Nat.reduceSub,zbZ,zbw,zaT,zaH,Option.join,zaX,id_eq,zau];rw[q8 [] (λτ=>∃v,τ=[some (.hd c.i),v]) (λt=>match t with|.str n=>.bl (!decide (n∈x.outs) && !x.eZ n)|_=>.bz) (λ_=>true) (ps.map .str) _ [] ⟨_,rfl⟩ ?_ (by simp;omega)]
 ·have e:((ps.map Tr.str).filter (λ_=>true)).map (λt=>match t with|.str n=>(.bl (!decide (n∈x.outs) && !x.eZ n):Tr)|_=>.bz)=ps.map λn=>.bl (!decide (n∈x.outs) && !x.eZ n):=by
   rw[zdf.mpr (λ_ _=>rfl),zby];rfl
  rw[K2,e];simp only[R.dZ,UG,Cd,DX,R.fF,uD,zae,hz,ite_true];unfold I.left;rw[zcE];rfl
 ·rintro t ht τ ⟨v,rfl⟩
  obtain⟨n,hn,rfl⟩:=zbj.mp ht;refine⟨[some (.hd c.i),some (.str n)],⟨_,rfl⟩,rfl,rfl,λ_=>?_⟩
  by_cases hno:n∈x.outs
  ·simp?[fx,hi,ho,kM,hno,zdh]
  ·cases hs:x.eZ n<;>simp?[fx,hi,ho,kM,hno,e3,hs,zdx]
end
noncomputable def lP (c:L3):List Nat:=[c.i,c.o,c.s]
noncomputable def fp (y:Ly):List Nat:=y.a::y.k::y.p::y.l::y.cs.flatMap lP
noncomputable def mF (m:M)(y:Ly):List (Str×Tr):=[("rules",m.ru.t),("sides",aE m.t0 m.t1 m.p0 m.p1),("known",.hd y.k),("played",.hd y.p),("followed",.bl m.fol),("closed",.bl m.clo),("balls_told",.hd y.l)]
structure d9 (S:Cs) (m:M) (y:Ly):Prop where
 a:S[y.a]? = some (.e9 "Match" (mF m y))
 k:S[y.k]? = some (.bS (m.kn.map .str))
 p:S[y.p]? = some (.bS (y.cs.map λc=>.hd c.i))
 l:S[y.l]? = some (.bS m.g5)
 len:y.cs.length=m.pl.length
 mJ:∀(j:Nat) x c,m.pl[j]? = some x->y.cs[j]? = some c->ie S x c
 nd:(fp y).Nodup
noncomputable def gX (m:M):Option I:=match m.pl.getLast? with|some x=>if x.en="" then some x else none|none=>none
noncomputable def Wo (m:M)(s:Int):Int:=((m.pl.filter λx=>decide (x.bZ=s)).map (·.DT)).sum
noncomputable def l9 (m:M)(s:Int):Int:=Wo m s - Wo m (1 - s)
noncomputable def gi (m:M):Int:=match m.pl.getLast? with|some x=>x.bZ|none=>0
noncomputable def l_ (m:M):Bool:=if m.clo=true then true else if (gX m).isSome=true then false else if m.pl.length=3/\2 * m.ru.i=4 then decide (l9 m (gi m)<0) else decide (2 * m.ru.i<=m.pl.length)
theorem jv {m:M}{y:Ly}(hl:y.cs.length=m.pl.length):(m.pl=[]/\y.cs=[])\/∃f9 x ci c,m.pl=f9++[x]/\y.cs=ci++[c]/\ci.length=f9.length:=by
 rcases zco m.pl with h|⟨f9,x,h⟩
 ·exact .inl ⟨h,by rw[h] at hl;simpa using hl⟩
 ·rcases zco y.cs with h2|⟨ci,c,h2⟩
  ·rw[h,h2] at hl;simp at hl
  ·refine .inr ⟨f9,x,ci,c,by simpa using h,by simpa using h2,?_⟩
   rw[h,h2] at hl;simpa using hl
theorem nj {α:Type}(l:List α)(a:α):iX (l++[a]) (-1)=some a:=by
 unfold iX Bk;rw[if_neg (by decide),zaj,zbm]
 rw[if_pos (by omega)]
 simp only[zaX];rw[show ((-1:Int)+((l.length+1:Nat):Int)).toNat=l.length by omega]
 simp
theorem gj {α:Type}(l:List α)(a:α):(l++[a])[l.length]? = some a:=by simp
section
variable {S:Cs}{m:M}{y:Ly}
theorem d9.rG (h:d9 S m y)(e1:m.pl=f9++[x])(e2:y.cs=ci++[c])(e3:ci.length=f9.length):ie S x c:=h.mJ f9.length x c (by rw[e1,gj]) (by rw[e2,<-e3,gj])
theorem aah {α β:Type}{f:α -> List β}:∀{l:List α},(l.flatMap f).Nodup->∀c∈l,(f c).Nodup
 |[],_,c,h=>absurd h (by simp)
 |a::r,h,c,hc=>by
  rw[zdC] at h;have h':=zck.mp h;rcases zam.mp hc with rfl|hc
  ·exact h'.1
  ·exact aah h'.2.1 c hc
theorem DZ (h:(fp y).Nodup)(hc:c∈y.cs):Dj c/\c.i≠y.a/\c.i≠y.k/\c.i≠y.p/\c.i≠y.l/\c.o≠y.a/\c.o≠y.k/\c.o≠y.p/\c.o≠y.l/\c.s≠y.a/\c.s≠y.k/\c.s≠y.p/\c.s≠y.l:=by
 unfold fp at h;simp only[zbB,zam,zbq,not_or,not_exists,not_and] at h;obtain⟨⟨_,_,_,ha⟩,⟨_,_,hk⟩,⟨_,hp⟩,hl,hn⟩:=h
 have q:∀n∈lP c,n≠y.a/\n≠y.k/\n≠y.p/\n≠y.l:=λn hn=>⟨λz=>ha c hc (z ▸ hn),λz=>hk c hc (z ▸ hn),λz=>hp c hc (z ▸ hn),λz=>hl c hc (z ▸ hn)⟩
 have d:(lP c).Nodup:=by
  exact aah hn c hc
 unfold lP at d q;simp only[zbB,zam,zay,or_false,not_or] at d;obtain⟨a1,a2,a3,a4⟩:=q c.i (by simp)
 obtain⟨b1,b2,b3,b4⟩:=q c.o (by simp)
 obtain⟨c1,c2,c3,c4⟩:=q c.s (by simp)
 exact⟨⟨d.1.1,d.1.2,d.2.1⟩,a1,a2,a3,a4,b1,b2,b3,b4,c1,c2,c3,c4⟩
noncomputable def RA (m:M)(y:Ly):Tr:=match m.pl.getLast?,y.cs.getLast? with|some x,some c=>if x.en="" then .hd c.i else .bz|_,_=>.bz
theorem fX (h:d9 S m y)(hs:m.pl.length<=1000):jt [.hd y.a] S = .ok (RA m y) S:=by
 unfold jt RA;have ha:=h.a;have hp:=h.p;have hz:(m.pl.length<=sizeLine)=True:=bH (by omega)
 unfold mF at ha;rcases jv h.len with⟨e1,e2⟩|⟨f9,x,ci,c,e1,e2,e3⟩
 ·rw[e1,e2]
  rw[e2] at hp;simp?[fx,ha,hp,List.getLast?_nil]
 ·have hi:=(h.rG e1 e2 e3).i
  rw[e1,e2];rw[e2,zaO,tu,Bp] at hp;have hz:(ci.length+1<=sizeLine)=True:=bH (by rw[e1] at hs;simp at hs;omega)
  unfold jd at hi;have hn:¬ ((ci.length:Int)+1=0):=by omega
  by_cases he:x.en="" <;> simp?[fx,ha,hp,hi,he,hz,nj,List.getLast?_append,List.getLast?_singleton,Option.some_or,zaj,zae,zbD,zbN,hn,Int.ofNat_one]
end
structure Sz (m:M) (n:Nat):Prop where
 pl:m.pl.length<=n
 kn:m.kn.length<=n
 g5:m.g5.length<=n
 p0:m.p0.length<=11
 p1:m.p1.length<=11
 outs:∀x∈m.pl,x.outs.length<=n
 gU:∀x∈m.pl,x.gU.length<=n
 bZ:∀x∈m.pl,x.bZ=0\/x.bZ=1
noncomputable def jw (m:M)(s:Int):Str:=if s=0 then m.t0 else m.t1
noncomputable def iu (m:M)(s:Int):List Str:=if s=0 then m.p0 else m.p1
theorem nq {m:M}{s:Int}(h:s=0\/s=1):iX [Tr.tp [.str m.t0,.ls (m.p0.map .str)],Tr.tp [.str m.t1,.ls (m.p1.map .str)]] s=some (.tp [.str (jw m s),.ls ((iu m s).map .str)]):=by rcases h with rfl|rfl<;>rfl
theorem JI {m:M}{s:Int}(h:s=0\/s=1):iX [Tr.tp [.str m.t0,.ls (m.p0.map .str)],Tr.tp [.str m.t1,.ls (m.p1.map .str)]] (1 - s)=some (.tp [.str (jw m (1 - s)),.ls ((iu m (1 - s)).map .str)]):=by rcases h with rfl|rfl<;>rfl
noncomputable def mh (m:M):Option Int:=if m.pl=[] then none else if (gX m).isSome=true then none else if l_ m=true then none else if m.fol=true/\m.pl.length=2 then some (gi m) else some (1 - gi m)
noncomputable def mK:Option Int->Tr|none=>.bz|some i=>.int i
theorem af2:sN 0 2=[.int 0,.int 1]:=rfl
noncomputable def A8 (m:M)(t:Str):Option Int:=if m.t0=t/\(m.pl=[]\/mh m=some 0) then some 0 else if m.t1=t/\(m.pl=[]\/mh m=some 1) then some 1 else none
noncomputable def nu (m:M)(t f o b:Str):Option Str:=if (gX m).isSome=true then some "going" else match A8 m t with
 |none=>some "turn"
 |some s=>if f∉iu m s\/o∉iu m s\/b∉iu m (1 - s) then some "team" else if f=o then some "alike" else none
theorem tK {m:M}{y:Ly}{f9:List I}{x:I}{ci:List L3}{c:L3}(e1:m.pl=f9++[x])(e2:y.cs=ci++[c]):RA m y=if x.en="" then .hd c.i else .bz:=by
 unfold RA;rw[e1,e2];simp
theorem qA {m:M}{f9:List I}{x:I}(e1:m.pl=f9++[x]):gX m=if x.en="" then some x else none:=by
 unfold gX;rw[e1];simp
theorem gk {m:M}{y:Ly}(hl:y.cs.length=m.pl.length)(h:(gX m).isSome=false):RA m y = .bz:=by
 rcases jv hl with⟨e1,e2⟩|⟨f9,x,ci,c,e1,e2,e3⟩
 ·unfold RA;rw[e1,e2];rfl
 ·rw[tK e1 e2]
  rw[qA e1] at h;split
  ·rename_i q;rw[if_pos q] at h;cases h
  ·rfl
theorem fP {m:M}{y:Ly}(hl:y.cs.length=m.pl.length)(h:(gX m).isSome=true):∃(f9:List I) (x:I) (ci:List L3) (c:L3),m.pl=f9++[x]/\y.cs=ci++[c]/\ci.length=f9.length/\x.en=("" : Str)/\RA m y = .hd c.i/\gX m=some x:=by
 rcases jv hl with⟨e1,e2⟩|⟨f9,x,ci,c,e1,e2,e3⟩
 ·unfold gX at h;rw[e1] at h;cases h
 ·have hx:x.en="" := by
   rw[qA e1] at h;by_cases q:x.en=""
   ·exact q
   ·rw[if_neg q] at h;cases h
  exact⟨f9,x,ci,c,e1,e2,e3,hx,by rw[tK e1 e2,if_pos hx],by rw[qA e1,if_pos hx]⟩
section
variable {S:Cs}{m:M}{y:Ly}{n:Nat}
theorem Gv (h:d9 S m y):wL [.hd y.a] S = .ok (.int (2 * m.ru.i)) S:=by
 unfold wL;have ha:=h.a;unfold mF U.t at ha;simp?[fx,ha]
theorem Wq (h:d9 S m y)(s:Int)(hs:m.pl.length<=1000):DE [.hd y.a,.int s] S = .ok (.int (Wo m s)) S:=by
 unfold DE;refine fM (S1:=S) (t:=.int (Wo m s)) ?_ (zaJ ..) (by unfold o_;simp only[qg];rfl)
 have ha:=h.a;have hp:=h.p;unfold mF at ha;have hz:∀k:Nat,k<=1000->(k<=sizeLine)=True:=λk hk=>bH (by omega)
 rw[<-Iq (l:=m.pl) (λc:L3=>Tr.hd c.i) h.len] at hp
 simp only[Cq,gO,aJ,cC,af,gE,sM,aa,ak,aQ,KH,iH,iL,Fl,cM,R.dZ,R.fF,j6,tu,Bp,zaL,K2,FP,zaI,Nat.reduceAdd,Nat.reduceSub,zbZ,zbw,zaT,zaH,Option.join,zaX,id_eq,zau,ha,hp,fx,ai1,if_true];rw[jn (by rw[hp]) (λτ=>∃v,τ=[some (.int s),v]) (λp:I×L3=>Tr.hd p.2.i) (λp=>.int p.1.DT) (λp=>decide (p.1.bZ=s)) _ _ [] ⟨_,rfl⟩ ?_ (by
  rw[zaI,List.length_zip,h.len];omega)]
 ·rw[K2,FF (λx:I=>decide (x.bZ=s)) (λx=>Tr.int x.DT) h.len]
  simp only[R.dZ,Fw,Fl,DY,R.fF,uD];rfl
 ·rintro⟨x,c⟩ hxc τ ⟨v,rfl⟩
  obtain⟨j,h1,h2⟩:=OJ hxc;have hi:=(h.mJ j x c h1 h2).i
  unfold jd at hi;refine⟨[some (.int s),some (.hd c.i)],⟨_,rfl⟩,rfl,?_,λ_=>?_⟩<;>simp?[fx,hi]
theorem A9 (h:d9 S m y)(s:Int)(hs:m.pl.length<=1000):wM [.hd y.a,.int s] S = .ok (.int (l9 m s)) S:=by
 unfold wM l9;have e1:=λs=>Wq h s hs
 have ha:=h.a;unfold mF at ha;simp?[fx,ha,e1,dF]
theorem A_ (h:d9 S m y)(z:Sz m n)(hn:n<=1000):zB [.hd y.a] S = .ok (.bl (l_ m)) S:=by
 unfold zB l_;have hs:m.pl.length<=1000:=zag z.pl hn
 have e1:=fX h hs;have e2:=Gv h;have e3:=λs=>A9 h s hs
 have ha:=h.a;have hp:=h.p;have hz:(y.cs.length<=sizeLine)=True:=bH (by rw[h.len];omega)
 unfold mF at ha;cases hc:m.clo
 ·cases hg:(gX m).isSome
  ·have eg:=gk h.len hg
   by_cases h3:m.pl.length=3
   ·have h3':((y.cs.length:Int)=3)=True:=eq_true (by rw[h.len,h3];rfl)
    by_cases h4:2 * m.ru.i=4
    ·rcases jv h.len with⟨a1,_⟩|⟨f9,x,ci,c,a1,a2,a3⟩
     ·rw[a1] at h3;cases h3
     ·have hi:=(h.rG a1 a2 a3).i
      unfold jd at hi;have hl:gi m=x.bZ:=by unfold gi;rw[a1];simp
      have h5:((ci.length:Int)+1=3)=True:=eq_true (by rw[a2,zaj,zbm] at h3';have:=of_eq_true h3';omega)
      have Wr:(ci.length+1<=sizeLine)=True:=by rw[a2,zaj,zbm] at hz;exact hz
      rw[a2,zaO,tu,Bp] at hp;simp?[fx,ha,hp,hi,hc,e1,eg,e2,e3,h4,h3,hl,Wr,h5,zaj,zae,nj,dF,zbD,zbN,Bl,Fo]
    ·have h4':¬ (2 * m.ru.i=4):=h4
     simp?[fx,ha,hp,hc,e1,eg,e2,h3,h4',hz,h3',zae,dF,gGe,Fo];simp only[h.len,h3];rfl
   ·have h3':((y.cs.length:Int)=3)=False:=eq_false (by rw[h.len];omega)
    simp?[fx,ha,hp,hc,e1,eg,e2,h3,hz,h3',zae,dF,gGe,Fo];simp only[h.len]
  ·obtain⟨f9,x,ci,c,a1,a2,a3,a4,a5,a6⟩:=fP h.len hg
   simp?[fx,ha,hc,e1,a5]
 ·simp?[fx,ha,hc]
theorem RB (h:d9 S m y)(z:Sz m n)(hn:n<=1000):DJ [.hd y.a] S = .ok (mK (mh m)) S:=by
 unfold DJ mh;have hs:m.pl.length<=1000:=zag z.pl hn
 have e1:=fX h hs;have e2:=A_ h z hn;have ha:=h.a;have hp:=h.p;have hz:(y.cs.length<=sizeLine)=True:=bH (by rw[h.len];omega)
 unfold mF at ha;rcases jv h.len with⟨a1,a2⟩|⟨f9,x,ci,c,a1,a2,a3⟩
 ·rw[a2] at hp
  simp?[fx,ha,hp,a1,mK]
 ·have Ej:¬ m.pl=[]:=by rw[a1];simp
  have hi:=(h.rG a1 a2 a3).i
  unfold jd at hi;have hl:gi m=x.bZ:=by unfold gi;rw[a1];simp
  have Wr:(ci.length+1<=sizeLine)=True:=by rw[a2,zaj,zbm] at hz;exact hz
  have h0:¬ ((ci.length:Int)+1=0):=by omega
  rw[a2,zaO,tu,Bp] at hp;cases hg:(gX m).isSome
  ·have eg:=gk h.len hg
   cases hd:l_ m
   ·cases hf:m.fol
    ·simp?[fx,ha,hp,hi,Ej,e1,eg,e2,hd,hf,hl,Wr,h0,zaj,zae,nj,dF,zbD,zbN,mK]
    ·by_cases h2:m.pl.length=2
     ·have h5:((ci.length:Int)+1=2)=True:=eq_true (by rw[a1,zaj,zbm,<-a3] at h2;omega)
      simp?[fx,ha,hp,hi,Ej,e1,eg,e2,hd,hf,hl,Wr,h0,h2,h5,zaj,zae,nj,dF,zbD,zbN,mK]
     ·have h5:((ci.length:Int)+1=2)=False:=eq_false (by rw[a1,zaj,zbm,<-a3] at h2;omega)
      simp?[fx,ha,hp,hi,Ej,e1,eg,e2,hd,hf,hl,Wr,h0,h2,h5,zaj,zae,nj,dF,zbD,zbN,mK]
   ·simp?[fx,ha,hp,Ej,e1,eg,e2,hd,Wr,h0,zaj,zae,zbD,zbN,mK]
  ·obtain⟨f9,x,ci,c,b1,b2,b3,b4,b5,b6⟩:=fP h.len hg
   simp?[fx,ha,hp,Ej,e1,b5,Wr,h0,zaj,zae,zbD,zbN,mK]
theorem aai (h:d9 S m y)(z:Sz m n)(hn:n<=1000)(t:Str):DL [.hd y.a,.str t] S = .ok (mK (A8 m t)) S:=by
 have e1:=RB h z hn;have ha:=h.a;have hp:=h.p;have hs:m.pl.length<=1000:=zag z.pl hn
 have hz:(y.cs.length<=sizeLine)=True:=bH (by rw[h.len];omega)
 have h0:((y.cs.length:Int)=0)=(m.pl=[]):=by
  apply propext
  rw[h.len];constructor
  ·intro q;exact List.length_eq_zero_iff.mp (by omega)
  ·intro q;rw[q];rfl
 unfold DL A8;generalize hT:mD _ _=T
 have key:∀s:Int,s=0\/s=1->T [some (.hd y.a),some (.str t),some (.int s)] S = .ok (decide (jw m s=t/\(m.pl=[]\/mh m=some s))) S:=λs s01=>by
  have k5:=@nq m s s01
  unfold mF aE at ha;subst hT;generalize jw m s=tt at *
  by_cases h1:tt=t
  ·by_cases h3:m.pl=[]
   ·simp?[fx,ha,hp,h0,h1,h3,hz,k5,zae]
   ·cases hN:mh m with
    |none =>
     rw[hN] at e1;simp?[fx,ha,hp,h0,h1,h3,hz,k5,zae,e1,mK]
    |some j =>
     rw[hN] at e1;simp?[fx,ha,hp,h0,h1,h3,hz,k5,zae,e1,mK,zbF,eq_comm,false_or,true_and]
  ·simp?[fx,ha,h1,k5]
 have t0:jw m 0=m.t0:=rfl
 have t1:jw m 1=m.t1:=rfl
 have a0:=key 0 (.inl rfl)
 have a1:=key 1 (.inr rfl)
 rw[t0] at a0;rw[t1] at a1;clear key
 by_cases c0:m.t0=t/\(m.pl=[]\/mh m=some 0)
 ·rw[decide_eq_true c0] at a0
  rw[if_pos c0];simp?[af2,a0,mK]
 ·rw[decide_eq_false c0] at a0
  rw[if_neg c0];by_cases c1:m.t1=t/\(m.pl=[]\/mh m=some 1)
  ·rw[decide_eq_true c1] at a1
   rw[if_pos c1];simp?[af2,a0,a1,mK]
  ·rw[decide_eq_false c1] at a1
   rw[if_neg c1];simp?[af2,a0,a1,mK]
theorem aaj (e:A8 m t=some s):s=0\/s=1:=by
 unfold A8 at e;split at e
 ·cases e;exact .inl rfl
 ·split at e
  ·cases e;exact .inr rfl
  ·cases e
theorem Gw (h:d9 S m y)(z:Sz m n)(hn:n<=1000)(t f o b:Str):Ja [.hd y.a,(bP.dg t f o b).t] S = .ok (dN (nu m t f o b)) S:=by
 unfold Ja nu bP.t;have hs:m.pl.length<=1000:=zag z.pl hn
 have e1:=fX h hs;have e2:=aai h z hn t;have ha:=h.a;unfold mF aE at ha;cases hg:(gX m).isSome
 ·have eg:=gk h.len hg
  cases hs:A8 m t with
  |none=>rw[hs] at e2;simp?[fx,ha,e1,eg,e2,mK,dN]
  |some s =>
   rw[hs] at e2;have ak9:=aaj hs;have k1:=@nq m s ak9
   have k2:=@JI m s ak9
   by_cases h1:f∈iu m s<;>by_cases h2:o∈iu m s<;>by_cases h3:b∈iu m (1 - s)<;>by_cases h4:f=o <;>
    simp?[fx,ha,e1,eg,e2,mK,dN,k1,k2,dF,gA,cK,gz,h1,h2,h3,h4]
 ·obtain⟨f9,x,ci,c,b1,b2,b3,b4,b5,b6⟩:=fP h.len hg
  simp?[fx,ha,e1,b5,dN]
noncomputable def eF (m:M)(e:bP):Option Str:=match gX m with
 |none=>some "none"
 |some x=>x.ni m.ru (iu m x.bZ) (iu m (1 - x.bZ)) e
theorem Ws (e:bP)(he:e.zI=true):∃w l,e.t = .tp (.str w::l)/\¬ w="start" /\ ¬ w="swap" /\ ¬ w="follow" /\ ¬ w="close" := by
 have h:∀w∈(["ball","in","bowl","hurt","declare"]:List Str),¬ w="start" /\ ¬ w="swap" /\ ¬ w="follow" /\ ¬ w="close" := by decide +kernel
 cases e<;>first | (cases he;done)|exact⟨_,_,rfl,h _ (by simp)⟩
theorem D0 (h:d9 S m y)(z:Sz m n)(hn:n<=1000)(e:bP)(he:e.zI=true):r9 [.hd y.a,e.t] S = .ok (dN (if l_ m=true then some "done" else eF m e)) S:=by
 unfold r9;have hs:m.pl.length<=1000:=zag z.pl hn
 have e1:=fX h hs;have e2:=A_ h z hn;have ha:=h.a;unfold mF aE at ha;obtain⟨w,l,el,w1,w2,w3,w4⟩:=Ws e he;cases hd:l_ m
 ·cases hg:(gX m).isSome
  ·have eg:=gk h.len hg
   have xD:eF m e=some ("none" : Str):=by
    unfold eF;cases hq:gX m with
    |none=>rfl
    |some x=>rw[hq] at hg;cases hg
   rw[el];simp?[fx,ha,e1,eg,e2,hd,xD,dN,w1,w2,w3,w4]
  ·obtain⟨f9,x,ci,c,b1,b2,b3,b4,b5,b6⟩:=fP h.len hg
   have hI:=h.rG b1 b2 b3;have hi:=hI.i;unfold jd at hi;have hsd:=z.bZ x (by rw[b1];simp)
   have k1:=@nq m x.bZ hsd
   have k2:=@JI m x.bZ hsd
   have e3:=Rz hI m.ru (iu m x.bZ) (iu m (1 - x.bZ)) e he
   have xD:eF m e=x.ni m.ru (iu m x.bZ) (iu m (1 - x.bZ)) e:=by unfold eF;rw[b6]
   rw[<-xD] at e3;unfold oS at e3;generalize eF m e=r at *
   rw[el] at e3 ⊢
   simp?[fx,ha,hi,e1,b5,e2,hd,k1,k2,dF,e3,w1,w2,w3,w4]
 ·simp?[fx,ha,e2,hd,dN]
end
noncomputable def aP (F:List Nat)(S S':Cs):Prop:=S.length<=S'.length/\∀j,j<S.length->j∉F->S'[j]? = S[j]?
theorem aP.refl:aP F S S:=⟨zah _,λ_ _ _=>rfl⟩
theorem aP.trans (a:aP F S1 S2)(b:aP F S2 S3):aP F S1 S3:=⟨zag a.1 b.1,λj h1 h2=>(b.2 j (zak h1 a.1) h2).trans (a.2 j h1 h2)⟩
theorem aP.mono (a:aP F S S')(h:∀j∈F,j∈F'):aP F' S S':=⟨a.1,λj h1 h2=>a.2 j h1 λz=>h2 (h j z)⟩
theorem aP.at (a:aP F S S')(h:S[j]? = some c)(hj:j∉F):S'[j]? = some c:=by rw[a.2 j (aN h) hj];exact h
theorem aP.set (h:n∈F):aP F S (S.set n c):=⟨by simp,λj _ h2=>cZ λz=>h2 (z ▸ h)⟩
theorem aP.sV:aP F S (S++r):=⟨by simp,λj h1 _=>zai h1⟩
theorem aP.kL (h:∀j∈lP c,j∈F):aP F S (kL S x c):=by
 unfold My.kL;exact ((aP.set (h _ (by simp[lP]))).trans (aP.set (h _ (by simp[lP])))).trans (aP.set (h _ (by simp[lP])))
theorem ie.only (a:aP F S S')(h:ie S x c)(hF:∀j∈lP c,j∉F):ie S' x c:=⟨a.at h.i (hF _ (by simp[lP])),a.at h.o (hF _ (by simp[lP])),a.at h.s (hF _ (by simp[lP]))⟩
theorem d9.only (a:aP F S S')(h:d9 S m y)(hF:∀j∈fp y,j∉F):d9 S' m y where
 a:=a.at h.a (hF _ (by simp[fp]))
 k:=a.at h.k (hF _ (by simp[fp]))
 p:=a.at h.p (hF _ (by simp[fp]))
 l:=a.at h.l (hF _ (by simp[fp]))
 len:=h.len
 mJ:=λj x c h1 h2=>(h.mJ j x c h1 h2).only a λn hn=>hF n (by
  unfold fp;simp only[zam,zbq];exact .inr (.inr (.inr (.inr ⟨c,zax h2,hn⟩))))
 nd:=h.nd
theorem Ba {α β:Type}{f:α -> List β}:∀{l:List α} {j k:Nat} {a b:α},(l.flatMap f).Nodup->l[j]? = some a->l[k]? = some b->j≠k->∀n∈f a,n∉f b
 |[],j,k,a,b,_,h,_,_,_,_=>by simp at h
 |x::r,j,k,a,b,nd,h1,h2,ne,n,hn=>by
  rw[zdC] at nd;have nd':=zck.mp nd;intro hb;cases j with
  |zero =>
   cases k with
   |zero=>exact ne rfl
   |succ k =>
    simp only[zaT,zbF] at h1;simp only[zaH] at h2;subst h1;exact nd'.2.2 n hn n (zbq.mpr ⟨b,zax h2,hb⟩) rfl
  |succ j =>
   simp only[zaH] at h1;cases k with
   |zero =>
    simp only[zaT,zbF] at h2;subst h2;exact nd'.2.2 n hb n (zbq.mpr ⟨a,zax h1,hn⟩) rfl
   |succ k =>
    simp only[zaH] at h2;exact Ba nd'.2.1 h1 h2 (λz=>ne (by rw[z])) n hn hb
theorem aak (h:(fp y).Nodup):(y.cs.flatMap lP).Nodup:=by
 unfold fp at h;simp only[zbB] at h;exact h.2.2.2.2
noncomputable def M.mj (m:M)(x:I):M:={m with pl:=m.pl.dropLast++[x]}
section
variable {S:Cs}{m:M}{y:Ly}{n:Nat}{f9:List I}{x x':I}{ci:List L3}{c:L3}
theorem d9.mj (h:d9 S m y)(e1:m.pl=f9++[x])(e2:y.cs=ci++[c])(e3:ci.length=f9.length):d9 (kL S x' c) (m.mj x') y:=by
 obtain⟨d,a1,a2,a3,a4,b1,b2,b3,b4,c1,c2,c3,c4⟩:=DZ h.nd (c:=c) (by rw[e2];simp)
 have hI:=h.rG e1 e2 e3;have on:aP (lP c) S (kL S x' c):=aP.kL λ_ h=>h
 have nm:∀j,j≠c.i->j≠c.o->j≠c.s->j∉lP c:=λj h1 h2 h3 q=>by simp[lP] at q;rcases q with q|q|q;exact h1 q;exact h2 q;exact h3 q
 have ep:(m.mj x').pl=f9++[x']:=by unfold M.mj;simp[e1]
 refine⟨on.at h.a (nm _ a1.symm b1.symm c1.symm),on.at h.k (nm _ a2.symm b2.symm c2.symm),on.at h.p (nm _ a3.symm b3.symm c3.symm),on.at h.l (nm _ a4.symm b4.symm c4.symm),?_,?_,h.nd⟩
 ·rw[ep,e2];simp[e3]
 ·intro j z cz h1 h2
  rw[ep] at h1;by_cases hj:j=f9.length
  ·subst hj
   rw[gj] at h1;rw[e2,<-e3,gj] at h2;cases h1;cases h2
   exact lO hI d
  ·have Ip:j<f9.length:=by
    have:=(zab.mp h1).1
    simp at this
    omega
   rw[zai Ip] at h1;refine (h.mJ j z cz (by rw[e1,zai Ip];exact h1) h2).only on (Ba (aak h.nd) h2 (k:=f9.length) (by rw[e2,<-e3,gj]) hj)
theorem af3 (e1:m.pl=f9++[x])(z:I):(m.mj z).pl=f9++[z]:=by unfold M.mj;simp[e1]
theorem Sz.mj (h:Sz m n)(e1:m.pl=f9++[x])(hs:x'.bZ=x.bZ)(h1:x'.outs.length<=n)(h2:x'.gU.length<=n):Sz (m.mj x') n:=by
 have ep:=af3 e1 x';have hm:∀z∈(m.mj x').pl,z∈m.pl\/z=x':=λz hz=>by
  rw[ep] at hz;rcases zbd.mp hz with q|q
  ·exact .inl (by rw[e1];exact zbP _ q)
  ·exact .inr (by simpa using q)
 refine⟨?_,h.kn,h.g5,h.p0,h.p1,λz hz=>?_,λz hz=>?_,λz hz=>?_⟩
 ·rw[ep];have:=h.pl;rw[e1] at this;simpa using this
 ·rcases hm z hz with q|rfl
  ·exact h.outs z q
  ·exact h1
 ·rcases hm z hz with q|rfl
  ·exact h.gU z q
  ·exact h2
 ·rcases hm z hz with q|rfl
  ·exact h.bZ z q
  ·rw[hs];exact h.bZ x (by rw[e1];simp)
end
noncomputable def jx (m:M)(x:I)(b:B):Tr:=.tp [.int ((m.pl.length:Int) - 1),.int x.ov,.int x.ba,.str x.oF,.str x.wU,.str x.xo,b.t,.str (x.E7 b)]
noncomputable def nv (m:M)(x:I):bP->M
 |.qw b=>{m.mj (x.qv m.ru b) with g5:=m.g5++[jx m x b]}
 |.mJ n=>m.mj (x.DU n)
 |.qx n=>m.mj (x.zH n)
 |.qy n=>m.mj (x.gQ n)
 |.fW=>m.mj { x with en:= "declared" }
 |_=>m
noncomputable def Gy (m:M)(x:I):Str:=if (m.pl.length:Int)=2 * m.ru.i/\0<l9 m x.bZ then "won" else if x.gap=true/\x.left (iu m x.bZ)=false then "out" else if 0<m.ru.v/\m.ru.v<=x.ov then "overs" else ""
noncomputable def oG (m:M):M:=match gX m with|some x=>m.mj {x with en:=Gy m x} | none=>m
section
variable {S:Cs}{m:M}{y:Ly}{n:Nat}{f9:List I}{x x':I}{ci:List L3}{c:L3}
theorem RC (h:d9 S m y)(z:Sz m n)(hn:n<=1000)(e1:m.pl=f9++[x])(e2:y.cs=ci++[c])(e3:ci.length=f9.length):JC [.hd y.a,.hd c.i] S = .ok (.str (Gy m x)) S:=by
 have hs:m.pl.length<=1000:=zag z.pl hn
 have hI:=h.rG e1 e2 e3;have k1:=Gv h;have k2:=A9 h x.bZ hs;have k3:=Rt hI;have hsd:=z.bZ x (by rw[e1];simp)
 have k5:=@nq m x.bZ hsd
 have hpl:(iu m x.bZ).length<=1000:=by
  have:=z.p0;have:=z.p1
  unfold iu;split<;>omega
 have k4:=af1 hI (iu m x.bZ) hpl
 unfold oS at k4;have ha:=h.a;have hp:=h.p;have hi:=hI.i;have hz:(y.cs.length<=sizeLine)=True:=bH (by rw[h.len];omega)
 unfold mF aE at ha;unfold jd at hi;have dB:(y.cs.length:Int)=m.pl.length:=by rw[h.len]
 unfold JC Gy;generalize (m.pl.length:Int)=N at *
 generalize l9 m x.bZ=L at *
 generalize x.gap=G at *
 generalize x.left (iu m x.bZ)=F at *
 generalize hT1:mD (mB (ai (cY false) _ _)) _=T1
 generalize Xs:mD (mB (aH _ _ _ _ _ _)) _=T2
 generalize hT3:mB (ly _ _ _ _ _)=T3
 have a1:T1 [some (.hd y.a),some (.hd c.i)] S = .ok (decide (N=2 * m.ru.i/\0<L)) S:=by
  subst hT1;by_cases h1:N=2 * m.ru.i<;>simp?[fx,ha,hp,hi,hz,k1,k2,dB,h1,zae,Eo,Fo,true_and,false_and,decide_false]
 have a2:T2 [some (.hd y.a),some (.hd c.i)] S = .ok (decide (G=true/\F=false)) S:=by
  have eG:decide (G=true/\F=false)=(G && !F):=by cases G<;>cases F<;>rfl
  rw[eG];subst Xs;cases G<;>simp?[fx,ha,hi,k3,k4,k5,zdx,zdh]
 have a3:T3 [some (.hd y.a),some (.hd c.i)] S = .ok (decide (0<m.ru.v/\m.ru.v<=x.ov)) S:=by
  subst hT3;unfold U.t at ha;by_cases h1:0<m.ru.v<;>simp?[fx,ha,hi,h1,Bl,So,Fo,true_and,false_and,decide_false]
 clear hT1 Xs hT3 ha hi hp k1 k2 k3 k4 k5
 by_cases q1:N=2 * m.ru.i/\0<L
 ·rw[decide_eq_true q1] at a1
  rw[if_pos q1];simp?[a1]
 ·rw[decide_eq_false q1] at a1
  rw[if_neg q1];by_cases q2:G=true/\F=false
  ·rw[decide_eq_true q2] at a2
   rw[if_pos q2];simp?[a1,a2]
  ·rw[decide_eq_false q2] at a2
   rw[if_neg q2];by_cases q3:0<m.ru.v/\m.ru.v<=x.ov
   ·rw[decide_eq_true q3] at a3
    rw[if_pos q3];simp?[a1,a2,a3]
   ·rw[decide_eq_false q3] at a3
    rw[if_neg q3];simp?[a1,a2,a3]
theorem Wt (h:(fp y).Nodup):y.a≠y.k/\y.a≠y.p/\y.a≠y.l/\y.k≠y.p/\y.k≠y.l/\y.p≠y.l:=by
 unfold fp at h;simp only[zbB,zam,not_or] at h;exact⟨h.1.1,h.1.2.1,h.1.2.2.1,h.2.1.1,h.2.1.2.1,h.2.2.1.1⟩
theorem d9.MB (h:d9 S m y)(on:aP [n] S S')(hn:∀c∈y.cs,n∉lP c):∀(j:Nat) x c,m.pl[j]? = some x->y.cs[j]? = some c->ie S' x c:=λj x c h1 h2=>(h.mJ j x c h1 h2).only on λk hk q=>by
 simp at q
 subst q;exact hn c (zax h2) hk
theorem JJ (h:(fp y).Nodup)(hk:k=y.a\/k=y.k\/k=y.p\/k=y.l):∀c∈y.cs,k∉lP c:=λc hc q=>by
 obtain⟨d,a1,a2,a3,a4,b1,b2,b3,b4,c1,c2,c3,c4⟩:=DZ h (c:=c) hc
 simp[lP] at q
 rcases hk with rfl|rfl|rfl|rfl<;>rcases q with q|q|q<;>first|exact a1 q.symm|exact a2 q.symm|exact a3 q.symm|exact a4 q.symm|exact b1 q.symm|exact b2 q.symm|exact b3 q.symm|exact b4 q.symm|exact c1 q.symm|exact c2 q.symm|exact c3 q.symm|exact c4 q.symm
theorem d9.apc (h:d9 S m y)(l:List Tr):d9 (S.set y.l (.bS l)) {m with g5:=l} y:=by
 obtain⟨a1,a2,a3,a4,a5,a6⟩:=Wt h.nd;exact⟨by rw[cZ a3.symm];exact h.a,by rw[cZ a5.symm];exact h.k,by rw[cZ a6.symm];exact h.p,cy (aN h.l),h.len,h.MB (aP.set (by simp)) (JJ h.nd (.inr (.inr (.inr rfl)))),h.nd⟩
theorem Wu (h:d9 S m y)(z:Sz m n)(hn:n<=1000)(e1:m.pl=f9++[x])(e2:y.cs=ci++[c])(e3:ci.length=f9.length)(hx:x.en="")(b:B):
  Ju [.hd y.a,b.t] S = .ok .bz ((kL S (x.qv m.ru b) c).set y.l (.bS (m.g5++[jx m x b]))):=by
 unfold Ju jx;have hs:m.pl.length<=1000:=zag z.pl hn
 have hI:=h.rG e1 e2 e3;have Wv:x∈m.pl:=by rw[e1];simp
 obtain⟨d,a1,a2,a3,a4,b1,b2,b3,b4,c1,c2,c3,c4⟩:=DZ h.nd (c:=c) (by rw[e2];simp)
 have k1:=fX h hs;rw[tK e1 e2,if_pos hx] at k1;have k2:=af0 hI d m.ru b (zag (z.outs x Wv) hn)
 have hM:=d9.mj (x':=x.qv m.ru b) h e1 e2 e3
 have ha:=h.a;have hp:=h.p;have hi:=hI.i;have Ua:=hM.a;have hl':=hM.l;have HH:(m.mj (x.qv m.ru b)).g5=m.g5:=rfl
 rw[HH] at hl';have hz:(y.cs.length<=sizeLine)=True:=bH (by rw[h.len];omega)
 have hz2:(m.g5.length<sizeLine)=True:=jm (by have:=z.g5;omega)
 have dB:(y.cs.length:Int)=m.pl.length:=by rw[h.len]
 unfold mF at ha Ua;unfold jd at hi;generalize (m.pl.length:Int)=N at *
 generalize x.E7 b=o at *
 generalize kL S (x.qv m.ru b) c=S1 at *
 unfold B.t at *
 simp?[fx,k1,ha,hp,hi,hz,dB,zae,dF,k2,Ua,hl',hz2]
end
noncomputable def Bb (s:Int)(f o b:Str):I:=⟨s,f,o,b,"",0,0,0,0,"",[],[(b,1)]⟩
noncomputable def jY (k:Nat):L3:=⟨k,k+1,k+2⟩
noncomputable def Gz (S:Cs)(s:Int)(f o b:Str):Cs:=S++[Ce.e9 "Innings" (jd (Bb s f o b) (jY S.length)),Ce.jV [],Ce.jV [(Sum.inr b,Tr.int 1)]]
noncomputable def Ll (S:Cs)(y:Ly)(s:Int)(f o b:Str):Cs:=(Gz S s f o b).set y.p (.bS (y.cs.map (λc=>Tr.hd c.i)++[Tr.hd S.length]))
theorem D3:(S++(a::r))[S.length]? = some a:=by simp
theorem sa0:(S++(a::r)).set S.length b=S++(b::r):=by
 rw[zeh _ _ (zah _),Nat.sub_self];rfl
theorem ga2:(S++(a::b::c::r))[S.length+2]? = some c:=by
 rw[zaq (by omega),show S.length+2 - S.length=2 by omega];rfl
theorem sa2:(S++(a::b::c::r)).set (S.length+2) d=S++(a::b::d::r):=by
 rw[zeh _ _ (by omega),show S.length+2 - S.length=2 by omega];rfl
theorem ala (S:Cs)(s:Int)(f o b:Str):V6 [.hd S.length,.int s,.str f,.str o,.str b] (S++[.e9 "Innings" []]) = .ok .bz (Gz S s f o b):=by
 unfold V6 Gz jd Bb jY;simp?[fx,D3,sa0,ga2,sa2,fR,lY,zba,zbv,List.foldl_nil,zeI]
section
variable {S:Cs}{m:M}{y:Ly}{n:Nat}{f9:List I}{x x':I}{ci:List L3}{c:L3}
theorem d9.lt (h:d9 S m y):∀j∈fp y,j<S.length:=by
 intro j hj;unfold fp at hj;simp only[zam,zbq] at hj;rcases hj with rfl|rfl|rfl|rfl|⟨c,hc,hj⟩
 ·exact aN h.a
 ·exact aN h.k
 ·exact aN h.p
 ·exact aN h.l
 ·obtain⟨k,hk⟩:=List.getElem?_of_mem hc
  have hk2:k<m.pl.length:=by rw[<-h.len];exact (zab.mp hk).1
  have hI:=h.mJ k m.pl[k] c (zaf hk2) hk
  simp[lP] at hj
  rcases hj with rfl|rfl|rfl
  ·exact aN hI.i
  ·exact aN hI.o
  ·exact aN hI.s
theorem d9.alb (h:d9 S m y)(s:Int)(f o b:Str):d9 (Ll S y s f o b) {m with pl:=m.pl++[Bb s f o b]} {y with cs:=y.cs++[jY S.length]}:=by
 have on:aP [y.p] S (Ll S y s f o b):=aP.trans aP.sV (aP.set (by simp))
 obtain⟨a1,a2,a3,a4,a5,a6⟩:=Wt h.nd;have jU:=h.lt;have hp:=jU y.p (by simp[fp])
 have ne:∀k,S.length<=k->y.p≠k:=λk hk z=>by omega
 refine⟨on.at h.a (by simp[a2]),on.at h.k (by simp[a4]),?_,on.at h.l (by simp[a6.symm]),by simp[h.len],?_,?_⟩
 ·unfold Ll Gz
  rw[cy (by simp;omega)]
  simp[jY]
 ·intro j z cz h1 h2
  by_cases hj:j=m.pl.length
  ·subst hj
   have q1:(m.pl++[Bb s f o b])[m.pl.length]? = some (Bb s f o b):=gj _ _
   have q2:(y.cs++[jY S.length])[m.pl.length]? = some (jY S.length):=by rw[<-h.len];exact gj _ _
   simp only at h1 h2
   rw[q1] at h1;rw[q2] at h2;cases h1;cases h2
   unfold Ll Gz;refine⟨?_,?_,?_⟩
   ·rw[cZ (k:=(jY S.length).i) (ne _ (zah _))]
    show (S++_)[S.length]? = _
    exact D3
   ·rw[cZ (k:=(jY S.length).o) (ne _ (by simp[jY]))]
    show (S++_)[S.length+1]? = _
    rw[zaq (by omega),show S.length+1 - S.length=1 by omega]
    rfl
   ·rw[cZ (k:=(jY S.length).s) (ne _ (by simp[jY]))]
    show (S++_)[S.length+2]? = _
    rw[zaq (by omega),show S.length+2 - S.length=2 by omega]
    rfl
  ·have Ip:j<m.pl.length:=by
    have:=(zab.mp h1).1
    simp at this
    omega
   simp only at h1 h2
   rw[zai Ip] at h1;rw[zai (by rw[h.len];exact Ip)] at h2
   exact h.MB on (JJ h.nd (.inr (.inr (.inl rfl)))) j z cz h1 h2
 ·show (fp {y with cs:=y.cs++[jY S.length]}).Nodup
  have e:fp {y with cs:=y.cs++[jY S.length]}=fp y++[S.length,S.length+1,S.length+2]:=by
   unfold fp;simp[lP,jY]
  rw[e,zck];refine⟨h.nd,by simp,λa ha b hb=>?_⟩
  have:=jU a ha
  simp at hb
  omega
theorem Ww (h:d9 S m y)(z:Sz m n)(hn:n<=1000)(t f o b:Str)(s:Int)(hs:A8 m t=some s):Jm [.hd y.a,(bP.dg t f o b).t] S = .ok .bz (Ll S y s f o b):=by
 unfold Jm bP.t;have e1:=aai h z hn t;rw[hs] at e1;have e2:=ala S s f o b;have ha:=h.a;have hp:=h.p;have on:aP [] S (Gz S s f o b):=aP.sV
 have hp':=on.at h.p (by simp)
 have hz2:(y.cs.length<sizeLine)=True:=jm (by have:=z.pl;rw[h.len];omega)
 unfold mF at ha;unfold Ll;generalize Gz S s f o b=S1 at *
 simp?[fx,e1,mK,ha,hp,e2,hp',zae,hz2]
theorem ape (h:d9 S m y)(z:Sz m n)(hn:n<=1000)(e1:m.pl=f9++[x])(e2:y.cs=ci++[c])(e3:ci.length=f9.length)(hx:x.en="")(e:bP)(he:e.zI=true):
  ∃S',wO [.hd y.a,e.t] S = .ok .bz S'/\d9 S' (nv m x e) y/\aP (fp y) S S':=by
 have hs:m.pl.length<=1000:=zag z.pl hn
 have hI:=h.rG e1 e2 e3;have Wv:x∈m.pl:=by rw[e1];simp
 obtain⟨d,_⟩:=DZ h.nd (c:=c) (by rw[e2];simp)
 have k1:=fX h hs;rw[tK e1 e2,if_pos hx] at k1;have ha:=h.a;have hi:=hI.i;have Xh:=aN hI.i;have onc:∀x',aP (fp y) S (kL S x' c):=λx'=>aP.kL λj hj=>by
  unfold fp;simp only[zam,zbq];exact .inr (.inr (.inr (.inr ⟨c,by rw[e2];simp,hj⟩)))
 unfold mF at ha;unfold jd at hi;unfold wO;cases e with
 |qw b =>
  have k2:=Wu h z hn e1 e2 e3 hx b;refine⟨_,?_,(d9.mj (x':=x.qv m.ru b) h e1 e2 e3).apc (m.g5++[jx m x b]),(onc _).trans (aP.set (by simp[fp]))⟩
  generalize jx m x b=r at *
  unfold bP.t;unfold B.t at *
  simp?[fx,k1,ha,k2]
 |mJ nm =>
  have k2:=afU hI d nm;refine⟨_,?_,d9.mj (x':=x.DU nm) h e1 e2 e3,onc _⟩
  unfold bP.t;simp?[fx,k1,ha,hi,k2]
 |qx nm =>
  have k2:=Wm hI d nm (zag (z.gU x Wv) hn)
  refine⟨_,?_,d9.mj (x':=x.zH nm) h e1 e2 e3,onc _⟩
  unfold bP.t;simp?[fx,k1,ha,hi,k2]
 |qy nm =>
  have k2:=JF hI d nm;refine⟨_,?_,d9.mj (x':=x.gQ nm) h e1 e2 e3,onc _⟩
  unfold bP.t;simp?[fx,k1,ha,hi,k2]
 |fW =>
  have k2:=l7 (y:={ x with en:= "declared" }) hI d rfl rfl
  refine⟨_,?_,d9.mj (x':={ x with en:= "declared" }) h e1 e2 e3,onc _⟩
  unfold bP.t;unfold jd at k2;simp?[fx,k1,ha,hi,k2]
 |dg _ _ _ _=>cases he
 |swap _ _=>cases he
 |ig=>cases he
 |l8=>cases he
noncomputable def Bc:Str:= "the rules don't let this entry: "
theorem wW:Bc.length=32:=by decide +kernel
theorem Ln (w:Str)(hw:w.length<=100)(e:Tr)(hm:S[y.a]? = some (.e9 "Match" (mF m y)))(hr:r9 [.hd y.a,e] S = .ok (.str w) S0):
  l6 [.hd y.a,e] S = .ex S0.length (S0++[.oQ "NotLet" [("rule",.str w),("number",.int 0)]]):=by
 unfold l6;unfold mF at hm;have h1:(w.length<=sizeLine)=True:=bH (by omega)
 have h2:((Str.empty++Bc).length<=sizeLine)=True:=bH (by
  rw[zcK,wW];decide)
 have h3:((Str.empty++Bc++w).length<=sizeLine)=True:=bH (by
  rw[zcK,zcK,wW];have:Str.empty.length=0:=rfl
  omega)
 unfold Bc at h2 h3;simp?[fx,hm,hr,fJ,OB,h1,h2,h3]
theorem GA (h:d9 S m y)(z:Sz m n)(e:Tr)(hr:r9 [.hd y.a,e] S = .ok .bz S0)(h0:d9 S0 m y)(hy:y1.a=y.a)(hd:wO [.hd y.a,e] S0 = .ok .bz S1)(h1:d9 S1 m1 y1)(z1:Sz m1 k)(hn:k<=1000):
  ∃S',l6 [.hd y.a,e] S = .ok .bz S'/\d9 S' (oG m1) y1/\aP (fp y1) S1 S':=by
 have ha:=h.a;have ha0:=h0.a;have NP:=h1.a;have k1:=fX h1 (zag z1.pl hn)
 rw[hy] at NP k1;unfold mF at ha ha0 NP;unfold l6;cases hg:(gX m1).isSome
 ·have eg:=gk h1.len hg
  have ef:oG m1=m1:=by
   unfold oG;cases hq:gX m1 with
   |none=>rfl
   |some x=>rw[hq] at hg;cases hg
  refine⟨S1,?_,by rw[ef];exact h1,aP.refl⟩
  simp?[fx,ha,ha0,hr,hd,NP,k1,eg]
 ·obtain⟨f9,x,ci,c,b1,b2,b3,b4,b5,b6⟩:=fP h1.len hg
  have hI:=h1.rG b1 b2 b3;obtain⟨d,_⟩:=DZ h1.nd (c:=c) (by rw[b2];simp)
  have k2:=RC h1 z1 hn b1 b2 b3;rw[hy] at k2;have k3:=l7 (y:={x with en:=Gy m1 x}) hI d rfl rfl
  have hi:=hI.i;have ef:oG m1=m1.mj {x with en:=Gy m1 x}:=by unfold oG;rw[b6]
  refine⟨kL S1 {x with en:=Gy m1 x} c,?_,by rw[ef];exact d9.mj h1 b1 b2 b3,aP.kL λj hj=>?_⟩
  ·unfold jd at hi k3
   generalize Gy m1 x=en at *
   simp?[fx,ha,ha0,hr,hd,NP,k1,b5,k2,hi,k3]
  ·unfold fp
   simp only[zam,zbq];exact .inr (.inr (.inr (.inr ⟨c,by rw[b2];simp,hj⟩)))
theorem RD (x:I)(a b:Str):(x.xF a b).outs.length<=x.outs.length+1/\(x.xF a b).gU=x.gU/\(x.xF a b).bZ=x.bZ:=by
 unfold I.xF;have hl:∀(z:I) (k:Str),(z.gQ k).outs=z.outs/\(z.gQ k).gU=z.gU/\(z.gQ k).bZ=z.bZ:=λz k=>by unfold I.gQ;split<;>exact⟨rfl,rfl,rfl⟩
 dsimp only;generalize hy:I.gQ {x with outs:=gR x.outs a,wk:=x.wk+1} a=y
 have h1:y.outs=gR x.outs a/\y.gU=x.gU/\y.bZ=x.bZ:=by rw[<-hy,(hl _ _).1,(hl _ _).2.1,(hl _ _).2.2];exact⟨rfl,rfl,rfl⟩
 have h2:y.outs.length<=x.outs.length+1:=by
  rw[h1.1];unfold gR
  split<;>simp
 split<;>split<;>exact⟨h2,h1.2⟩
theorem RE (u:U)(x:I)(b:B):(x.qv u b).outs.length<=x.outs.length+1/\(x.qv u b).gU=x.gU/\(x.qv u b).bZ=x.bZ:=by
 unfold I.qv;have hf:∀(x:I) (o:Int),(x.xG o).outs=x.outs/\(x.xG o).gU=x.gU/\(x.xG o).bZ=x.bZ:=λx o=>by unfold I.xG;split<;>exact⟨rfl,rfl,rfl⟩
 dsimp only;generalize hz:(if pH b.r b.rp=true then I.swap {x with DT:=x.DT+b.Wj u} else {x with DT:=x.DT+b.Wj u})=z
 have z1:z.outs=x.outs/\z.gU=x.gU/\z.bZ=x.bZ:=by rw[<-hz];split<;>exact⟨rfl,rfl,rfl⟩
 generalize hw:(if x.E7 b="" then z else z.xF (x.E7 b) (if b.w="run" then b.en else "strike"))=w
 have w1:w.outs.length<=x.outs.length+1/\w.gU=x.gU/\w.bZ=x.bZ:=by
  rw[<-hw,<-z1.1,<-z1.2.1,<-z1.2.2];split
  ·exact⟨zbf _,rfl,rfl⟩
  ·exact RD _ _ _
 split
 ·rw[(hf w u.o).1,(hf w u.o).2.1,(hf w u.o).2.2];exact w1
 ·exact w1
theorem zJ (l:List (Str×Int))(k:Str)(v:Int):(nh l k v).length<=l.length+1:=by unfold nh;split<;>simp
theorem Sz.mono (h:Sz m n)(hn:n<=n'):Sz m n':=⟨zag h.pl hn,zag h.kn hn,zag h.g5 hn,h.p0,h.p1,λx hx=>zag (h.outs x hx) hn,λx hx=>zag (h.gU x hx) hn,h.bZ⟩
theorem Sz.nv (z:Sz m n)(e1:m.pl=f9++[x])(e:bP):Sz (nv m x e) (n+1):=by
 have Wv:x∈m.pl:=by rw[e1];simp
 have z':=z.mono (zbf n)
 have ho:=z.outs x Wv;have hs:=z.gU x Wv;cases e with
 |qw b =>
  have q:=RE m.ru x b;have k:=z'.mj (x':=x.qv m.ru b) e1 q.2.2 (by omega) (by rw[q.2.1];omega)
  refine⟨k.pl,k.kn,?_,k.p0,k.p1,k.outs,k.gU,k.bZ⟩
  show (m.g5++[jx m x b]).length<=n+1
  have:=z.g5
  simp
  exact this
 |mJ nm=>exact z'.mj (x':=x.DU nm) e1 (by unfold I.DU;split<;>rfl) (by unfold I.DU;split<;>(show x.outs.length<=_;omega)) (by unfold I.DU;split<;>(show x.gU.length<=_;omega))
 |qx nm=>exact z'.mj (x':=x.zH nm) e1 rfl (by show x.outs.length<=_;omega) (by have:=zJ x.gU nm (ju x.gU nm+1);show (nh _ _ _).length<=_;omega)
 |qy nm=>exact z'.mj (x':=x.gQ nm) e1 (by unfold I.gQ;split<;>rfl) (by unfold I.gQ;split<;>(show x.outs.length<=_;omega)) (by unfold I.gQ;split<;>(show x.gU.length<=_;omega))
 |fW=>exact z'.mj (x':={ x with en:= "declared" }) e1 rfl (by show x.outs.length<=_;omega) (by show x.gU.length<=_;omega)
 |dg _ _ _ _=>exact z'
 |swap _ _=>exact z'
 |ig=>exact z'
 |l8=>exact z'
theorem Sz.fu (z:Sz m n):Sz (oG m) n:=by
 unfold oG;cases hg:gX m with
 |none=>exact z
 |some x =>
  rcases zco m.pl with h|⟨f9,w,h⟩
  ·unfold gX at hg;rw[h] at hg;cases hg
  ·have h:m.pl=f9++[w]:=by simpa using h
   rw[qA h] at hg;split at hg
   ·cases hg
    exact z.mj h rfl (z.outs x (by rw[h];simp)) (z.gU x (by rw[h];simp))
   ·cases hg
end
noncomputable def cH (u:U)(t0 t1:Str)(p0 p1:List Str):M:=⟨u,t0,t1,p0,p1,p0++p1,[],false,false,[]⟩
noncomputable def oU (k:Nat):Ly:=⟨k,k+1,k+2,k+3,[]⟩
noncomputable def kO (S:Cs)(m:M):Cs:=S++[Ce.e9 "Match" (mF m (oU S.length)),Ce.bS (m.kn.map .str),Ce.bS [],Ce.bS []]
theorem ga1:(S++(a::b::r))[S.length+1]? = some b:=by
 rw[zaq (by omega),show S.length+1 - S.length=1 by omega];rfl
theorem ga3:(S++(a::b::c::d::r))[S.length+3]? = some d:=by
 rw[zaq (by omega),show S.length+3 - S.length=3 by omega];rfl
theorem RG (t0 t1:Str)(p0 p1:List Str)(h0:p0.length<=11)(h1:p1.length<=11)(S:Cs):DC [aE t0 t1 p0 p1,.str "player"] S = .ok (.hd S.length) (S++[.bS ((p0++p1).map .str)]):=by
 unfold DC aE;have hl:(p0.length<=sizeLine)=True:=bH (by omega)
 have HH:(p0.length+p1.length<=sizeLine)=True:=bH (by omega)
 simp?[fx,KO,zae,zaO,hl,HH,zbW,zaj]
theorem wX (u:U)(t0 t1:Str)(p0 p1:List Str)(h0:p0.length<=11)(h1:p1.length<=11)(S:Cs):rZ [.hd S.length,u.t,aE t0 t1 p0 p1] (S++[.e9 "Match" []]) = .ok .bz (kO S (cH u t0 t1 p0 p1)):=by
 unfold rZ kO cH mF oU;have ht:=λS=>RG t0 t1 p0 p1 h0 h1 S
 have hl0:(p0.length<=sizeLine)=True:=bH (by omega)
 have Uq:(p1.length<=sizeLine)=True:=bH (by omega)
 have hz:(∀n:Nat,(n<5)=True->(n<sizeLine)=True):=λn h=>jm (by have:=of_eq_true h;omega)
 unfold aE at ht ⊢
 generalize u.t=ut at *
 simp?[fx,ht,hz,zae,hl0,Uq,D3,sa0,zba]
theorem Wx (S:Cs)(u:U)(t0 t1:Str)(p0 p1:List Str):d9 (kO S (cH u t0 t1 p0 p1)) (cH u t0 t1 p0 p1) (oU S.length):=by
 unfold kO;refine⟨D3,ga1,ga2,ga3,rfl,λj x c h=>?_,?_⟩
 ·simp[cH] at h
 ·simp[fp,oU]
theorem Wy (u:U)(t0 t1:Str)(p0 p1:List Str)(h0:p0.length<=11)(h1:p1.length<=11):Sz (cH u t0 t1 p0 p1) 22:=⟨by simp[cH],by simp[cH];omega,by simp[cH],h0,h1,λx h=>by simp[cH] at h,λx h=>by simp[cH] at h,λx h=>by simp[cH] at h⟩
noncomputable def j9 (m:M):Tr:=match gX m with
 |some x=>.tp [.str (jw m x.bZ),.str x.oF,.str x.wU,.str x.xo,.int x.DT,.int x.wk,.int x.ov,.int x.ba]
 |none=>.bz
section
variable {S:Cs}{m:M}{y:Ly}{n:Nat}
theorem JK (h:d9 S m y)(z:Sz m n)(hn:n<=1000):DG [.hd y.a] S = .ok (j9 m) S:=by
 unfold DG j9;have k1:=fX h (zag z.pl hn)
 have ha:=h.a;unfold mF aE at ha;cases hg:(gX m).isSome
 ·have eg:=gk h.len hg
  have en:gX m=none:=by
   cases hq:gX m with
   |none=>rfl
   |some x=>rw[hq] at hg;cases hg
  rw[en];refine fM (S1:=S) (t:=.bz) ?_ (zaJ ..) (by unfold o_;simp only[Im];rfl)
  simp?[fx,ha,k1,eg]
 ·obtain⟨f9,x,ci,c,b1,b2,b3,b4,b5,b6⟩:=fP h.len hg
  have hi:=(h.rG b1 b2 b3).i
  unfold jd at hi;have k5:=@nq m x.bZ (z.bZ x (by rw[b1];simp))
  rw[b6];refine fM (S1:=S) (t:=.tp [.str (jw m x.bZ),.str x.oF,.str x.wU,.str x.xo,.int x.DT,.int x.wk,.int x.ov,.int x.ba]) ?_ (zaJ ..) ?_
  ·simp?[fx,ha,hi,k1,b5,k5]
  ·unfold o_
   simp only[gf,pe,lG,qg,zaC,zaN,zaV];rfl
end
noncomputable def ny (a b n:Str):Str:=if n=a then b else n
noncomputable def Bd (a b:Str)(l:List Str):List Str:=l.foldl (λq n=>gR q (ny a b n)) []
noncomputable def GB (a b:Str)(l:List (Str×Int)):List (Str×Int):=l.foldl (λq p=>nh q (ny a b p.1) (ju l p.1)) []
theorem GC (l:List Str)(n:Str):(gR l n).length<=l.length+1:=by unfold gR;split<;>simp
theorem RH:(Bd a b l).length<=l.length:=by
 have:∀(l q:List Str),(l.foldl (λq n=>gR q (ny a b n)) q).length<=q.length+l.length:=by
  intro l;induction l with
  |nil=>intro q;simp
  |cons n r ih=>intro q;rw[zbv];have:=ih (gR q (ny a b n));have:=GC q (ny a b n);rw[FP];omega
 simpa[Bd] using this l []
theorem RI:(GB a b l).length<=l.length:=by
 have:∀(g:Str->Int) (l q:List (Str×Int)),(l.foldl (λq p=>nh q (ny a b p.1) (g p.1)) q).length<=q.length+l.length:=by
  intro g l;induction l with
  |nil=>intro q;simp
  |cons n r ih=>intro q;rw[zbv];have:=ih (nh q (ny a b n.1) (g n.1));have:=zJ q (ny a b n.1) (g n.1);rw[FP];omega
 simpa[GB] using this (ju l) l []
theorem aph (l:List Str):fR [] (l.map λn=>(Sum.inr (ny a b n),Tr.bl true))=iJ (Bd a b l):=by
 unfold fR Bd;rw[List.foldl_map];have:∀(l q:List Str),l.foldl (λx y=>lY x (Sum.inr (ny a b y):d_) (Tr.bl true)) (iJ q)=iJ (l.foldl (λq n=>gR q (ny a b n)) q):=by
  intro l;induction l with
  |nil=>intro q;rfl
  |cons n r ih=>intro q;rw[zbv,DW,ih,zbv]
 exact this l []
theorem api (l:List (Str×Int)):fR [] (l.map λp=>(Sum.inr (ny a b p.1),Tr.int (ju l p.1)))=tG (GB a b l):=by
 unfold fR GB;rw[List.foldl_map];have:∀(g:Str->Int) (l q:List (Str×Int)),l.foldl (λx y=>lY x (Sum.inr (ny a b y.1):d_) (Tr.int (g y.1))) (tG q)=tG (l.foldl (λq p=>nh q (ny a b p.1) (g p.1)) q):=by
  intro g l;induction l with
  |nil=>intro q;rfl
  |cons n r ih=>intro q;rw[zbv,JH,ih,zbv]
 exact this (ju l) l []
theorem zK {α:Type}(k:α -> Str)(v:α -> Tr):∀l:List α,rA (l.map λp=>.tp [.str (k p),v p])=some (l.map λp=>(Sum.inr (k p),v p))
 |[]=>rfl
 |p::r=>by
  rw[tu];unfold rA;rw[zK k v r];rfl
theorem aal {α:Type}{S:Cs}{k:Nat}{D:List (d_×Tr)}(hk:S[k]? = some (.jV D))(a b:Str)(L:List α)(nm:α -> Str)(vl:α -> Tr)(hD:D.map (λp=>Pa p.1)=L.map λp=>.str (nm p))(hv:∀p∈L,aR (.inr (nm p)) D=some (vl p))(hl:L.length<=1000):
  DN [.hd k,.str a,.str b] S = .ok (.hd S.length) (S.set k (.xA D)++[.jV (fR [] (L.map λp=>(Sum.inr (ny a b (nm p)),vl p)))]):=by
 unfold DN;have hf:(S.set k (.xA D))[k]? = some (.xA D):=cy (aN hk)
 generalize hS:S.set k (.xA D)=S1 at *
 simp only[Cq,gO,aJ,cC,af,gE,sM,aa,ak,iD,hk,hD,hS,R.dZ,R.fF,j6,tu,Bp,zaL,K2,FP,zaI,Nat.reduceAdd,Nat.reduceSub,zbZ,zbw,zaT,zaH,Option.join,zaX,id_eq,zau];rw[jn trivial (λτ=>∃v,τ=[some (.str b),some (.hd k),some (.str a),v]) (λp=>.str (nm p)) (λp=>.tp [.str (ny a b (nm p)),vl p]) (λ_=>true) L _ [] ⟨_,rfl⟩ ?_ (by simp;omega)]
 ·rw[K2,zdf.mpr (λ_ _=>rfl)]
  have HH:(L.map λp=>((Sum.inr (ny a b (nm p)):d_),vl p)).length<=1000:=by simpa using hl
  have hL1:S1.length=S.length:=by rw[<-hS];simp
  simp only[R.dZ,AK,Cd,zK (λp=>ny a b (nm p)) vl,R.fF,uD,if_pos HH,hL1]
 ·rintro p hp τ ⟨v,rfl⟩
  refine⟨[some (.str b),some (.hd k),some (.str a),some (.str (nm p))],⟨_,rfl⟩,rfl,rfl,λ_=>?_⟩
  have h1:=hv p hp;unfold ny;by_cases h:nm p=a
  ·rw[if_pos h]
   rw[h] at h1;simp?[h,O9,O8,hf,zcy,h1]
  ·rw[if_neg h]
   simp?[h,O9,O8,hf,zcy,h1]
theorem Lo (h:k∈l):aR (.inr k) (iJ l)=some (.bl true):=by
 have h1:=kM (k:=k) (l:=l)
 rw[decide_eq_true h] at h1;obtain⟨t,e⟩:=zbT.mp h1;rw[e];have:∀l:List Str,aR (.inr k) (iJ l)=some t->t = .bl true:=by
  intro l;induction l with
  |nil=>intro q;cases q
  |cons a r ih =>
   intro q;unfold iJ at q;rw[tu] at q;unfold aR at q;split at q
   ·cases q;rfl
   ·exact ih q
 rw[this l e]
theorem RJ:∀p∈l,aR (.inr p.1) (tG l)=some (.int (ju l p.1)):=by
 induction l with
 |nil=>intro p h;cases h
 |cons a r ih =>
  intro p h;unfold tG;rw[tu];obtain⟨k,v⟩:=a;unfold aR ju;by_cases e:k=p.1
  ·rw[if_pos (by rw[e]),if_pos e]
  ·rw[if_neg (λz=>e (zdl z)),if_neg e]
   rcases zam.mp h with rfl|h
   ·exact absurd rfl e
   ·exact ih p h
noncomputable def I.ny (x:I)(a b:Str):I:={x with ahe:=My.ny a b x.ahe,outs:=Bd a b x.outs,gU:=GB a b x.gU}
section
variable {S:Cs}{x:I}{c:L3}
theorem RL (h:ie S x c)(d:Dj c)(a b:Str)(ho:x.outs.length<=1000)(hs:x.gU.length<=1000):
  ∃S',Jy [.hd c.i,.str a,.str b] S = .ok .bz S'/\ie S' (x.ny a b) ⟨c.i,S.length,S.length+1⟩/\aP (lP c) S S':=by
 have k1:=aal h.o a b x.outs id (λ_=>.bl true) (by unfold iJ;rw[zby];rfl) (λp hp=>Lo hp) ho
 simp only[id] at k1;rw[aph] at k1;have hi:=h.i;have lo:=aN h.o;have li:=aN h.i;have ls:=aN h.s;generalize hS1:S.set c.o (.xA (iJ x.outs))++[.jV (iJ (Bd a b x.outs))]=S1 at *
 have on1:aP (lP c) S S1:=by rw[<-hS1];exact (aP.set (by simp[lP])).trans aP.sV
 have l1:S1.length=S.length+1:=by rw[<-hS1];simp
 have i1:S1[c.i]? = some (.e9 "Innings" (jd x c)):=by
  rw[<-hS1,zai (by simpa using li),cZ d.io.symm];exact hi
 have s1:S1[c.s]? = some (.jV (tG x.gU)):=by
  rw[<-hS1,zai (by simpa using ls),cZ d.os];exact h.s
 have o1:S1[S.length]? = some (.jV (iJ (Bd a b x.outs))):=by
  rw[<-hS1,zaq (by simp)];simp
 generalize B8:S1.set c.i (.e9 "Innings" (jd x ⟨c.i,S.length,c.s⟩))=S2 at *
 have on2:aP (lP c) S S2:=by rw[<-B8];exact on1.trans (aP.set (by simp[lP]))
 have l2:S2.length=S.length+1:=by rw[<-B8];simpa using l1
 have i2:S2[c.i]? = some (.e9 "Innings" (jd x ⟨c.i,S.length,c.s⟩)):=by rw[<-B8];exact cy (by omega)
 have s2:S2[c.s]? = some (.jV (tG x.gU)):=by rw[<-B8,cZ d.is];exact s1
 have o2:S2[S.length]? = some (.jV (iJ (Bd a b x.outs))):=by rw[<-B8,cZ (by omega)];exact o1
 have k2:=aal s2 a b x.gU (·.1) (λp=>.int (ju x.gU p.1)) (by unfold tG;rw[zby];rfl) RJ hs
 rw[api,l2] at k2;generalize hS3:S2.set c.s (.xA (tG x.gU))++[.jV (tG (GB a b x.gU))]=S3 at *
 have on3:aP (lP c) S S3:=by rw[<-hS3];exact on2.trans ((aP.set (by simp[lP])).trans aP.sV)
 have l3:S3.length=S.length+2:=by rw[<-hS3];simp[l2]
 have i3:S3[c.i]? = some (.e9 "Innings" (jd x ⟨c.i,S.length,c.s⟩)):=by
  rw[<-hS3,zai (by simp;omega),cZ d.is.symm];exact i2
 have o3:S3[S.length]? = some (.jV (iJ (Bd a b x.outs))):=by
  rw[<-hS3,zai (by simp;omega),cZ (by omega)];exact o2
 have s3:S3[S.length+1]? = some (.jV (tG (GB a b x.gU))):=by
  rw[<-hS3,zaq (by simp;omega)];simp[l2]
 have li3:c.i<S3.length:=by omega
 refine⟨S3.set c.i (.e9 "Innings" (jd (x.ny a b) ⟨c.i,S.length,S.length+1⟩)),?_,⟨cy li3,by rw[cZ (by show ¬ c.i=S.length;omega)];exact o3,by rw[cZ (by show ¬ c.i=S.length+1;omega)];exact s3⟩,on3.trans (aP.set (by simp[lP]))⟩
 unfold Jy I.ny ny;unfold jd at hi i1 B8 i2 i3 ⊢
 by_cases hh:x.ahe=a
 ·subst hh
  simp?[fx,hi,k1,i1,B8,i2,k2,i3,cy li3,eY]
 ·simp?[fx,hi,k1,i1,B8,i2,k2,i3,hh,cy li3,eY]
end
theorem aam (ps:List Str)(a b:Str)(S:Cs)(hl:ps.length<=1000):Jx [.ls (ps.map .str),.str a,.str b] S = .ok (.ls ((ps.map (ny a b)).map .str)) S:=by
 unfold Jx;simp only[Cq,gO,aJ,gE,sM,aa,iL,Fl,R.dZ,R.fF,j6,tu,Bp,zaL,K2,FP,zaI,Nat.reduceAdd,Nat.reduceSub,zbZ,zbw,zaT,zaH,Option.join,zaX,id_eq,zau];rw[jn trivial (λτ=>∃v,τ=[some (.str b),some (.str a),v]) (λn=>.str n) (λn=>.str (ny a b n)) (λ_=>true) ps _ [] ⟨_,rfl⟩ ?_ (by simp;omega)]
 ·rw[K2,zdf.mpr (λ_ _=>rfl),zby]
  simp only[R.dZ,R.fF,uD];rfl
 ·rintro n hn τ ⟨v,rfl⟩
  refine⟨[some (.str b),some (.str a),some (.str n)],⟨_,rfl⟩,rfl,rfl,λ_=>?_⟩
  unfold ny;by_cases h:n=a<;>simp?[h]
section
variable {S:Cs}{m:M}{y:Ly}{n:Nat}{f9:List I}{x x':I}{ci:List L3}{c:L3}
theorem d9.rcd (h:d9 S m y)(m1:M)(hp:m1.pl=m.pl)(hl:m1.g5=m.g5):d9 ((S.set y.k (.bS (m1.kn.map .str))).set y.a (.e9 "Match" (mF m1 y))) m1 y:=by
 obtain⟨a1,a2,a3,a4,a5,a6⟩:=Wt h.nd;have l1:=aN h.a;have l2:=aN h.k;refine⟨cy (by simpa using l1),by rw[cZ a1];exact cy l2,by rw[cZ a2,cZ a4];exact h.p,by rw[cZ a3,cZ a5,hl];exact h.l,by rw[hp];exact h.len,λj x c h1 h2=>?_,h.nd⟩
 rw[hp] at h1;have hc:=zax h2
 exact (h.mJ j x c h1 h2).only (F:=[y.k,y.a]) ((aP.set (by simp)).trans (aP.set (by simp))) λk hk q=>by
  rcases zam.mp q with rfl|q
  ·exact JJ h.nd (.inr (.inl rfl)) c hc hk
  ·rw[zav] at q
   subst q;exact JJ h.nd (.inl rfl) c hc hk
theorem d9.apk (h:d9 S m y)(e1:m.pl=f9++[x])(e2:y.cs=ci++[c])(e3:ci.length=f9.length)(on:aP (lP c) S S')(hI:ie S' x' ⟨c.i,S.length,S.length+1⟩):d9 S' (m.mj x') {y with cs:=ci++[⟨c.i,S.length,S.length+1⟩]}:=by
 obtain⟨d,a1,a2,a3,a4,b1,b2,b3,b4,c1,c2,c3,c4⟩:=DZ h.nd (c:=c) (by rw[e2];simp)
 have nm:∀j,j≠c.i->j≠c.o->j≠c.s->j∉lP c:=λj h1 h2 h3 q=>by simp[lP] at q;rcases q with q|q|q;exact h1 q;exact h2 q;exact h3 q
 have ep:(m.mj x').pl=f9++[x']:=by unfold M.mj;simp[e1]
 refine⟨on.at h.a (nm _ a1.symm b1.symm c1.symm),on.at h.k (nm _ a2.symm b2.symm c2.symm),?_,on.at h.l (nm _ a4.symm b4.symm c4.symm),?_,?_,?_⟩
 ·have:=on.at h.p (nm _ a3.symm b3.symm c3.symm)
  rw[e2] at this;rw[this];simp
 ·rw[ep];simp[e3]
 ·intro j z cz h1 h2
  rw[ep] at h1;by_cases hj:j=f9.length
  ·subst hj
   rw[gj] at h1;rw[<-e3,gj] at h2;cases h1;cases h2
   exact hI
  ·have Ip:j<f9.length:=by
    have:=(zab.mp h1).1
    simp at this
    omega
   rw[zai Ip] at h1;rw[zai (by omega)] at h2
   have Ic:y.cs[j]? = some cz:=by rw[e2,zai (by omega)];exact h2
   refine (h.mJ j z cz (by rw[e1,zai Ip];exact h1) Ic).only on (Ba (aak h.nd) Ic (k:=f9.length) (by rw[e2,<-e3,gj]) hj)
 ·have jU:=h.lt
  have nd:=h.nd;have f1:fp y=(y.a::y.k::y.p::y.l::ci.flatMap lP++[c.i])++[c.o,c.s]:=by unfold fp;rw[e2];simp[lP]
  have f2:fp {y with cs:=ci++[⟨c.i,S.length,S.length+1⟩]}=(y.a::y.k::y.p::y.l::ci.flatMap lP++[c.i])++[S.length,S.length+1]:=by unfold fp;simp[lP]
  rw[f2];rw[f1] at nd jU;generalize (y.a::y.k::y.p::y.l::ci.flatMap lP++[c.i])=L at *
  refine zck.mpr ⟨(zck.mp nd).1,by simp,λj hj k hk=>?_⟩
  have:=jU j (zbP _ hj)
  simp at hk
  omega
noncomputable def xH (m:M)(a b:Str):M:={m with kn:=m.kn++[b],p0:=m.p0.map (ny a b),p1:=m.p1.map (ny a b)}
noncomputable def GD (m:M)(a b:Str):M:=match gX m with|some x=>(xH m a b).mj (x.ny a b)|none=>xH m a b
theorem Wz (h:d9 S m y)(z:Sz m n)(hn:n+1<=1000)(a b:Str):
  ∃S' y',Jz [.hd y.a,.str a,.str b] S = .ok .bz S'/\d9 S' (GD m a b) y'/\aP (fp y) S S'/\y'.a=y.a/\∀j∈fp y',j∈fp y\/S.length<=j:=by
 have hM:=h.rcd (xH m a b) rfl rfl
 have ha:=h.a;have hk:=h.k;have la:=aN ha;have k1:=fX hM (zag z.pl (by omega))
 obtain⟨a1,_⟩:=Wt h.nd;have hz:(m.kn.length<sizeLine)=True:=jm (by have:=z.kn;omega)
 have w0:=λS=>aam m.p0 a b S (by have:=z.p0;omega)
 have w1:=λS=>aam m.p1 a b S (by have:=z.p1;omega)
 have hk2:((xH m a b).kn.map Tr.str)=m.kn.map .str++[.str b]:=by simp[xH]
 have on:aP (fp y) S ((S.set y.k (.bS ((xH m a b).kn.map .str))).set y.a (.e9 "Match" (mF (xH m a b) y))):=(aP.set (by simp[fp])).trans (aP.set (by simp[fp]))
 have dB:((S.set y.k (.bS ((xH m a b).kn.map .str))).set y.a (.e9 "Match" (mF (xH m a b) y))).length=S.length:=by simp
 have e0:(S.set y.k (.bS (m.kn.map .str++[.str b])))[y.a]? = some (.e9 "Match" (mF m y)):=by rw[cZ a1.symm];exact ha
 rw[hk2] at hM k1 on dB;have hMa:=hM.a;generalize B8:(S.set y.k (.bS (m.kn.map .str++[.str b]))).set y.a (.e9 "Match" (mF (xH m a b) y))=S2 at *
 have hgo:gX (xH m a b)=gX m:=rfl
 have hgt:RA (xH m a b) y=RA m y:=rfl
 unfold Jz GD;cases hg:(gX m).isSome
 ·have eg:=gk h.len hg
  have en:gX m=none:=by
   cases hq:gX m with
   |none=>rfl
   |some x=>rw[hq] at hg;cases hg
  rw[en];rw[hgt,eg] at k1;refine⟨S2,y,?_,hM,on,rfl,λj hj=>.inl hj⟩
  unfold mF xH aE at *
  simp?[fx,ha,hk,hz,e0,w0,w1,AH,B8,hMa,k1]
 ·obtain⟨f9,x,ci,c,b1,b2,b3,b4,b5,b6⟩:=fP h.len hg
  have hI:=hM.rG (x:=x) b1 b2 b3
  obtain⟨d,_⟩:=DZ h.nd (c:=c) (by rw[b2];simp)
  have Wv:x∈m.pl:=by rw[b1];simp
  obtain⟨S3,k2,k3,k4⟩:=RL hI d a b (zag (z.outs x Wv) (by omega)) (zag (z.gU x Wv) (by omega))
  have hi:=hI.i;rw[b6];rw[hgt,b5] at k1;refine⟨S3,_,?_,d9.apk hM b1 b2 b3 k4 k3,on.trans (k4.mono λj hj=>?_),rfl,λj hj=>?_⟩
  ·unfold mF xH aE jd at *
   simp?[fx,ha,hk,hz,e0,w0,w1,AH,B8,hMa,k1,hi,k2]
  ·unfold fp
   simp only[zam,zbq];exact .inr (.inr (.inr (.inr ⟨c,by rw[b2];simp,hj⟩)))
  ·rw[dB] at hj
   simp only[fp,zam,List.flatMap_append,zbd,zdC,List.flatMap_nil,lP,zay,or_false,b2] at hj ⊢
   rcases hj with q|q|q|q|q|q|q|q
   ·exact .inl (.inl q)
   ·exact .inl (.inr (.inl q))
   ·exact .inl (.inr (.inr (.inl q)))
   ·exact .inl (.inr (.inr (.inr (.inl q))))
   ·exact .inl (.inr (.inr (.inr (.inr (.inl q)))))
   ·exact .inl (.inr (.inr (.inr (.inr (.inr (.inl q))))))
   ·exact .inr (by omega)
   ·exact .inr (by omega)
noncomputable def Sw (m:M):M:={m with clo:=true}
noncomputable def GF (m:M):M:=match gX m with|some x=>(Sw m).mj { x with en:= "closed" } | none=>Sw m
theorem d9.alh (h:d9 S m y)(m1:M)(hp:m1.pl=m.pl)(hl:m1.g5=m.g5)(hk:m1.kn=m.kn):d9 (S.set y.a (.e9 "Match" (mF m1 y))) m1 y:=by
 have:=h.rcd m1 hp hl
 rw[hk,jo h.k] at this;exact this
theorem WA (h:d9 S m y)(z:Sz m n)(hn:n<=1000):∃S',JA [.hd y.a] S = .ok .bz S'/\d9 S' (GF m) y/\aP (fp y) S S':=by
 have hM:=h.alh (Sw m) rfl rfl rfl
 have ha:=h.a;have la:=aN ha;have k1:=fX hM (zag z.pl (by omega))
 have on:aP (fp y) S (S.set y.a (.e9 "Match" (mF (Sw m) y))):=aP.set (by simp[fp])
 have hMa:=hM.a;generalize B8:S.set y.a (.e9 "Match" (mF (Sw m) y))=S2 at *
 have hgt:RA (Sw m) y=RA m y:=rfl
 unfold JA GF;cases hg:(gX m).isSome
 ·have eg:=gk h.len hg
  have en:gX m=none:=by
   cases hq:gX m with
   |none=>rfl
   |some x=>rw[hq] at hg;cases hg
  rw[en];rw[hgt,eg] at k1;refine⟨S2,?_,hM,on⟩
  unfold mF Sw at *
  simp?[fx,ha,B8,hMa,k1]
 ·obtain⟨f9,x,ci,c,b1,b2,b3,b4,b5,b6⟩:=fP h.len hg
  have hI:=hM.rG (x:=x) b1 b2 b3
  obtain⟨d,_⟩:=DZ h.nd (c:=c) (by rw[b2];simp)
  have k3:=l7 (y:={ x with en:= "closed" }) hI d rfl rfl
  have hi:=hI.i;rw[b6];rw[hgt,b5] at k1;refine⟨_,?_,d9.mj (x':={ x with en:= "closed" }) hM b1 b2 b3,on.trans (aP.kL λj hj=>?_)⟩
  ·unfold mF Sw jd at *
   simp?[fx,ha,B8,hMa,k1,hi,k3]
  ·unfold fp
   simp only[zam,zbq];exact .inr (.inr (.inr (.inr ⟨c,by rw[b2];simp,hj⟩)))
noncomputable def tL (m:M)(a b:Str):Option Str:=if a∉m.p0++m.p1 then some "team" else if b∈m.kn then some "name" else match gX m with|none=>none|some x=>if x.eZ a=true\/a=x.xo then some "there" else none
theorem Lp (h:d9 S m y)(z:Sz m n)(hn:n<=1000)(a b:Str):Jc [.hd y.a,.str a,.str b] S = .ok (dN (tL m a b)) (S++[.bS ((m.p0++m.p1).map .str)]):=by
 unfold Jc tL;have k1:=RG m.t0 m.t1 m.p0 m.p1 z.p0 z.p1 S;have h':d9 (S++[.bS ((m.p0++m.p1).map .str)]) m y:=h.only (F:=[]) aP.sV (by simp)
 have k2:=fX h' (zag z.pl hn)
 have hL:(S++[Ce.bS ((m.p0++m.p1).map .str)])[S.length]? = some (.bS ((m.p0++m.p1).map .str)):=D3
 generalize S++[.bS ((m.p0++m.p1).map .str)]=S1 at *
 have ha:=h.a;have Ua:=h'.a;have hk':=h'.k;unfold mF at ha Ua;by_cases h1:a∈m.p0++m.p1
 ·by_cases h2:b∈m.kn
  ·simp?[fx,ha,k1,hL,Ua,hk',gA,cK,gz,h1,h2,dN]
  ·cases hg:(gX m).isSome
   ·have eg:=gk h.len hg
    have en:gX m=none:=by
     cases hq:gX m with
     |none=>rfl
     |some x=>rw[hq] at hg;cases hg
    simp?[fx,ha,k1,k2,hL,Ua,hk',gA,cK,gz,h1,h2,en,eg,dN]
   ·obtain⟨f9,x,ci,c,b1,b2,b3,b4,b5,b6⟩:=fP h.len hg
    have hI:=h'.rG b1 b2 b3;have k3:=kN hI a;have hi:=hI.i;unfold jd at hi;have k4:Jb [.hd c.i,.str a] S1 = .ok (dN (if x.eZ a=true\/a=x.xo then some "there" else none)) S1:=by
     unfold Jb;cases h3:x.eZ a
     ·by_cases h4:a=x.xo
      ·subst h4;simp?[fx,hi,k3,h3,dN]
      ·simp?[fx,hi,k3,h3,h4,dN]
     ·simp?[fx,hi,k3,h3,dN]
    generalize hr:(if x.eZ a=true\/a=x.xo then some ("there" : Str) else none)=r at *
    simp?[fx,ha,k1,k2,hL,Ua,hk',gA,cK,gz,h1,h2,b5,b6,k4,hr]
 ·simp?[fx,ha,k1,hL,gA,cK,gz,h1,dN]
noncomputable def Be (m:M):Int:=match m.pl with|x::_=>x.bZ|[]=>0
noncomputable def WB (m:M):Bool:=if m.pl.length=2/\2 * m.ru.i=4/\m.fol=false then decide (0<m.ru.f/\m.ru.f<=l9 m (Be m)) else false
noncomputable def nZ (m:M):Option Str:=if (gX m).isSome=true then some "going" else if WB m=true then none else some "follow"
theorem ali (h:d9 S m y)(z:Sz m n)(hn:n<=1000):Jd [.hd y.a] S = .ok (.bl (WB m)) S:=by
 unfold Jd WB;have hs:m.pl.length<=1000:=zag z.pl hn
 have k1:=Gv h;have k2:=λs=>A9 h s hs
 have ha:=h.a;have hp:=h.p;have hz:(y.cs.length<=sizeLine)=True:=bH (by rw[h.len];omega)
 unfold mF U.t at ha;by_cases h2:m.pl.length=2
 ·have Ic:((y.cs.length:Int)=2)=True:=eq_true (by rw[h.len,h2];rfl)
  by_cases h4:2 * m.ru.i=4
  ·cases hf:m.fol
   ·have dB:=h.len
    cases hpl:m.pl with
    |nil=>rw[hpl] at h2;cases h2
    |cons x r =>
     cases hcs:y.cs with
     |nil=>rw[hcs,hpl] at dB;cases dB
     |cons c q =>
      have hi:=(h.mJ 0 x c (by rw[hpl];rfl) (by rw[hcs];rfl)).i
      unfold jd at hi;have hl:Be m=x.bZ:=by unfold Be;rw[hpl]
      rw[hcs] at hp Ic hz;rw[hpl] at h2;rw[FP] at h2 Ic hz;rw[tu] at hp;have Wr:((q.map λc:L3=>Tr.hd c.i).length+1<=sizeLine)=True:=by rw[zae];exact hz
      have apm:(((q.map λc:L3=>Tr.hd c.i).length+1:Nat):Int)=2:=by rw[zae];exact of_eq_true Ic
      by_cases h5:0<m.ru.f<;>by_cases h6:m.ru.f<=l9 m x.bZ <;>
      simp?[fx,ha,hp,hi,hf,k1,k2,h4,h2,hl,hz,Wr,Ic,apm,h5,h6,FP,zae,Bl,So,Fo,hpl]
   ·simp?[fx,ha,hp,hf,k1,h4,h2,hz,Ic,zae]
  ·simp?[fx,ha,hp,k1,h4,h2,hz,Ic,zae]
 ·have Ic:((y.cs.length:Int)=2)=False:=eq_false (by rw[h.len];omega)
  simp?[fx,ha,hp,h2,hz,Ic,zae]
theorem D4 (h:d9 S m y)(z:Sz m n)(hn:n<=1000):Je [.hd y.a] S = .ok (dN (nZ m)) S:=by
 unfold Je nZ;have k1:=fX h (zag z.pl hn)
 have k2:=ali h z hn;have ha:=h.a;unfold mF at ha;cases hg:(gX m).isSome
 ·have eg:=gk h.len hg
  cases hm:WB m<;>simp?[fx,ha,k1,k2,eg,hm,dN]
 ·obtain⟨f9,x,ci,c,b1,b2,b3,b4,b5,b6⟩:=fP h.len hg
  simp?[fx,ha,k1,b5,dN]
end
noncomputable def iK (m:M)(e:bP):Option Str:=if l_ m=true then some "done" else match e with
 |.dg t f o b=>nu m t f o b
 |.swap a b=>tL m a b
 |.ig=>nZ m
 |.l8=>none
 |e=>eF m e
noncomputable def WC (m:M)(s:Int)(f o b:Str):M:={m with pl:=m.pl++[Bb s f o b]}
noncomputable def RM (m:M)(e:bP):M:=match e with
 |.dg t f o b=>WC m ((A8 m t).getD 0) f o b
 |.swap a b=>GD m a b
 |.ig=>{m with fol:=true}
 |.l8=>GF m
 |e=>match gX m with|some x=>nv m x e|none=>m
noncomputable def iM (m:M)(e:bP):M:=oG (RM m e)
theorem B.Lq {b:B}{w:Str}(h:b.zG=some w):0<w.length/\w.length<=100:=by
 unfold B.zG at h;split at h
 ·cases h;decide +kernel
 ·split at h
  ·cases h
  ·cases h;decide +kernel
theorem gS (h:eF m e=some w):0<w.length/\w.length<=100:=by
 unfold eF at h;cases hg:gX m with
 |none=>rw[hg] at h;cases h;decide +kernel
 |some x =>
  rw[hg] at h;cases e with
  |qw b =>
   change x.nY b=some w at h
   unfold I.nY at h;repeat' split at h
   all_goals first | (cases h;done) | (cases h;decide +kernel) | (cases h;rename_i q;exact B.Lq q)
  |mJ k =>
   change x.wV _ k=some w at h
   unfold I.wV at h;repeat' split at h
   all_goals first | (cases h;done) | (cases h;decide +kernel)
  |qx k =>
   change x.qz _ _ k=some w at h
   unfold I.qz at h;repeat' split at h
   all_goals first | (cases h;done) | (cases h;decide +kernel)
  |qy k =>
   change (if x.eZ k=true then none else some ("who" : Str))=some w at h
   split at h
   ·cases h
   ·cases h;decide +kernel
  |dg _ _ _ _=>cases h
  |swap _ _=>cases h
  |fW=>cases h
  |ig=>cases h
  |l8=>cases h
theorem D5 (h:iK m e=some w):0<w.length/\w.length<=100:=by
 unfold iK at h;split at h
 ·cases h;decide +kernel
 ·cases e with
  |dg t f o b =>
   simp only at h;unfold nu at h
   repeat' split at h
   all_goals first | (cases h;done) | (cases h;decide +kernel)
  |swap a b =>
   simp only at h;unfold tL at h
   repeat' split at h
   all_goals first | (cases h;done) | (cases h;decide +kernel)
  |ig =>
   simp only at h;unfold nZ at h
   repeat' split at h
   all_goals first | (cases h;done) | (cases h;decide +kernel)
  |l8=>cases h
  |qw b=>exact gS h
  |mJ k=>exact gS h
  |qx k=>exact gS h
  |qy k=>exact gS h
  |fW=>exact gS h
section
variable {S:Cs}{m:M}{y:Ly}{n:Nat}
theorem aan (h:d9 S m y)(z:Sz m n)(hn:n<=1000)(e:bP):∃G,r9 [.hd y.a,e.t] S = .ok (dN (iK m e)) (S++G):=by
 by_cases hi:e.zI=true
 ·refine⟨[],?_⟩
  rw[D0 h z hn e hi,zau];unfold iK;cases e<;>first|rfl | (cases hi;done)
 ·have k1:=A_ h z hn
  have ha:=h.a;unfold r9 iK;unfold mF at ha;cases hd:l_ m
  ·cases e with
   |dg t f o b =>
    refine⟨[],?_⟩
    have k2:=Gw h z hn t f o b;unfold bP.t at *
    simp?[fx,ha,k1,hd,k2,zau]
   |swap a b =>
    refine⟨[.bS ((m.p0++m.p1).map .str)],?_⟩
    have k2:=Lp h z hn a b;unfold bP.t at *
    simp?[fx,ha,k1,hd,k2]
   |ig =>
    refine⟨[],?_⟩
    have k2:=D4 h z hn;unfold bP.t at *
    simp?[fx,ha,k1,hd,k2,zau]
   |l8 =>
    refine⟨[],?_⟩
    unfold bP.t at *
    simp?[fx,ha,k1,hd,zau,dN]
   |qw _=>exact absurd rfl hi
   |mJ _=>exact absurd rfl hi
   |qx _=>exact absurd rfl hi
   |qy _=>exact absurd rfl hi
   |fW=>exact absurd rfl hi
  ·refine⟨[],?_⟩
   simp?[fx,ha,k1,hd,zau,dN]
theorem Sz.beg (z:Sz m n)(hs:s=0\/s=1)(hn:1<=n+1)(f o b:Str):Sz (WC m s f o b) (n+1):=by
 have z':=z.mono (zbf n)
 have hm:∀w∈(WC m s f o b).pl,w∈m.pl\/w=Bb s f o b:=λw hw=>by
  rcases zbd.mp (show w∈m.pl++[Bb s f o b] from hw) with q|q
  ·exact .inl q
  ·exact .inr (by simpa using q)
 refine⟨?_,z'.kn,z'.g5,z'.p0,z'.p1,λw hw=>?_,λw hw=>?_,λw hw=>?_⟩
 ·show (m.pl++[Bb s f o b]).length<=n+1
  have:=z.pl
  simp;exact this
 ·rcases hm w hw with q|rfl
  ·exact z'.outs w q
  ·show 0<=_;omega
 ·rcases hm w hw with q|rfl
  ·exact z'.gU w q
  ·show 1<=_;omega
 ·rcases hm w hw with q|rfl
  ·exact z'.bZ w q
  ·exact hs
theorem JL (hg:gX m=some x):∃f9,m.pl=f9++[x]/\x.en="" := by
 rcases zco m.pl with h|⟨f9,w,h⟩
 ·unfold gX at hg;rw[h] at hg;cases hg
 ·have h:m.pl=f9++[w]:=by simpa using h
  rw[qA h] at hg;split at hg
  ·cases hg;exact⟨f9,h,by assumption⟩
  ·cases hg
theorem Sz.xH (z:Sz m n)(a b:Str):Sz (xH m a b) (n+1):=by
 have z':=z.mono (zbf n)
 exact⟨z'.pl,by have:=z.kn;simp[My.xH];omega,z'.g5,by have:=z.p0;simpa[My.xH] using this,by have:=z.p1;simpa[My.xH] using this,z'.outs,z'.gU,z'.bZ⟩
theorem Sz.sw (z:Sz m n)(a b:Str):Sz (GD m a b) (n+1):=by
 unfold GD;cases hg:gX m with
 |none=>exact z.xH a b
 |some x =>
  obtain⟨f9,e,_⟩:=JL hg;have hx:x∈m.pl:=by rw[e];simp
  have h1:=z.outs x hx;have h2:=z.gU x hx;exact (z.xH a b).mj (x:=x) (x':=x.ny a b) e rfl (zag RH (by omega)) (zag RI (by omega))
theorem Sz.cl (z:Sz m n):Sz (GF m) n:=by
 unfold GF;have zb:Sz (Sw m) n:=⟨z.pl,z.kn,z.g5,z.p0,z.p1,z.outs,z.gU,z.bZ⟩
 cases hg:gX m with
 |none=>exact zb
 |some x =>
  obtain⟨f9,e,_⟩:=JL hg;have hx:x∈m.pl:=by rw[e];simp
  exact zb.mj (x:=x) (x':={ x with en:= "closed" }) e rfl (z.outs x hx) (z.gU x hx)
structure RN (S:Cs) (y:Ly) (S':Cs) (m':M) (y':Ly):Prop where
 zL:d9 S' m' y'
 on:aP (fp y) S S'
 a:y'.a=y.a
 fp:∀j∈fp y',j∈My.fp y\/S.length<=j
theorem alj (h:d9 S m y)(z:Sz m n)(hn:n+1<=1000)(e:bP)(hr:iK m e=none):∃S' y',wO [.hd y.a,e.t] S = .ok .bz S'/\RN S y S' (RM m e) y'/\Sz (RM m e) (n+1):=by
 have ha:=h.a;unfold mF at ha;have k1:=fX h (zag z.pl (by omega))
 by_cases hi:e.zI=true
 ·have ow:eF m e=none:=by
   unfold iK at hr;split at hr
   ·cases hr
   ·cases e<;>first|exact hr | (cases hi;done)
  unfold eF at ow;cases hg:gX m with
  |none=>rw[hg] at ow;cases ow
  |some x =>
   obtain⟨f9,x2,ci,c,b1,b2,b3,b4,b5,b6⟩:=fP h.len (by rw[hg];rfl)
   rw[hg] at b6;cases b6;obtain⟨S1,k2,k3,k4⟩:=ape h z (by omega) b1 b2 b3 b4 e hi
   have ed:RM m e=nv m x e:=by unfold RM;rw[hg];cases e<;>first|rfl | (cases hi;done)
   rw[ed];exact⟨S1,y,k2,⟨k3,k4,rfl,λj hj=>.inl hj⟩,z.nv b1 e⟩
 ·unfold iK at hr
  split at hr
  ·cases hr
  ·unfold wO
   cases e with
   |dg t f o b =>
    simp only at hr
    unfold nu at hr;split at hr
    ·cases hr
    ·rename_i hgo
     cases hs:A8 m t with
     |none=>rw[hs] at hr;cases hr
     |some s =>
      have k4:=Ww h z (by omega) t f o b s hs
      have hM:=h.alb s f o b;have ed:RM m (.dg t f o b)=WC m s f o b:=by unfold RM;simp only;rw[hs];rfl
      rw[ed];refine⟨_,_,?_,⟨hM,aP.trans aP.sV (aP.set (by simp[fp])),rfl,λj hj=>?_⟩,z.beg (aaj hs) (by omega) f o b⟩
      ·unfold bP.t at *
       simp?[fx,ha,k4,k1]
      ·have Xb:fp {y with cs:=y.cs++[jY S.length]}=fp y++[S.length,S.length+1,S.length+2]:=by
        unfold fp;simp[lP,jY]
       rw[Xb] at hj;rcases zbd.mp hj with q|q
       ·exact .inl q
       ·simp at q;exact .inr (by omega)
   |swap a b =>
    obtain⟨S',y',k2,k3,k4,k5,k6⟩:=Wz h z hn a b;refine⟨S',y',?_,⟨k3,k4,k5,k6⟩,z.sw a b⟩
    unfold bP.t;simp?[fx,ha,k1,k2]
   |ig =>
    have hM:=h.alh {m with fol:=true} rfl rfl rfl
    refine⟨_,y,?_,⟨hM,aP.set (by simp[fp]),rfl,λj hj=>.inl hj⟩,(show Sz {m with fol:=true} (n+1) from let z':=z.mono (zbf n);⟨z'.pl,z'.kn,z'.g5,z'.p0,z'.p1,z'.outs,z'.gU,z'.bZ⟩)⟩
    unfold bP.t mF;simp?[fx,ha,k1]
   |l8 =>
    obtain⟨S',k2,k3,k4⟩:=WA h z (by omega)
    refine⟨S',y,?_,⟨k3,k4,rfl,λj hj=>.inl hj⟩,z.cl.mono (zbf n)⟩
    unfold bP.t;simp?[fx,ha,k1,k2]
   |qw _=>exact absurd rfl hi
   |mJ _=>exact absurd rfl hi
   |qx _=>exact absurd rfl hi
   |qy _=>exact absurd rfl hi
   |fW=>exact absurd rfl hi
theorem aP.fresh (a:aP F S S')(b:aP F' S' S'')(h:∀j∈F',j∈F\/S.length<=j):aP F S S'':=⟨zag a.1 b.1,λj h1 h2=>by
 rw[b.2 j (zak h1 a.1) λq=>(h j q).elim h2 λk=>by omega,a.2 j h1 h2]⟩
theorem Bf (h:d9 S m y)(z:Sz m n)(hn:n+1<=1000)(e:bP)(hr:iK m e=none):∃S' y',l6 [.hd y.a,e.t] S = .ok .bz S'/\RN S y S' (iM m e) y'/\Sz (iM m e) (n+1):=by
 obtain⟨G,k1⟩:=aan h z (by omega) e
 rw[hr] at k1;have h0:d9 (S++G) m y:=h.only (F:=[]) aP.sV (by simp)
 obtain⟨S1,y1,k2,k3,k4⟩:=alj h0 z hn e hr;obtain⟨S',k5,k6,k7⟩:=GA h z e.t k1 h0 k3.a k2 k3.zL k4 hn;have k3f:∀j∈fp y1,j∈fp y\/S.length<=j:=λj hj=>(k3.fp j hj).imp id λq=>by rw[zaj] at q;omega
 exact⟨S',y1,k5,⟨k6,((aP.sV (F:=fp y)).trans k3.on).fresh k7 k3f,k3.a,k3f⟩,k4.fu⟩
theorem JM (h:d9 S m y)(z:Sz m n)(hn:n+1<=1000)(e:bP)(w:Str)(hr:iK m e=some w):∃S0,aoC S S0/\l6 [.hd y.a,e.t] S = .ex S0.length (S0++[.oQ "NotLet" [("rule",.str w),("number",.int 0)]]):=by
 obtain⟨G,k1⟩:=aan h z (by omega) e
 rw[hr] at k1;exact⟨S++G,⟨G,rfl⟩,Ln w (D5 hr).2 e.t h.a k1⟩
end
theorem GG {α:Type}{l:List α}{i:Int}(h0:0<=i)(h1:i<l.length):∃x∈l,iX l i=some x:=by
 obtain⟨j,hj⟩:=zbI h0;have Ip:j<l.length:=by omega
 exact⟨l[j],zcr Ip,by rw[hj];exact iw (zaf Ip)⟩
theorem iS {l:List Str}{i:Int}(h0:0<=i)(h1:i<l.length):∃x∈l,iX (l.map Tr.str) i=some (.str x):=by
 obtain⟨t,ht,e⟩:=GG (l:=l.map Tr.str) h0 (by simpa using h1)
 obtain⟨x,hx,rfl⟩:=zbj.mp ht;exact⟨x,hx,e⟩
theorem JN {l:List Str}{n m:Int}(hm:m=l.length)(h0:0<m):∃x∈l,iX (l.map Tr.str) (n % m)=some (.str x):=iS (zcA _ (by omega)) (by rw[<-hm];exact zci _ h0)
noncomputable def aao:List Str:=["bat","bat","bat","bye","leg","wide","no","nobye"]
noncomputable def wY (m:M):Str:=match mh m with|none => "" |some s=>jw m s
noncomputable def fQ (m:M)(x:I):Tr:=.tp [.str (jw m x.bZ),.int x.DT,.int x.wk,.int x.ov,.int x.ba,.str x.en]
structure Row where
 a:Int
 b:Int
 c:Int
 f:Str
 o:Str
 w:Str
 e:B
 q:Str
noncomputable def Row.t (r:Row):Tr:=.tp [.int r.a,.int r.b,.int r.c,.str r.f,.str r.o,.str r.w,r.e.t,.str r.q]
section
variable {S:Cs}{m:M}{y:Ly}{n:Nat}
theorem zM (h:d9 S m y)(z:Sz m n):DH [.hd y.a] S = .ok (aE m.t0 m.t1 m.p0 m.p1) S:=by
 unfold DH;have ha:=h.a;unfold mF aE at *
 simp?[fx,ha]
theorem GH (z:Sz m n):gi m=0\/gi m=1:=by
 unfold gi;cases h:m.pl.getLast? with
 |none=>exact .inl rfl
 |some x=>exact z.bZ x (List.mem_of_getLast? h)
theorem af4 (z:Sz m n)(e:mh m=some s):s=0\/s=1:=by
 unfold mh at e
 have:=GH z
 repeat' split at e
 all_goals first | (cases e;done) | (cases e;omega)
theorem RO (h:d9 S m y)(z:Sz m n)(hn:n<=1000):wN [.hd y.a] S = .ok (.str (wY m)) S:=by
 unfold wN wY;have k1:=RB h z hn;have ha:=h.a;unfold mF aE at *
 cases hq:mh m with
 |none=>rw[hq] at k1;simp?[fx,ha,k1,mK]
 |some s =>
  rw[hq] at k1;have k2:=@nq m s (af4 z hq)
  simp?[fx,ha,k1,mK,k2]
theorem alk (h:d9 S m y){rs:List Row}(hr:m.g5=rs.map Row.t):JE [.hd y.a] S = .ok (.ls m.g5) S:=by
 unfold JE;have ha:=h.a;have hl:=h.l;unfold mF at ha;refine fM (S1:=S) (t:=.ls m.g5) ?_ (zaJ ..) ?_
 ·simp?[fx,ha,hl]
 ·unfold o_
  have:Tr.aF S.length (.ls m.g5)=true:=by
   rw[acP,zaQ,hr];intro t ht;obtain⟨r,_,rfl⟩:=zbj.mp ht;unfold Row.t B.t;simp only[pe,lG,qg,OI,zaC,zaN,zaV]
  simp only[this];rfl
theorem zN (h:d9 S m y)(z:Sz m n)(hn:n<=1000):DI [.hd y.a] S = .ok (.ls (m.pl.map (fQ m))) S:=by
 unfold DI;refine fM (S1:=S++[.bS (m.pl.map (fQ m))]) (t:=.hd S.length) ?_ (yo _ _) ?_
 ·have ha:=h.a
  have hp:=h.p;have dB:=h.len;have hpl:=z.pl;unfold mF aE at ha;have lp:=aN h.p;have la:=aN h.a;simp?[fx,ha,hp];have hp1:(S++[Ce.bS []])[y.p]? = some (.bS (y.cs.map λc=>.hd c.i)):=by rw[zai lp];exact hp
  have NP:∀q,(S++[Ce.bS q])[y.a]? = some (.e9 "Match" (mF m y)):=λq=>by rw[zai la];exact h.a
  unfold mF aE at NP;simp?[fx,NP,hp1];generalize hZ:fS _ _ _ _ _ _=Z
  obtain⟨τ,S',hI,rfl⟩:=gG hZ (λi τ S'=>(∃v,τ=[some (.hd y.a),some (.hd S.length),v])/\S'=S++[.bS ((m.pl.take i).map (fQ m))]) (λi τ S' hh=>by
   show cM S' y.p=_
   rw[hh.2];unfold cM;rw[zai lp,hp]) ⟨⟨_,rfl⟩,by simp⟩ (λi t τ S' ht hh=>by
   obtain⟨⟨v,rfl⟩,rfl⟩:=hh
   rw[zat] at ht;cases hc:y.cs[i]? with
   |none=>rw[hc] at ht;cases ht
   |some c =>
    rw[hc] at ht;cases ht;have hi:i<m.pl.length:=by rw[<-dB];exact (zab.mp hc).1
    have hx:=zaf hi
    generalize hxx:m.pl[i]=x at hx
    have hI:=(h.mJ i x c hx hc).i
    have k2:=@nq m x.bZ (z.bZ x (by rw[<-hxx];exact zcr hi))
    have hI1:∀q,(S++[Ce.bS q])[c.i]? = some (.e9 "Innings" (jd x c)):=λq=>by rw[zai (aN hI)];exact hI
    have hz:((m.pl.take i).length<sizeLine)=True:=jm (by simp;omega)
    unfold jd at hI1;refine⟨[some (.hd y.a),some (.hd S.length),some (.hd c.i)],_,.inl ?_,⟨_,rfl⟩,rfl⟩
    have et:(m.pl.take (i+1)).map (fQ m)=(m.pl.take i).map (fQ m)++[fQ m x]:=by rw[zei,hx];simp
    rw[et];unfold fQ;simp?[fx,NP,hI1,k2,D3,sa0,hz])
  obtain⟨⟨v,rfl⟩,rfl⟩:=hI
  have el:(y.cs.map λc:L3=>Tr.hd c.i).length=m.pl.length:=by simpa using dB
  rw[el,zaJ];simp only[↓bp,bx,simprocAttr]
 ·unfold o_
  have hq:cM (S++[.bS (m.pl.map (fQ m))]) S.length=some (m.pl.map (fQ m)):=by unfold cM;rw[D3]
  have:((m.pl.map (fQ m)).all (Tr.aF S.length))=true:=by
   rw[zaQ];intro t ht;obtain⟨r,_,rfl⟩:=zbj.mp ht;unfold fQ;simp only[pe,lG,qg,zaC,zaN,zaV]
  simp only[hq,zaK,if_false,gf,this,if_true]
end
structure Dr (m:M) (d n:Nat):Prop where
 z:Sz m n
 hn:n<=1000
 p0:m.p0.length=d
 p1:m.p1.length=d
 d2:2<=d
 oH:d<=11
 rs:∃rs:List Row,m.g5=rs.map Row.t
theorem aaq:jw m s=m.t0\/jw m s=m.t1:=by unfold jw;split<;>simp
theorem WD (D:Dr m d n)(s:Int):(iu m s).length=d:=by
 unfold iu;split
 ·exact D.p0
 ·exact D.p1
theorem WE (m:M):(oG m).g5=m.g5:=by unfold oG;split<;>rfl
theorem RP (m:M):(oG m).p0=m.p0:=by unfold oG;split<;>rfl
theorem RQ (m:M):(oG m).p1=m.p1:=by unfold oG;split<;>rfl
theorem aar (m:M)(a b:Str):(GD m a b).p0=m.p0.map (ny a b)/\(GD m a b).p1=m.p1.map (ny a b)/\(GD m a b).g5=m.g5:=by unfold GD;split<;>exact⟨rfl,rfl,rfl⟩
theorem aas (m:M):(GF m).p0=m.p0/\(GF m).p1=m.p1/\(GF m).g5=m.g5:=by unfold GF;split<;>exact⟨rfl,rfl,rfl⟩
theorem RU (m:M)(x:I)(e:bP):(nv m x e).p0=m.p0/\(nv m x e).p1=m.p1/\((nv m x e).g5=m.g5\/∃b,(nv m x e).g5=m.g5++[jx m x b]):=by
 unfold nv;split
 ·exact⟨rfl,rfl,.inr ⟨_,rfl⟩⟩
 all_goals exact⟨rfl,rfl,.inl rfl⟩
theorem alm (m:M)(e:bP):(RM m e).p0.length=m.p0.length/\(RM m e).p1.length=m.p1.length/\((RM m e).g5=m.g5\/∃x b,(RM m e).g5=m.g5++[jx m x b]):=by
 have xD:∀e,(match gX m with|some x=>nv m x e|none=>m).p0.length=m.p0.length/\(match gX m with|some x=>nv m x e|none=>m).p1.length=m.p1.length/\((match gX m with|some x=>nv m x e|none=>m).g5=m.g5\/∃x b,(match gX m with|some x=>nv m x e|none=>m).g5=m.g5++[jx m x b]):=λe=>by
  cases gX m with
  |none=>exact⟨rfl,rfl,.inl rfl⟩
  |some x =>
   obtain⟨h1,h2,h3⟩:=RU m x e;exact⟨by simp only[h1],by simp only[h2],h3.imp id λ⟨b,q⟩=>⟨x,b,q⟩⟩
 cases e with
 |dg t f o b=>exact⟨rfl,rfl,.inl rfl⟩
 |swap a b =>
  obtain⟨h1,h2,h3⟩:=aar m a b;show (GD m a b).p0.length=_/\(GD m a b).p1.length=_/\((GD m a b).g5=_\/∃x c,(GD m a b).g5=m.g5++[jx m x c])
  rw[h1,h2,h3];exact⟨by simp,by simp,.inl rfl⟩
 |ig=>exact⟨rfl,rfl,.inl rfl⟩
 |l8 =>
  obtain⟨h1,h2,h3⟩:=aas m;show (GF m).p0.length=_/\(GF m).p1.length=_/\((GF m).g5=_\/∃x c,(GF m).g5=m.g5++[jx m x c])
  rw[h1,h2,h3];exact⟨rfl,rfl,.inl rfl⟩
 |qw b=>exact xD _
 |mJ b=>exact xD _
 |qx b=>exact xD _
 |qy b=>exact xD _
 |fW=>exact xD _
theorem Dr.Lr (D:Dr m d n)(e:bP)(z:Sz (iM m e) (n+1))(hn:n+1<=1000):Dr (iM m e) d (n+1):=by
 obtain⟨h1,h2,h3⟩:=alm m e;refine⟨z,hn,?_,?_,D.d2,D.oH,?_⟩
 ·unfold iM;rw[RP,h1,D.p0]
 ·unfold iM;rw[RQ,h2,D.p1]
 ·unfold iM
  rw[WE];obtain⟨rs,er⟩:=D.rs;rcases h3 with q|⟨x,b,q⟩
  ·exact⟨rs,by rw[q,er]⟩
  ·refine⟨rs++[⟨(m.pl.length:Int) - 1,x.ov,x.ba,x.oF,x.wU,x.xo,b,x.E7 b⟩],?_⟩
   rw[q,er,zaO];rfl
theorem Dr.mono (D:Dr m d n)(h:n<=n')(hn:n'<=1000):Dr m d n':=⟨D.z.mono h,hn,D.p0,D.p1,D.d2,D.oH,D.rs⟩
theorem zO:∀{l:List Tr},(∀t∈l,t.dp<=n)->Tr.sI l<=n
 |[],_=>by unfold Tr.sI;exact zcL _
 |t::l,h=>by
  unfold Tr.sI;exact Nat.max_le.mpr ⟨h t (by simp),zO λu hu=>h u (by simp[hu])⟩
theorem RV:∀{l:List Tr} {t:Tr},t∈l->t.dp<=Tr.sI l
 |u::l,t,h=>by
  unfold Tr.sI;rcases zam.mp h with rfl|h
  ·exact Nat.le_max_left ..
  ·exact zag (RV h) (Nat.le_max_right ..)
theorem aat (S:Cs):∀(n:Nat) (t:Tr),t.nM=true->t.dp<=n->vw n S t=t
 |0,t,_,_=>by cases t<;>rfl
 |n+1,t,h,hd=>by
  have key:∀l:List Tr,Tr.mE l=true->Tr.sI l<=n->l.map (vw n S)=l:=λl h1 h2=>by
   rw[gh,zaQ] at h1;have:l.map (vw n S)=l.map _root_.id:=zcw λt ht=>aat S n t (h1 t ht) (zag (RV ht) h2)
   rw[this,List.map_id]
  cases t with
  |tp l =>
   unfold Tr.nM at h;unfold Tr.dp at hd;show Tr.tp (l.map (vw n S))=_
   rw[key l h (by omega)]
  |ls l =>
   unfold Tr.nM at h;unfold Tr.dp at hd;show Tr.ls (l.map (vw n S))=_
   rw[key l h (by omega)]
  |hd i=>unfold Tr.nM at h;cases h
  |kl l=>unfold Tr.nM at h;cases h
  |kt l=>unfold Tr.nM at h;cases h
  |_=>rfl
noncomputable def JO (S:Cs)(t:Tr)(l:List Tr):Prop:=t = .ls l\/∃k,t = .hd k/\S[k]? = some (.bS l)
theorem JO.vw (h:JO S t l)(hn:Tr.mE l=true)(hd:Tr.sI l<=5):vw 6 S t = .ls l:=by
 have key:l.map (L2.vw 5 S)=l:=by
  rw[gh,zaQ] at hn;have:l.map (L2.vw 5 S)=l.map _root_.id:=zcw λt ht=>aat S 5 t (hn t ht) (zag (RV ht) hd)
  rw[this,List.map_id]
 rcases h with rfl|⟨k,rfl,hk⟩
 ·show Tr.ls (l.map (L2.vw 5 S))=_
  rw[key]
 ·show (match cM S k with|some l=>Tr.ls (l.map (L2.vw 5 S))|none=>.hd k)=_
  have:cM S k=some l:=by unfold cM;rw[hk]
  rw[this];simp only[key]
theorem D6 (h1:JO S t1 l)(h2:JO S t2 l)(hn:Tr.mE l=true)(hd:Tr.sI l<=5):cY neg t1 t2 S = .ok (.bl (!neg)) S:=by
 have e1:=h1.vw hn hd;have e2:=h2.vw hn hd;have e0:Og t1 t2=none:=by
  rcases h1 with rfl|⟨k,rfl,_⟩<;>rcases h2 with rfl|⟨k,rfl,_⟩<;>rfl
 unfold cY;rw[e0];simp only
 rw[e1,e2,if_pos];refine⟨rfl,by unfold Tr.nM;exact hn,by unfold Tr.dp;omega,by unfold Tr.dp;omega⟩
noncomputable def xJ (m:M):Tr:=if l_ m=false then .bz else if m.clo=true then .tp [.str "closed"] else if l9 m 0=0 then .tp [.str "tie"] else .tp [.str "won",.str (jw m (if 0<l9 m 0 then 0 else 1))]
theorem aau (h:d9 S m y)(z:Sz m n)(hn:n<=1000):DF [.hd y.a] S = .ok (xJ m) S:=by
 unfold DF xJ;have k1:=A_ h z hn;have k2:=A9 h 0 (zag z.pl hn)
 have ha:=h.a;unfold mF aE at ha;cases hd:l_ m with
 |false =>
  rw[hd] at k1;rw[if_pos rfl];refine fM (S1:=S) (t:=.bz) ?_ (zaJ ..) (by unfold o_;simp only[Im];rfl)
  simp?[fx,ha,k1]
 |true =>
  rw[hd] at k1;rw[if_neg (by simp)]
  cases hc:m.clo with
  |true =>
   rw[hc] at ha;rw[if_pos rfl];refine fM (S1:=S) (t:=.tp [.str "closed"]) ?_ (zaJ ..) (by unfold o_;simp only[gf,pe,lG,zaC,zaN,zaV];rfl)
   simp?[fx,ha,k1]
  |false =>
   rw[hc] at ha;rw[if_neg (by simp)]
   by_cases h0:l9 m 0=0
   ·rw[if_pos h0]
    rw[h0] at k2;refine fM (S1:=S) (t:=.tp [.str "tie"]) ?_ (zaJ ..) (by unfold o_;simp only[gf,pe,lG,zaC,zaN,zaV];rfl)
    simp?[fx,ha,k1,k2]
   ·rw[if_neg h0]
    refine fM (S1:=S) (t:=.tp [.str "won",.str (jw m (if 0<l9 m 0 then 0 else 1))]) ?_ (zaJ ..) (by unfold o_;simp only[gf,pe,lG,zaC,zaN,zaV];rfl)
    by_cases hp:0<l9 m 0<;>simp?[fx,ha,k1,k2,h0,hp,Eo,jw]
noncomputable def Ls (m:M):Tr:=.ls [j9 m,.ls (m.pl.map (fQ m)),.str (wY m),aE m.t0 m.t1 m.p0 m.p1,xJ m,.ls m.g5]
theorem aav (h:d9 S m y)(D:Dr m d n):DS [.hd y.a] S = .ok (Ls m) S:=by
 obtain⟨rs,hr⟩:=D.rs;have k1:=JK h D.z D.hn;have k2:=zN h D.z D.hn;have k3:=RO h D.z D.hn;have k4:=zM h D.z;have k5:=aau h D.z D.hn;have k6:=alk h hr;have ha:=h.a;unfold mF at ha;unfold DS Ls;simp?[fx,ha,k1,k2,k3,k4,k5,k6]
theorem D7 (l:List Str):Tr.mE (l.map .str)=true:=by
 rw[gh,zdM,zaQ];intro _ _;rfl
theorem JP (l:List Str):Tr.sI (l.map .str)<=1:=zO λt ht=>by
 obtain⟨r,_,rfl⟩:=zbj.mp ht;simp[Tr.dp]
theorem WG (D:Dr m d n):∃l,Ls m = .ls l/\Tr.mE l=true/\Tr.sI l<=5:=by
 obtain⟨rs,hr⟩:=D.rs;have n1:(j9 m).nM=true/\(j9 m).dp<=4:=by
  unfold j9;split<;>exact⟨by rfl,by simp[Tr.dp,Tr.sI]⟩
 have n2:Tr.mE (m.pl.map (fQ m))=true/\Tr.sI (m.pl.map (fQ m))<=3:=by
  refine⟨?_,zO λt ht=>?_⟩
  ·rw[gh,zdM,zaQ]
   intro _ _;rfl
  ·obtain⟨r,_,rfl⟩:=zbj.mp ht
   simp[fQ,Tr.dp,Tr.sI]
 have n3:Tr.mE m.g5=true/\Tr.sI m.g5<=4:=by
  rw[hr];refine⟨?_,zO λt ht=>?_⟩
  ·rw[gh,zdM,zaQ]
   intro _ _;rfl
  ·obtain⟨r,_,rfl⟩:=zbj.mp ht
   simp[Row.t,B.t,Tr.dp,Tr.sI]
 have n4:(xJ m).nM=true/\(xJ m).dp<=4:=by
  unfold xJ;repeat' split
  all_goals exact⟨by rfl,by simp[Tr.dp,Tr.sI]⟩
 have n5:=D7 m.p0;have n6:=D7 m.p1;have d5:=JP m.p0;have d6:=JP m.p1;refine⟨_,rfl,?_,?_⟩
 ·simp only[gh,zaC,zaN,zer,zbz]
  refine⟨n1.1,?_,rfl,?_,n4.1,?_⟩
  ·unfold Tr.nM;exact n2.1
  ·unfold aE Tr.nM
   simp only[gh,zaC,zaN,zer,zbz];refine⟨?_,?_⟩<;>unfold Tr.nM<;>simp only[gh,zaC,zaN,zer,zbz]<;>refine⟨rfl,?_⟩<;>unfold Tr.nM
   ·exact n5
   ·exact n6
  ·unfold Tr.nM;exact n3.1
 ·refine zO λt ht=>?_
  simp only[zam,zay,or_false] at ht;rcases ht with rfl|rfl|rfl|rfl|rfl|rfl
  ·omega
  ·unfold Tr.dp;omega
  ·unfold Tr.dp;omega
  ·unfold aE
   simp only[Tr.dp,Tr.sI];omega
  ·omega
  ·unfold Tr.dp;omega
theorem af5 (D:Dr m d n)(neg:Bool)(S:Cs):cY neg (Ls m) (Ls m) S = .ok (.bl (!neg)) S:=by
 obtain⟨l,e,h1,h2⟩:=WG D;rw[e];exact D6 (.inl rfl) (.inl rfl) h1 h2
noncomputable def dig (c:Int):Nat->Int
 |0=>c
 |n+1=>dig c n / 60
theorem WH (c:Int)(a0:0<=a)(a1:a<1000)(h0:0<dI)(h1:dI<1000000)(S:Cs):IY [.int c,.int a,.int dI] S = .ok (.int (dig c a.toNat % dI)) S:=by
 obtain⟨n,rfl⟩:=zbI a0;have c1:(0<dI)=True:=eq_true h0
 have c2:(dI<1073741824)=True:=eq_true (by omega)
 have hr:(-4611686018427387904<=(n:Int)/\(n:Int)<4611686018427387904)=True:=eq_true (by omega)
 unfold IY;rw[zbt];simp?[hr,zbt];generalize hZ:fS _ _ _ _ _ _=Z
 obtain⟨τ,S',⟨⟨v,rfl⟩,rfl⟩,rfl⟩:=gG hZ (λi τ S'=>(∃v,τ=[some (.int (dig c i)),some (.int (n:Int)),some (.int dI),v])/\S'=S) (λ_ _ _ _=>trivial) ⟨⟨_,rfl⟩,rfl⟩ (by
  rintro i t τ S' ht ⟨⟨v,rfl⟩,rfl⟩
  obtain⟨jU,rfl⟩:=qh ht;refine⟨[some (.int (dig c i / 60)),some (.int (n:Int)),some (.int dI),some (.int (0+(i:Int)))],S',.inl ?_,⟨_,rfl⟩,rfl⟩
  simp only[↓bp,bx,simprocAttr])
 rw[qi];simp?[c1,c2]
noncomputable def dv (cs:List Int)(k dI:Int):Int:=
 let c:=(iX cs (k % (cs.length:Int))).getD 0
 if cs.length % 2=1 then dig c (k / (cs.length:Int) % 20).toNat % dI else (c % 2147483647+7 * k+3) * (48271+1103 * k * k) % 2147483629 / 64 % dI
theorem D8 (cs:List Int)(k:Int)(h0:0<dI):0<=dv cs k dI/\dv cs k dI<dI:=by
 unfold dv;dsimp only;split<;>exact⟨zcA _ (by omega),zci _ h0⟩
theorem D9:iX (cs.map Tr.int) i=(iX cs i).map Tr.int:=by
 unfold iX;rw[zae];cases Bk cs.length i with
 |none=>rfl
 |some j=>simp
theorem wZ (cs:List Int)(hl:cs.length<=100)(k0:0<=k)(k1:k<10000)(h0:0<dI)(h1:dI<1000000)(S:Cs):di [.ls (cs.map .int),.int k,.int dI] S = .ok (.int (dv cs k dI)) S:=by
 have c1:(0<dI)=True:=eq_true h0
 have c2:(dI<1073741824)=True:=eq_true (by omega)
 have z1:(cs.length<=sizeLine)=True:=bH (by omega)
 unfold di dv;dsimp only;cases cs with
 |nil =>
  have e0:iX ([]:List Int) (k % ((0:Nat):Int))=none:=by
   unfold iX Bk;repeat' split
   all_goals simp
  rw[if_neg (by decide)]
  simp only[zaI] at e0 ⊢
  rw[e0];simp?[c1,c2,Eo,zbV,Bp];rw[pS (by omega),pS (by omega)]
 |cons x r =>
  have hp:(0<((r.length+1:Nat):Int))=True:=eq_true (by omega)
  have hl':r.length+1<=100:=by simpa using hl
  have hq:(((r.length+1:Nat):Int)<1073741824)=True:=eq_true (by omega)
  obtain⟨c,_,ec⟩:=AB (l:=x::r) (n:=k) (m:=((r.length+1:Nat):Int)) (by simp) (by omega)
  have et:iX ((x::r).map Tr.int) (k % ((r.length+1:Nat):Int))=some (.int c):=by rw[D9,ec];rfl
  have ed:=λS=>WH c (a:=k / ((r.length+1:Nat):Int) % 20) (zcA _ (by decide)) (Int.lt_trans (zci _ (by decide)) (by decide)) h0 h1 S
  simp only[FP] at *
  rw[ec,zcs];generalize hX:(x::r).map Tr.int=X at *
  have lX:X.length=r.length+1:=by rw[<-hX];simp
  by_cases q:(r.length+1) % 2=1
  ·have q':((r.length+1:Nat):Int) % 2=1:=by omega
   rw[if_pos q];simp?[c1,c2,z1,Eo,lX,hp,hq,et,q',ed]
  ·have q':¬ ((r.length+1:Nat):Int) % 2=1:=by omega
   rw[if_neg q];simp?[c1,c2,z1,Eo,lX,hp,hq,et,q'];rw[pS (by omega),pS (by omega)]
theorem w9 {l:List Int}{i:Int}(h0:0<=i)(h1:i<l.length):∃x∈l,iX (l.map Tr.int) i=some (.int x):=by
 obtain⟨t,ht,e⟩:=GG (l:=l.map Tr.int) h0 (by simpa using h1)
 obtain⟨x,hx,rfl⟩:=zbj.mp ht;exact⟨x,hx,e⟩
theorem RW (cs:List Int)(hl:cs.length<=100)(S:Cs):∃u:U,IZ [.ls (cs.map .int)] S = .ok u.t S/\2<=u.d/\u.d<=11:=by
 have D:=λ(k dI:Int) (k0:0<=k) (k1:k<10000) (h0:0<dI) (h1:dI<1000000)=>And.intro (D8 cs k h0) (wZ cs hl k0 k1 h0 h1 S)
 obtain⟨⟨a1,b1⟩,e1⟩:=D 900 3 (by decide) (by decide) (by decide) (by decide)
 obtain⟨⟨a2,b2⟩,e2⟩:=D 901 5 (by decide) (by decide) (by decide) (by decide)
 obtain⟨⟨a3,b3⟩,e3⟩:=D 902 4 (by decide) (by decide) (by decide) (by decide)
 obtain⟨⟨a4,b4⟩,e4⟩:=D 903 4 (by decide) (by decide) (by decide) (by decide)
 obtain⟨⟨a5,b5⟩,e5⟩:=D 904 3 (by decide) (by decide) (by decide) (by decide)
 obtain⟨⟨a6,b6⟩,e6⟩:=D 905 3 (by decide) (by decide) (by decide) (by decide)
 obtain⟨⟨a7,b7⟩,e7⟩:=D 906 8 (by decide) (by decide) (by decide) (by decide)
 obtain⟨⟨a8,b8⟩,e8⟩:=D 907 2 (by decide) (by decide) (by decide) (by decide)
 obtain⟨x2,_,f2⟩:=w9 (l:=[0,1,2,3,4]) a2 b2
 obtain⟨x3,_,f3⟩:=w9 (l:=[0,0,1,2]) a3 b3
 obtain⟨x4,_,f4⟩:=w9 (l:=[0,1,3,8]) a4 b4
 obtain⟨x7,hx,f7⟩:=w9 (l:=[2,3,4,2,3,4,9,11]) a7 b7
 have h7:2<=x7/\x7<=11:=by
  simp only[zam,zay,or_false] at hx;omega
 simp only[tu,Bp] at f2 f3 f4 f7;refine⟨⟨1+dv cs 900 3,x2,x3,dv cs 904 3,dv cs 905 3,x7,1+dv cs 907 2,x4⟩,?_,h7⟩
 unfold IZ U.t;generalize cs.map Tr.int=X at *
 simp?[e1,e2,e3,e4,e5,e6,e7,e8,f2,f3,f4,f7]
noncomputable def RX:Str:= "bcdfghjkmnpqvwxz"
theorem WI (i:Int):∃c,iX RX.cps.toList (i % 16)=some c:=by
 obtain⟨c,_,e⟩:=AB (l:=RX.cps.toList) (n:=i) (m:=16) (by decide +kernel) (by decide)
 exact⟨c,e⟩
theorem af6 {v:Int}(h0:0<=v)(h1:v<2):(ua (Str.ofString "zq") v.toNat).length<=2/\(Str.ofString "zq").length * v.toNat<=1000000:=by
 have h:∀n:Fin 2,(ua (Str.ofString "zq") n).length<=2:=by decide +kernel
 have e:(Str.ofString "zq").length=2:=by decide +kernel
 exact⟨h ⟨v.toNat,by omega⟩,by rw[e];omega⟩
theorem af7 (h0:0<=v)(h1:v<4):(Txt.slice (Str.ofString "vzb") none (some v)).length<=3:=by
 have h:∀n:Fin 4,(Txt.slice (Str.ofString "vzb") none (some ((n:Nat):Int))).length<=3:=by decide +kernel
 have:=h ⟨v.toNat,by omega⟩
 simpa[Int.toNat_of_nonneg h0] using this
theorem RY (cs:List Int)(hl:cs.length<=100)(sd:Nat)(h2:2<=sd)(h11:sd<=11)(S:Cs):∃(t0 t1:Str) (p0 p1:List Str),I0 [.ls (cs.map .int),.int sd] S = .ok (aE t0 t1 p0 p1) S/\p0.length=sd/\p1.length=sd/\∀x∈p0++p1,x.length<=7:=by
 have D:=λ(k dI:Int) (k0:0<=k) (k1:k<10000) (h0:0<dI) (h1:dI<1000000)=>And.intro (D8 cs k h0) (wZ cs hl k0 k1 h0 h1 S)
 obtain⟨⟨a1,b1⟩,e1⟩:=D 908 2 (by decide) (by decide) (by decide) (by decide)
 obtain⟨⟨a2,b2⟩,e2⟩:=D 909 4 (by decide) (by decide) (by decide) (by decide)
 obtain⟨⟨a3,b3⟩,e3⟩:=D 910 16 (by decide) (by decide) (by decide) (by decide)
 obtain⟨r1,r2⟩:=af6 a1 b1;have r3:=af7 a2 b2;have c1:(0<=dv cs 908 2)=True:=eq_true a1
 have c2:(dv cs 908 2<1000000)=True:=eq_true (by omega)
 have c3:((Str.ofString "zq").length * (dv cs 908 2).toNat<=1000000)=True:=eq_true r2
 have c4:((Str.ofString "vzb").length<=sizeLine)=True:=bH (by decide +kernel)
 generalize hA:ua (Str.ofString "zq") (dv cs 908 2).toNat=A at *
 generalize hB:Txt.slice (Str.ofString "vzb") none (some (dv cs 909 4))=B at *
 generalize dv cs 910 16=f at *
 have hL:(RX.length<=sizeLine)=True:=bH (by decide +kernel)
 have hat:=WI;unfold I0;rw[show Str.ofString "bcdfghjkmnpqvwxz"=RX from rfl];generalize RX=L at *
 generalize cs.map Tr.int=X at *
 have r16:(-4611686018427387904<=(16:Int)/\(16:Int)<4611686018427387904)=True:=eq_true (by decide)
 simp?[e1,e2,e3,c1,c2,c3,c4,hA,hB,qX];generalize hZ:dh _ _ _ _ _ _ _ _=Z
 obtain⟨eN,apn,S2,⟨_,⟨nm,rfl,ln⟩,rfl⟩,rfl⟩:=yw hZ (λi τ bY S'=>(∃v,τ=[some (.str B),some (.str A),some (.str L),some (.int f),v])/\(∃p:List Str,bY=p.map .str/\p.length=i/\∀x∈p,x.length<=6)/\S=S') (λ_ _ _ _ _=>trivial) ⟨⟨_,rfl⟩,⟨[],rfl,rfl,by simp⟩,rfl⟩ (by rw[qi];decide) (by
  rintro i t τ bY S' ht ⟨⟨v,rfl⟩,⟨p,rfl,lp,hp⟩,rfl⟩
  obtain⟨jU,rfl⟩:=qh ht;obtain⟨c,ec⟩:=hat (f+(i:Int))
  have c5:(A.length+1<=sizeLine)=True:=bH (by omega)
  have c6:(A.length+1+B.length<=sizeLine)=True:=bH (by omega)
  refine⟨[some (.str B),some (.str A),some (.str L),some (.int f),some (.int (0+(i:Int)))],.str (A++⟨#[c]⟩++B),S,rfl,?_,⟨_,rfl⟩,⟨p++[A++⟨#[c]⟩++B],by simp,by simp[lp],λx hx=>?_⟩,rfl⟩
  ·simp?[ec,hL,c5,c6,tF,qu]
  ·rcases zbd.mp hx with q|q
   ·exact hp x q
   ·rw[zav.mp q,qu,qu,tF];omega)
 rw[qi] at ln;obtain⟨ln,hnm⟩:=ln;obtain⟨t0,_,f0⟩:=iS (l:=nm) (i:=12) (by decide) (by rw[ln];decide)
 obtain⟨t1,_,f1⟩:=iS (l:=nm) (i:=13) (by decide) (by rw[ln];decide)
 have k1:qa (nm.map Tr.str) none (some (sd:Int))=(nm.take sd).map Tr.str:=by rw[A7,List.map_take]
 have k2:qa (nm.map Tr.str) (some 6) (some (6+(sd:Int)))=((nm.take (6+sd)).drop 6).map Tr.str:=by
  have:=V_ (nm.map Tr.str) 6 (6+sd) (by omega)
  rw[show ((6:Nat):Int)=6 from rfl,show ((6+sd:Nat):Int)=6+(sd:Int) by omega] at this
  rw[this,List.map_drop,List.map_take]
 have l0:(nm.take sd).length=sd:=by rw[zbh,ln];omega
 have ht:∀x∈nm.take sd,x.length<=6:=λx hx=>hnm x (zcZ hx)
 by_cases q:4<sd
 ·have q':(4<(sd:Int))=True:=eq_true (by omega)
  have hx1:(Str.ofString "x").length=1:=by decide +kernel
  simp?[Eo,q',k1,k2,qX];generalize hZ:dh _ _ _ _ _ _ _ _=Z
  obtain⟨eN,apn,S2,⟨_,⟨p1,rfl,lp1,hp1⟩,rfl⟩,rfl⟩:=yw hZ (λi τ bY S'=>(∃v,τ=[v])/\(∃p:List Str,bY=p.map .str/\p.length=i/\∀x∈p,x.length<=7)/\S=S') (λ_ _ _ _ _=>trivial) ⟨⟨_,rfl⟩,⟨[],rfl,rfl,by simp⟩,rfl⟩ (by simp[l0];omega) (by
   rintro i t τ bY S' ht' ⟨⟨v,rfl⟩,⟨p,rfl,lp,hp⟩,rfl⟩
   rw[zat] at ht';cases hc:(nm.take sd)[i]? with
   |none=>rw[hc] at ht';cases ht'
   |some x =>
    rw[hc] at ht';cases ht'
    have:=ht x (zax hc)
    have c5:(x.length+1<=sizeLine)=True:=bH (by omega)
    refine⟨[some (.str x)],.str (x++Str.ofString "x"),S,rfl,?_,⟨_,rfl⟩,⟨p++[x++Str.ofString "x"],by simp,by simp[lp],λw hw=>(zbd.mp hw).elim (hp w) λq=>by rw[zav.mp q,qu,hx1];omega⟩,rfl⟩
    simp?[c5,hx1])
  rw[zae,l0] at lp1;refine⟨t0,t1,nm.take sd,p1,?_,l0,lp1,λw hw=>(zbd.mp hw).elim (λq=>zcJ (ht w q)) (hp1 w)⟩
  unfold aE;simp?[k1,f0,f1,qX]
 ·have q':¬ (4<(sd:Int)):=by omega
  refine⟨t0,t1,nm.take sd,(nm.take (6+sd)).drop 6,?_,l0,?_,λw hw=>(zbd.mp hw).elim (λq=>zcJ (ht w q)) λq=>zcJ (hnm w (zcZ (List.mem_of_mem_drop q)))⟩
  ·unfold aE
   simp?[Eo,q',k1,k2,f0,f1,qX]
  ·rw[zdL,zbh,ln]
   omega
theorem WJ:(Tr.ls []).nM=true:=by
 unfold Tr.nM Tr.mE;rfl
theorem RZ:(Tr.ls []).dp<=50/\(Tr.ls []).dp≠0:=by
 unfold Tr.dp Tr.sI;decide
theorem af8 (h:vw 6 S t = .ls [])(hs:Og t (.ls [])=none):cY neg t (.ls []) S = .ok (.bl (!neg)) S:=by
 have e:vw 6 S (.ls []) = .ls []:=rfl
 have hc:vw 6 S t=vw 6 S (.ls [])/\(vw 6 S t).nM=true/\(vw 6 S t).dp<=50/\(vw 6 S t).dp≠0:=by
  rw[h,e];exact⟨rfl,WJ,RZ.1,RZ.2⟩
 unfold cY;rw[hs];exact if_pos hc
theorem JQ:CF true (.ls l) (.ls []) S = .ok (.bl (!l.isEmpty)) S:=by
 unfold CF;show (if l.length=0 then _ else _)=_
 cases l with
 |nil =>
  rw[if_pos (show ([]:List Tr).length=0 from rfl),af8 rfl rfl]
  rfl
 |cons x r =>
  rw[if_neg (by simp)]
  rfl
theorem af9 (h:l≠[]):CF true (.ls (l.map .str)) (.ls []) S = .ok (.bl true) S:=by
 cases l with
 |nil=>exact absurd rfl h
 |cons x r=>exact JQ
theorem WK (cs:List Int)(hl:cs.length<=100)(k0:0<=k)(k1:k<9000)(f o:Str)(s1:iX st 1=some (.str f))(s2:iX st 2=some (.str o))(S:Cs):∃b:B,I_ [.ls (cs.map .int),.int k,.tp st] S = .ok b.t S:=by
 have D:=λ(j dI:Int) (k0:0<=j) (k1:j<10000) (h0:0<dI) (h1:dI<1000000)=>And.intro (D8 cs j h0) (wZ cs hl k0 k1 h0 h1 S)
 obtain⟨⟨a1,b1⟩,e1⟩:=D k 8 (by omega) (by omega) (by decide) (by decide)
 obtain⟨⟨a2,b2⟩,e2⟩:=D (k+1) 8 (by omega) (by omega) (by decide) (by decide)
 obtain⟨⟨a3,b3⟩,e3⟩:=D (k+2) 9 (by omega) (by omega) (by decide) (by decide)
 obtain⟨⟨a4,b4⟩,e4⟩:=D (k+3) 2 (by omega) (by omega) (by decide) (by decide)
 obtain⟨⟨a5,b5⟩,e5⟩:=D (k+4) 2 (by omega) (by omega) (by decide) (by decide)
 obtain⟨⟨a6,b6⟩,e6⟩:=D (k+3) 5 (by omega) (by omega) (by decide) (by decide)
 obtain⟨⟨a7,b7⟩,e7⟩:=D (k+3) 4 (by omega) (by omega) (by decide) (by decide)
 obtain⟨kd,_,f1⟩:=iS (l:=aao) a1 b1
 obtain⟨r,_,f2⟩:=w9 (l:=[0,0,1,1,2,3,4,6]) a2 b2
 obtain⟨w,_,f4⟩:=iS (l:=[f,o]) a4 b4
 obtain⟨en,_,f5⟩:=iS (l:=["strike","other"]) a5 b5
 obtain⟨wy,_,f6⟩:=iS (l:=["bowled","caught","before","stumped","hit"]) a6 b6
 simp only[aao,tu,Bp] at f1 f2 f4 f5 f6;generalize cs.map Tr.int=X at *
 generalize dv cs k 8=v1 at *
 generalize dv cs (k+1) 8=v2 at *
 generalize dv cs (k+2) 9=v3 at *
 generalize dv cs (k+3) 2=v4 at *
 generalize dv cs (k+4) 2=v5 at *
 generalize dv cs (k+3) 5=v6 at *
 generalize dv cs (k+3) 4=v7 at *
 unfold I_;simp?[e1,e2,e3,f1,f2];by_cases q0:v3=0
 ·refine⟨⟨kd,r,false,"run",w,en⟩,?_⟩
  unfold B.t;simp?[q0,e4,e5,f4,f5,s1,s2]
 ·by_cases q1:v3<3
  ·refine⟨⟨"bat",0,false,wy,"",""⟩,?_⟩
   unfold B.t;simp?[q0,q1,e6,f6,Bl]
  ·refine⟨⟨kd,r,decide (v7=0),"","",""⟩,?_⟩
   unfold B.t;simp?[q0,q1,e7,Bl]
noncomputable def lt8:Str:= "abcdefgh"
theorem aga (h0:0<=i)(h1:i<8):∃c,iX lt8.cps.toList i=some c:=by
 obtain⟨c,_,e⟩:=GG (l:=lt8.cps.toList) (i:=i) h0 (by rw[show (lt8.cps.toList.length:Int)=8 by decide +kernel];exact h1)
 exact⟨c,e⟩
theorem alp (h:t=a\/t=b):∃j:Nat,((j:Int)=0\/(j:Int)=1)/\Ax (.str t) [.str a,.str b]=some j:=by
 by_cases h1:a=t
 ·refine⟨0,.inl rfl,?_⟩
  unfold Ax;rw[if_pos (by simp[Sq,h1])]
 ·refine⟨1,.inr rfl,?_⟩
  have h2:b=t:=(h.resolve_left λq=>h1 q.symm).symm
  unfold Ax;rw[if_neg (by simp[Sq,h1])]
  unfold Ax;rw[if_pos (by simp[Sq,h2])]
  rfl
theorem JR (a b c d e f g h:Tr):qa [a,b,c,d,e,f,g,h] (some 1) (some 3)=[b,c]:=rfl
theorem sx8:HT.gK 8 0 (some 1)=1:=rfl
noncomputable def zP:Str:= "nobodyzz"
theorem JS:zP.length=8:=by decide +kernel
noncomputable def EZ:bP->Prop|.swap _ b=>¬ b=zP|_=>True
section
variable {S:Cs}{m:M}{y:Ly}{n dd:Nat}
theorem R0 (cs:List Int)(hl:cs.length<=100)(h:d9 S m y)(D:Dr m dd n)(k0:0<=k)(k1:k<8000)(tt:Tr):∃e:bP,EZ e/\DK [.ls (cs.map .int),.int k,tt,.hd y.a] S = .ok e.t S:=by
 have W:=λ(j dI:Int) (k0:0<=j) (k1:j<10000) (h0:0<dI) (h1:dI<1000000)=>And.intro (D8 cs j h0) (wZ cs hl k0 k1 h0 h1 S)
 have oK:=JK h D.z D.hn;have hpl:=zM h D.z;have ht:=RO h D.z D.hn;have xD:=zN h D.z D.hn;have ha:=h.a;have d2:=D.d2;have oH:=D.oH;unfold mF at ha;obtain⟨PL,hPL⟩:∃PL,PL=[Tr.tp [.str m.t0,.ls (m.p0.map .str)],Tr.tp [.str m.t1,.ls (m.p1.map .str)]]:=⟨_,rfl⟩
 have i1:iX PL 1=some (.tp [.str m.t1,.ls (m.p1.map .str)]):=by rw[hPL];rfl
 have i0:iX PL 0=some (.tp [.str m.t0,.ls (m.p0.map .str)]):=by rw[hPL];rfl
 have s3:=λ(v:Int) (hv:v=0\/v=1)=>@nq m v hv
 have p3:=λ(v:Int)=>WD D v
 unfold aE at hpl;rw[<-hPL] at hpl;simp only[<-hPL] at s3;cases hg:gX m with
 |none =>
  have hs:j9 m = .bz:=by unfold j9;rw[hg]
  rw[hs] at oK;obtain⟨⟨a1,b1⟩,e1⟩:=W k 2 (by omega) (by omega) (by decide) (by decide)
  obtain⟨⟨a2,b2⟩,e2⟩:=W (k+1) 2 (by omega) (by omega) (by decide) (by decide)
  have zi:((m.pl.map (fQ m)).length<=sizeLine)=True:=bH (by rw[zae];have:=D.z.pl;have:=D.hn;omega)
  generalize hIL:m.pl.map (fQ m)=IL at *
  unfold DK;simp?[fx,ha,oK,hpl,xD,zi];generalize hI:cW (mB (ai (cY true) (aH "Match" "turn" 1 wN (aa 3) ak) (mC (.str "")))) _ _=IF
  by_cases q1:(IL.length:Int)=2/\dv cs k 2=0
  ·refine⟨.ig,trivial,?_⟩
   generalize cs.map Tr.int=X at *
   simp?[fx,q1.1,q1.2,e1,bP.t]
  ·have key:∃j:Int,(j=0\/j=1)/\IF [some (.ls (cs.map .int)),some (.int k),some tt,some (.hd y.a),some .bz,some (.ls PL),some (.int (dv cs (k+1) 2)),none,none,none,none,none,none,none,none,none] S = .nx [some (.ls (cs.map .int)),some (.int k),some tt,some (.hd y.a),some .bz,some (.ls PL),some (.int j),none,none,none,none,none,none,none,none,none] S:=by
    subst hI;by_cases q:wY m=""
    ·exact⟨dv cs (k+1) 2,by omega,by simp?[fx,ha,ht,q]⟩
    ·obtain⟨j,hj,ej⟩:=alp (t:=wY m) (a:=m.t0) (b:=m.t1) (by
      unfold wY at q ⊢
      split
      ·rename_i r;rw[r] at q;exact absurd rfl q
      ·exact aaq)
     refine⟨(j:Int),hj,?_⟩
     generalize wY m=tm at *
     simp?[fx,ha,ht,q,i0,i1,qY,ej,cK,zaC,zaN,zaV]
   obtain⟨j,j01,hIF⟩:=key;have s1:=s3 j j01;have s2:=s3 (1 - j) (by omega)
   have p1:=p3 j;have p2:=p3 (1 - j)
   generalize jw m j=tj at *
   generalize jw m (1 - j)=tk at *
   generalize iu m j=A at *
   generalize iu m (1 - j)=B at *
   obtain⟨⟨a3,b3⟩,e3⟩:=W (k+2) (A.length:Int) (by omega) (by omega) (by omega) (by omega)
   obtain⟨⟨a4,b4⟩,e4⟩:=W (k+3) (B.length:Int) (by omega) (by omega) (by omega) (by omega)
   obtain⟨x1,_,f1⟩:=iS (l:=A) a3 b3
   obtain⟨x2,_,f2⟩:=JN (l:=A) (n:=dv cs (k+2) (A.length:Int)+1) (m:=(A.length:Int)) rfl (by omega)
   obtain⟨x3,_,f3⟩:=iS (l:=B) a4 b4
   have z1:(A.length<=sizeLine)=True:=bH (by omega)
   have z2:(B.length<=sizeLine)=True:=bH (by omega)
   have z3:(0<(A.length:Int))=True:=eq_true (by omega)
   have z4:((A.length:Int)<1073741824)=True:=eq_true (by omega)
   refine⟨.dg tj x1 x2 x3,trivial,?_⟩
   generalize cs.map Tr.int=X at *
   by_cases q2:(IL.length:Int)=2
   ·have q3:¬ dv cs k 2=0:=λz=>q1 ⟨q2,z⟩
    simp?[fx,q2,q3,e1,e2,hIF,s1,s2,e3,e4,f1,f2,f3,z1,z2,z3,z4,zae,bP.t]
   ·simp?[fx,q2,e2,hIF,s1,s2,e3,e4,f1,f2,f3,z1,z2,z3,z4,zae,bP.t]
 |some x =>
  have hs:∃r0 r1 r2 r3,j9 m = .tp [.str (jw m x.bZ),.str x.oF,.str x.wU,.str x.xo,r0,r1,r2,r3]:=by
   unfold j9;rw[hg];exact⟨_,_,_,_,rfl⟩
  obtain⟨r0,r1,r2,r3,hs⟩:=hs;rw[hs] at oK;clear hs
  obtain⟨j,j01,ej⟩:=alp (t:=jw m x.bZ) (a:=m.t0) (b:=m.t1) aaq
  generalize jw m x.bZ=ts at *
  obtain⟨⟨a1,b1⟩,e1⟩:=W (k+4) 40 (by omega) (by omega) (by decide) (by decide)
  obtain⟨⟨a2,b2⟩,e2⟩:=W (k+5) 2 (by omega) (by omega) (by decide) (by decide)
  obtain⟨⟨a6,b6⟩,e6⟩:=W (k+6) 8 (by omega) (by omega) (by decide) (by decide)
  have s1:=s3 (j:Int) j01
  have s2:=s3 (1 - (j:Int)) (by omega)
  have p1:=p3 (j:Int)
  have p2:=p3 (1 - (j:Int))
  have dp0:=D.p0;have dp1:=D.p1;generalize jw m (j:Int)=tj at *
  generalize jw m (1 - (j:Int))=tk at *
  generalize iu m (j:Int)=A at *
  generalize iu m (1 - (j:Int))=B at *
  obtain⟨⟨a3,b3⟩,e3⟩:=W (k+5) (A.length:Int) (by omega) (by omega) (by omega) (by omega)
  obtain⟨⟨a4,b4⟩,e4⟩:=W (k+5) (B.length:Int) (by omega) (by omega) (by omega) (by omega)
  obtain⟨⟨a5,b5⟩,e5⟩:=W (k+5) ((m.p0++m.p1).length:Int) (by omega) (by omega) (by rw[zaj];omega) (by rw[zaj];omega)
  obtain⟨x1,_,f1⟩:=iS (l:=A) a3 b3
  obtain⟨x2,_,f2⟩:=iS (l:=B) a4 b4
  obtain⟨x3,_,f3⟩:=iS (l:=m.p0++m.p1) a5 b5
  obtain⟨c,f4⟩:=aga a6 b6;obtain⟨b,f5⟩:=WK cs hl (k:=k+5) (by omega) (by omega) x.oF x.wU (st:=[.str ts,.str x.oF,.str x.wU,.str x.xo,r0,r1,r2,r3]) rfl rfl S
  have z1:(A.length<=sizeLine)=True:=bH (by omega)
  have z2:(B.length<=sizeLine)=True:=bH (by omega)
  have z3:(m.p0.length+m.p1.length<=sizeLine)=True:=bH (by omega)
  have z4:(lt8.length<=sizeLine)=True:=bH (by decide +kernel)
  have z5:((Str.ofString "sw").length+1<=sizeLine)=True:=bH (by decide +kernel)
  rw[zaO] at f3;rw[zaj] at e5 f3;unfold DK;rw[show Str.ofString "abcdefgh"=lt8 from rfl];generalize lt8=L at *
  generalize hX:cs.map Tr.int=X at *
  generalize dv cs (k+4) 40=v1 at *
  generalize dv cs (k+5) 2=v2 at *
  generalize dv cs (k+5) (A.length:Int)=v3 at *
  generalize dv cs (k+5) (B.length:Int)=v4 at *
  generalize dv cs (k+5) ((m.p0.length+m.p1.length:Nat):Int)=v5 at *
  generalize dv cs (k+6) 8=v6 at *
  simp?[fx,ha,oK,hpl,i0,i1,qY,ej,cK,zaC,zaN,zaV,e1];by_cases q0:v1=0
  ·refine⟨.fW,trivial,?_⟩
   simp?[fx,q0,bP.t]
  ·generalize hC:gE _ _ _ _ _ _=C
   have key:∃th:List Str,th.length<=2/\∀v f o w,x.oF=f->x.wU=o->C [some (.ls X),some (.int k),some tt,some (.hd y.a),some (.tp [.str ts,.str f,.str o,.str w,r0,r1,r2,r3]),some (.ls PL),some (.int (j:Int)),none,none,none,none,none,some (.int v),none,none,none] S = .ok (.ls (th.map .str)) S:=by
    subst hC;by_cases g1:x.oF="" <;> by_cases g2:x.wU=""
    ·exact⟨[],by simp,λv f o w hf ho=>by rw[<-hf,<-ho];simp?[fx,JR,sx8,zda,g1,g2,iT,Bp]⟩
    ·exact⟨[x.wU],by simp,λv f o w hf ho=>by rw[<-hf,<-ho];simp?[fx,JR,sx8,zda,g1,g2,iT,Bp,tu]⟩
    ·exact⟨[x.oF],by simp,λv f o w hf ho=>by rw[<-hf,<-ho];simp?[fx,JR,sx8,zda,g1,g2,iT,Bp,tu]⟩
    ·exact⟨[x.oF,x.wU],by simp,λv f o w hf ho=>by rw[<-hf,<-ho];simp?[fx,JR,sx8,zda,g1,g2,iT,Bp,tu]⟩
   obtain⟨th,lth,Sx⟩:=key;have zt:(th.length<=sizeLine)=True:=bH (by omega)
   by_cases q1:v1=1/\th≠[]
   ·have tp:0<th.length:=List.length_pos_iff.mpr q1.2
    obtain⟨x4,_,f6⟩:=JN (l:=th) (n:=v2) (m:=(th.length:Int)) rfl (by omega)
    have c1:(0<(th.length:Int))=True:=eq_true (by omega)
    have c2:((th.length:Int)<1073741824)=True:=eq_true (by omega)
    have g1:=af9 (S:=S) q1.2
    refine⟨.qy x4,trivial,?_⟩
    simp?[fx,q0,q1.1,Sx,↓g1,e2,f6,zt,c1,c2,zae,bP.t]
   ·have q1':v1=1->CF true (.ls (th.map .str)) (.ls []) S = .ok (.bl false) S:=λz=>by
     have:th=[]:=Classical.byContradiction λw=>q1 ⟨z,w⟩
     rw[JQ,this];rfl
    by_cases q2:v1=2
    ·refine⟨.swap x3 (Str.ofString "sw"++⟨#[c]⟩),λz=>absurd (congrArg Str.length z) (by rw[qu,tF,JS];decide +kernel),?_⟩
     simp?[fx,q0,q2,Sx,i0,i1,e5,e6,f3,f4,z3,z4,z5,tF,zaj,zae,bP.t]
    ·by_cases q3:x.oF="" \/ x.wU=""
     ·refine⟨.mJ x1,trivial,?_⟩
      by_cases q5:v1=1
      ·have g1:=q1' q5
       by_cases q4:x.oF=""
       ·simp?[fx,q5,Sx,↓g1,q4,s1,e3,f1,z1,zae,bP.t]
       ·have q6:=q3.resolve_left q4
        simp?[fx,q5,Sx,↓g1,q4,q6,s1,e3,f1,z1,zae,bP.t]
      ·by_cases q4:x.oF=""
       ·simp?[fx,q0,q2,q5,Sx,q4,s1,e3,f1,z1,zae,bP.t]
       ·have q6:=q3.resolve_left q4
        simp?[fx,q0,q2,q5,Sx,q4,q6,s1,e3,f1,z1,zae,bP.t]
     ·have q4:¬ x.oF="" := λz=>q3 (.inl z)
      have q6:¬ x.wU="" := λz=>q3 (.inr z)
      by_cases q7:x.xo=""
      ·refine⟨.qx x2,trivial,?_⟩
       by_cases q5:v1=1
       ·have g1:=q1' q5
        simp?[fx,q5,Sx,↓g1,q4,q6,q7,s2,e4,f2,z2,zae,bP.t]
       ·simp?[fx,q0,q2,q5,Sx,q4,q6,q7,s2,e4,f2,z2,zae,bP.t]
      ·refine⟨.qw b,trivial,?_⟩
       show _=R.ok b.t S
       generalize b.t=bt at *
       by_cases q5:v1=1
       ·have g1:=q1' q5
        simp?[fx,q5,Sx,↓g1,q4,q6,q7,f5]
       ·simp?[fx,q0,q2,q5,Sx,q4,q6,q7,f5]
end
theorem aaw (w:Str):aR (Str.ofString "rule") [(Str.ofString "rule",Tr.str w),(Str.ofString "number",Tr.int 0)]=some (.str w):=by kernel_rfl
section
variable {S:Cs}{m:M}{y:Ly}{n:Nat}
theorem R3 (h:d9 S m y)(z:Sz m n)(hn:n+1<=1000)(e:bP):∃S' y' m',DO [.hd y.a,e.t] S = .ok (.str ((iK m e).getD "")) S'/\RN S y S' m' y'/\Sz m' (n+1)/\m'=if iK m e=none then iM m e else m:=by
 unfold DO;have ha:=h.a;unfold mF at ha;cases hr:iK m e with
 |none =>
  obtain⟨S',y',k1,k2,k3⟩:=Bf h z hn e hr;refine⟨S',y',_,?_,k2,k3,by rw[if_pos rfl]⟩
  simp?[fx,ha,k1,zbV]
 |some w =>
  obtain⟨S0,⟨G,e0⟩,k1⟩:=JM h z hn e w hr
  have on:aP [] S (S0++[.oQ "NotLet" [("rule",.str w),("number",.int 0)]]):=by
   rw[e0,zba];exact aP.sV
  refine⟨_,y,m,?_,⟨h.only on (by simp),on.mono (by simp),rfl,λj hj=>.inl hj⟩,z.mono (zbf n),by rw[if_neg (by simp)]⟩
  simp?[fx,ha,k1,D3,zav,zcs,aaw]
end
noncomputable def gm (m:M):List bP->Option M
 |[]=>some m
 |e::r=>if iK m e=none then gm (iM m e) r else none
theorem rH:∀{es:List bP} {m m':M} {e:bP},gm m es=some m'->gm m (es++[e])=if iK m' e=none then some (iM m' e) else none
 |[],m,m',e,h=>by cases h;rfl
 |a::r,m,m',e,h=>by
  rw[zaL];unfold gm at h ⊢
  split at h
  ·rename_i q
   rw[if_pos q];exact rH h
  ·cases h
theorem R4 (h:iK m e=some w):¬ w="" := λz=>absurd (D5 h).1 (by rw[z];decide +kernel)
theorem WL (e:bP)(k:Nat):Tr.aF k e.t=true:=by
 cases e<;>(unfold bP.t;try unfold B.t)<;>simp only[pe,lG,qg,OI,zaC,zaN,zaV]
theorem Lu (h:aP [] S S'):S'.take S.length=S:=by
 apply List.ext_getElem?
 intro i;rw[List.getElem?_take];split
 ·exact h.2 i (by assumption) (by simp)
 ·rw[List.getElem?_eq_none (by omega)]
structure Fm (S S':Cs) (m:M) (y:Ly) (d n:Nat):Prop where
 zL:d9 S' m y
 a:y.a=S.length
 fp:∀j∈fp y,S.length<=j
 on:aP [] S S'
 D:Dr m d n
section
variable {S S' S2:Cs}{m m2:M}{y y2:Ly}{d n n2:Nat}
theorem Fm.WM (h:Fm S S' m y d n)(T:RN S' y S2 m2 y2)(D:Dr m2 d n2):Fm S S2 m2 y2 d n2:=
 ⟨T.zL,T.a.trans h.a,λj hj=>(T.fp j hj).elim (h.fp j) λq=>zag h.on.1 q,h.on.fresh T.on λj hj=>.inr (h.fp j hj),D⟩
theorem Fm.init (u:U)(t0 t1:Str)(l0:p0.length=d)(l1:p1.length=d)(d2:2<=d)(oH:d<=11)(S:Cs):Fm S (kO S (cH u t0 t1 p0 p1)) (cH u t0 t1 p0 p1) (oU S.length) d 22:=
 ⟨Wx S u t0 t1 p0 p1,rfl,λj hj=>by simp[My.fp,oU] at hj;omega,aP.sV,⟨Wy u t0 t1 p0 p1 (by omega) (by omega),by decide,l0,l1,d2,oH,[],rfl⟩⟩
theorem Fm.aax (h:Fm S S' m y d n)(hn:n+1<=1000)(e:bP)(hr:iK m e=none):∃S2 y2,l6 [.hd S.length,e.t] S' = .ok .bz S2/\Fm S S2 (iM m e) y2 d (n+1)/\RN S' y S2 (iM m e) y2:=by
 obtain⟨S2,y2,k1,k2,k3⟩:=Bf h.zL h.D.z hn e hr;rw[h.a] at k1;exact⟨S2,y2,k1,h.WM k2 (h.D.Lr e k3 hn),k2⟩
end
theorem R5 (h:l_ m=true):∃l,xJ m = .tp l:=by
 unfold xJ;rw[h,if_neg (by simp)]
 repeat' split
 all_goals exact⟨_,rfl⟩
theorem GI (cs:List Int)(hl:cs.length<=100)(u:U)(t0 t1:Str)(l0:p0.length=d)(l1:p1.length=d)(d2:2<=d)(oH:d<=11)(dI:Nat)(hm:dI<=100)(S:Cs):
  ∃es m,JD [.ls (cs.map .int),u.t,aE t0 t1 p0 p1,.int dI] S = .ok (.ls (es.map bP.t)) S/\gm (cH u t0 t1 p0 p1) es=some m/\es.length<=dI/\∀e∈es,EZ e:=by
 have F0:=Fm.init u t0 t1 l0 l1 d2 oH S;have e4:=wX u t0 t1 p0 p1 (by omega) (by omega) S
 have hr:(-4611686018427387904<=(dI:Int)/\(dI:Int)<4611686018427387904)=True:=eq_true (by omega)
 have lS:(kO S (cH u t0 t1 p0 p1)).length=S.length+4:=by unfold kO;simp
 have ent:=λ(m:M) (y:Ly) (S':Cs) (n:Nat) (h:d9 S' m y) (D:Dr m d n) (k:Int) (k0:0<=k) (k1:k<8000)=>R0 cs hl h D k0 k1 (aE t0 t1 p0 p1)
 generalize hm0:cH u t0 t1 p0 p1=m0 at *
 generalize aE t0 t1 p0 p1=sT at *
 generalize cs.map Tr.int=X at *
 generalize u.t=uT at *
 unfold JD;generalize hB:dw Ri _=q
 have Kg:∃(es:List bP) (m:M) (S':Cs),q [.ls X,uT,sT,.int dI] S = .ok (.hd (S.length+4)) S'/\S'[S.length+4]? = some (.bS (es.map bP.t))/\aP [] S S'/\gm m0 es=some m/\es.length<=dI/\∀e∈es,EZ e:=by
  subst hB;simp?[fx,e4,hr,zbt,lS];generalize hZ:fS _ _ _ _ _ _=Z
  obtain⟨τ,S',⟨⟨v,w,rfl⟩,es,m,y,kS,F,nk,hR,hle,hE⟩,rfl⟩:=gG hZ (λi τ S'=>(∃v w,τ=[some (.ls X),some uT,some sT,some (.int (dI:Int)),some (.hd S.length),some (.hd (S.length+4)),v,w])/\∃es m y,S'[S.length+4]? = some (.bS (es.map bP.t))/\Fm S S' m y d (22+i)/\S.length+4∉fp y/\gm m0 es=some m/\es.length<=i/\∀e∈es,EZ e) (λ_ _ _ _=>trivial) ⟨⟨_,_,rfl⟩,[],m0,_,by rw[<-lS];exact qf _ _,⟨F0.zL.only (F:=[]) aP.sV (by simp),F0.a,F0.fp,F0.on.trans aP.sV,F0.D⟩,by simp[fp,oU],rfl,zah _,by simp⟩ (by
   rintro i t τ S' ht ⟨⟨v,w,rfl⟩,es,m,y,kS,F,nk,hR,hle,hE⟩
   obtain⟨jU,rfl⟩:=qh ht;have k1:=aau F.zL F.D.z F.D.hn;have ha:=F.zL.a;rw[F.a] at k1 ha;unfold mF at ha;cases hd:l_ m with
   |true =>
    obtain⟨l,el⟩:=R5 hd;rw[el] at k1;refine⟨[some (.ls X),some uT,some sT,some (.int (dI:Int)),some (.hd S.length),some (.hd (S.length+4)),some (.int (0+(i:Int))),w],S',.inl ?_,⟨_,_,rfl⟩,es,m,y,kS,⟨F.zL,F.a,F.fp,F.on,F.D.mono (by omega) (by omega)⟩,nk,hR,by omega,hE⟩
    simp?[fx,ha,k1]
   |false =>
    have er:xJ m = .bz:=by unfold xJ;rw[hd,if_pos rfl]
    rw[er] at k1;obtain⟨e,he,k2⟩:=ent m y S' _ F.zL F.D (11 * (i:Int)) (by omega) (by omega)
    obtain⟨S2,y2,m2,k3,T,z2,em⟩:=R3 F.zL F.D.z (by omega) e
    rw[F.a] at k2 k3;have kS2:=T.on.at kS nk;have nk2:S.length+4∉fp y2:=λq=>(T.fp _ q).elim nk λq=>by have:=aN kS;omega
    have hz:(es.length<sizeLine)=True:=jm (by omega)
    cases hr:iK m e with
    |none =>
     rw[hr] at k3 em;rw[if_pos rfl] at em;subst em;have F2:=F.WM T (F.D.Lr e z2 (by omega))
     refine⟨[some (.ls X),some uT,some sT,some (.int (dI:Int)),some (.hd S.length),some (.hd (S.length+4)),some (.int (0+(i:Int))),some e.t],S2.set (S.length+4) (.bS ((es++[e]).map bP.t)),.inl ?_,⟨_,_,rfl⟩,es++[e],_,y2,cy (aN kS2),⟨F2.zL.only (F:=[S.length+4]) (aP.set (by simp)) (λj hj q=>by rw[zav] at q;subst q;exact nk2 hj),F2.a,F2.fp,F2.on.fresh (F':=[S.length+4]) (aP.set (by simp)) (λj hj=>.inr (by rw[zav] at hj;omega)),F2.D⟩,nk2,by rw[rH hR,if_pos hr],by simp;omega,λx hx=>(zbd.mp hx).elim (hE x) λq=>by rw[zav.mp q];exact he⟩
     rw[zaO,tu,Bp];generalize e.t=et at *
     simp?[fx,ha,k1,k2,k3,kS2,hz,zbV]
    |some x =>
     rw[hr] at k3 em;rw[if_neg (by simp)] at em
     subst em;have hx:=R4 hr;refine⟨[some (.ls X),some uT,some sT,some (.int (dI:Int)),some (.hd S.length),some (.hd (S.length+4)),some (.int (0+(i:Int))),some e.t],S2,.inl ?_,⟨_,_,rfl⟩,es,_,y2,kS2,F.WM T (F.D.mono (by omega) (by omega)),nk2,hR,by omega,hE⟩
     generalize e.t=et at *
     simp?[fx,ha,k1,k2,k3,hx,zcs])
  rw[qi] at hle F;refine⟨es,m,S',?_,kS,F.on,hR,hle,hE⟩
  simp only[↓bp,bx,simprocAttr]
 obtain⟨es,m,S',e1,e2,e3,e5,e6,e7⟩:=Kg;refine⟨es,m,fM (S1:=S') (t:=.hd (S.length+4)) e1 (Lu e3) ?_,e5,e6,e7⟩
 unfold o_;have hq:cM S' (S.length+4)=some (es.map bP.t):=by unfold cM;rw[e2]
 have:(es.map bP.t).all (Tr.aF S.length)=true:=by
  rw[zaQ];intro t ht;obtain⟨e,_,rfl⟩:=zbj.mp ht;exact WL e _
 simp only[hq,show ¬ S.length+4<S.length by omega,if_false,gf,this,if_true]
theorem JT (e:fS g8 b f l τ S=Z)(I:Nat->En->Cs->Prop)(J:RS->Prop)(hc:∀i τ S,I i τ S->g8 S)(h0:I 0 τ S)
  (hs:∀i t τ S,l[i]? = some t->I i τ S->(∃jz S2,(b t τ S).bR f = .nx jz S2/\I (i+1) jz S2)\/((∃n S2,(b t τ S).bR f = .ex n S2/\J (.ex n S2))\/∃u S2,(b t τ S).bR f = .rt u S2/\J (.rt u S2))):(∃qe S',I l.length qe S'/\Z = .nx qe S')\/J Z:=by
 have key:∀(l:List Tr) (n:Nat) (τ:En) (S:Cs),(∀i t τ S,l[i]? = some t->I (n+i) τ S->(∃jz S2,(b t τ S).bR f = .nx jz S2/\I (n+i+1) jz S2)\/((∃n S2,(b t τ S).bR f = .ex n S2/\J (.ex n S2))\/∃u S2,(b t τ S).bR f = .rt u S2/\J (.rt u S2)))->I n τ S->(∃qe S',I (n+l.length) qe S'/\fS g8 b f l τ S = .nx qe S')\/J (fS g8 b f l τ S):=by
  intro l;induction l with
  |nil=>intro n τ S h h0;exact .inl ⟨τ,S,h0,by unfold fS;rw[if_pos (hc n τ S h0)]⟩
  |cons t r ih =>
   intro n τ S h h0;have e1:fS g8 b f (t::r) τ S=(b t τ S).bR λeN S1=>Xq (f eN S1) (fS g8 b f r):=by
    conv=>lhs;unfold fS
    rw[if_pos (hc n τ S h0)]
   rw[e1];have e2:∀X,(b t τ S).bR f=X->(X = .aG\/∃eN S1,b t τ S = .ok eN S1/\f eN S1=X)\/∃n S1,b t τ S = .ex n S1/\X = .ex n S1:=λX hX=>by
    cases hb:b t τ S with
    |ok eN S1=>rw[hb] at hX;exact .inl (.inr ⟨eN,S1,rfl,hX⟩)
    |ex n S1=>rw[hb] at hX;exact .inr ⟨n,S1,rfl,hX.symm⟩
    |aG=>rw[hb] at hX;exact .inl (.inl hX.symm)
   rcases h 0 t τ S rfl h0 with⟨jz,S2,e,h2⟩|⟨m,S2,e,hJ⟩|⟨u,S2,e,hJ⟩
   ·rcases e2 _ e with (z|⟨eN,S1,eb,ef⟩)|⟨m,S1,_,z⟩
    ·cases z
    ·rw[eb,R.fF,ef,OG]
     rcases ih (n+1) jz S2 (λi u τ S hu hI=>by
      have:=h (i+1) u τ S (by simpa using hu) (by rw[show n+(i+1)=n+1+i by omega];exact hI)
      rw[show n+(i+1)+1=n+1+i+1 by omega] at this
      exact this) h2 with⟨τ3,S3,h3,e3⟩|hJ
     ·exact .inl ⟨τ3,S3,by rw[FP,show n+(r.length+1)=n+1+r.length by omega];exact h3,e3⟩
     ·exact .inr hJ
    ·cases z
   ·rcases e2 _ e with (z|⟨eN,S1,eb,ef⟩)|⟨m',S1,eb,z⟩
    ·cases z
    ·rw[eb,R.fF,ef,ajz];exact .inr hJ
    ·rw[eb,R.pU,<-z];exact .inr hJ
   ·rcases e2 _ e with (z|⟨eN,S1,eb,ef⟩)|⟨m',S1,eb,z⟩
    ·cases z
    ·rw[eb,R.fF,ef,Xr];exact .inr hJ
    ·cases z
 rcases key l 0 τ S (λi t τ S ht hI=>by rw[zbW] at hI ⊢;exact hs i t τ S ht hI) h0 with⟨qe,S',h,e2⟩|hJ
 ·rw[zbW] at h
  exact .inl ⟨qe,S',h,by rw[<-e,e2]⟩
 ·rw[e] at hJ
  exact .inr hJ
theorem agb {x0 x1 x2 x3:Tr}:aR ("rules" : Str) ([("rules",x0),("teams",x1),("kept",x2),("current",x3)]:List (Str×Tr))=some x0:=by kernel_rfl
theorem agc {x0 v:Tr}:b_ ("teams" : Str) v ([("rules",x0)]:List (Str×Tr))=([("rules",x0),("teams",v)]:List (Str×Tr)):=by kernel_rfl
theorem agd {x0 x1 x2 x3:Tr}:aR ("teams" : Str) ([("rules",x0),("teams",x1),("kept",x2),("current",x3)]:List (Str×Tr))=some x1:=by kernel_rfl
theorem age {x0 x1 v:Tr}:b_ ("kept" : Str) v ([("rules",x0),("teams",x1)]:List (Str×Tr))=([("rules",x0),("teams",x1),("kept",v)]:List (Str×Tr)):=by kernel_rfl
theorem agf {x0 x1 x2 x3:Tr}:aR ("kept" : Str) ([("rules",x0),("teams",x1),("kept",x2),("current",x3)]:List (Str×Tr))=some x2:=by kernel_rfl
theorem agg {x0 x1 x2 x3 v:Tr}:b_ ("kept" : Str) v ([("rules",x0),("teams",x1),("kept",x2),("current",x3)]:List (Str×Tr))=([("rules",x0),("teams",x1),("kept",v),("current",x3)]:List (Str×Tr)):=by kernel_rfl
theorem agh {x0 x1 x2 v:Tr}:b_ ("current" : Str) v ([("rules",x0),("teams",x1),("kept",x2)]:List (Str×Tr))=([("rules",x0),("teams",x1),("kept",x2),("current",v)]:List (Str×Tr)):=by kernel_rfl
theorem agi {x0 x1 x2 x3:Tr}:aR ("current" : Str) ([("rules",x0),("teams",x1),("kept",x2),("current",x3)]:List (Str×Tr))=some x3:=by kernel_rfl
theorem agj {x0 x1 x2 x3 v:Tr}:b_ ("current" : Str) v ([("rules",x0),("teams",x1),("kept",x2),("current",x3)]:List (Str×Tr))=([("rules",x0),("teams",x1),("kept",x2),("current",v)]:List (Str×Tr)):=by kernel_rfl
theorem alq {x0 x1 x2 x3:Tr}:aR ("tell" : Str) ([("rules",x0),("teams",x1),("kept",x2),("current",x3)]:List (Str×Tr))=none:=by kernel_rfl
theorem alr {x0 x1 x2 x3:Tr}:aR ("entries" : Str) ([("rules",x0),("teams",x1),("kept",x2),("current",x3)]:List (Str×Tr))=none:=by kernel_rfl
theorem als {x0 x1 x2 x3:Tr}:aR ("match" : Str) ([("rules",x0),("teams",x1),("kept",x2),("current",x3)]:List (Str×Tr))=none:=by kernel_rfl
theorem alu {x0 x1 x2 x3:Tr}:aR ("need_number" : Str) ([("rules",x0),("teams",x1),("kept",x2),("current",x3)]:List (Str×Tr))=none:=by kernel_rfl
theorem alv {x0 x1 x2 x3:Tr}:aR ("retell" : Str) ([("rules",x0),("teams",x1),("kept",x2),("current",x3)]:List (Str×Tr))=none:=by kernel_rfl
theorem alw {x0 x1 x2 x3:Tr}:aR ("put_right" : Str) ([("rules",x0),("teams",x1),("kept",x2),("current",x3)]:List (Str×Tr))=none:=by kernel_rfl
theorem alx {x0 x1 x2 x3:Tr}:aR ("put_in" : Str) ([("rules",x0),("teams",x1),("kept",x2),("current",x3)]:List (Str×Tr))=none:=by kernel_rfl
theorem aly {x0 x1 x2 x3:Tr}:aR ("take_out" : Str) ([("rules",x0),("teams",x1),("kept",x2),("current",x3)]:List (Str×Tr))=none:=by kernel_rfl
theorem WN:(("Book" : Str)∈(["Book"]:List Str))=True:=eq_true (zav.mpr rfl)
open And in
noncomputable def qH:=intro @agb<|intro @agc<|intro @agd<|intro @age<|intro @agf<|intro @agg<|intro @agh<|intro @agi<|intro @agj<|intro @WN<|intro @alq<|intro @alr<|intro @als<|intro @alu<|intro @alv<|intro @alw<|intro @alx<|@aly
noncomputable def D_ (u:U)(sT:Tr)(kc:Nat)(cu:Tr):List (Str×Tr):=[("rules",u.t),("teams",sT),("kept",.hd kc),("current",cu)]
structure jA (S:Cs) (b kc:Nat) (u:U) (sT:Tr) (es:List bP) (cu:Tr):Prop where
 hb:S[b]? = some (.e9 "Book" (D_ u sT kc cu))
 hk:S[kc]? = some (.bS (es.map bP.t))
 ne:b≠kc
theorem jA.only (h:jA S b kc u sT es cu)(o:aP F S S')(hb:b∉F)(hk:kc∉F):jA S' b kc u sT es cu:=⟨o.at h.hb hb,o.at h.hk hk,h.ne⟩
theorem Ea (l:List Tr)(i:Nat):qa l (some (i:Int)) none=l.drop i:=by
 unfold qa;rw[HT.BL,HT.z8];by_cases h:i<=l.length
 ·rw[zcY h,zbk (by simp)]
 ·rw[zcP (by omega),zcj (zah _),zcj (by omega)]
  simp
theorem n_:∀{es:List bP} {m m':M} (i:Nat),gm m es=some m'->∃m2,gm m (es.take i)=some m2/\∀e,es[i]? = some e->iK m2 e=none
 |[],m,m',i,h=>⟨m,by simp[gm],λe he=>by simp at he⟩
 |a::r,m,m',0,h=>⟨m,rfl,λe he=>by
  cases he;unfold gm at h;split at h
  ·assumption
  ·cases h⟩
 |a::r,m,m',i+1,h=>by
  unfold gm at h;split at h
  ·rename_i q
   obtain⟨m2,k1,k2⟩:=n_ i h;refine⟨m2,?_,λe he=>k2 e (by simpa using he)⟩
   rw[zdg];unfold gm;rw[if_pos q];exact k1
  ·cases h
theorem kP {es:List bP}{m0 m:M}{e:bP}{i:Nat}(h:gm m0 (es.take i)=some m)(he:es[i]? = some e):gm m0 (es.take (i+1))=if iK m e=none then some (iM m e) else none:=by
 have:es.take (i+1)=es.take i++[e]:=by rw[zei,he];rfl
 rw[this,rH h]
theorem zQ:∀{es:List bP} {m:M} {i:Nat},gm m (es.take i)=none->gm m es=none
 |[],m,i,h=>by simpa using h
 |a::r,m,0,h=>by cases h
 |a::r,m,i+1,h=>by
  rw[zdg] at h;unfold gm at h ⊢
  split at h
  ·rename_i q
   rw[if_pos q];exact zQ h
  ·rename_i q
   rw[if_neg q]
noncomputable def Bad (m0:M)(fs:List bP)(i:Nat)(w:Str):Prop:=∃m e,gm m0 (fs.take i)=some m/\fs[i]? = some e/\iK m e=some w
theorem Bad.none {m0:M}{fs:List bP}{i:Nat}{w:Str}(h:Bad m0 fs i w):gm m0 fs=none:=by
 obtain⟨m,e,h1,h2,h3⟩:=h;exact zQ (i:=i+1) (by rw[kP h1 h2,h3];rfl)
section
variable {S:Cs}{b kc d:Nat}{u:U}{t0 t1:Str}{p0 p1:List Str}{es:List bP}{cu:Tr}
theorem WO (u:U)(t0 t1:Str)(l0:p0.length=d)(l1:p1.length=d)(d2:2<=d)(oH:d<=11)(S:Cs):∃S' y,Rj [.hd S.length,u.t,aE t0 t1 p0 p1] (S++[.e9 "Book" []]) = .ok .bz S'/\jA S' S.length (S.length+1) u (aE t0 t1 p0 p1) [] (.hd y.a)/\d9 S' (cH u t0 t1 p0 p1) y/\aP [] S S'/\(∀j∈fp y,S.length+2<=j):=by
 obtain⟨Sa,hSa⟩:∃Sa:Cs,Sa=S++[Ce.e9 "Book" [("rules",u.t),("teams",aE t0 t1 p0 p1),("kept",.hd (S.length+1))],Ce.bS []]:=⟨_,rfl⟩
 have la:Sa.length=S.length+2:=by rw[hSa];simp
 have e4:=wX u t0 t1 p0 p1 (by omega) (by omega) Sa
 have F:=Fm.init u t0 t1 l0 l1 d2 oH Sa;have hb:(kO Sa (cH u t0 t1 p0 p1))[S.length]? = some (Ce.e9 "Book" [("rules",u.t),("teams",aE t0 t1 p0 p1),("kept",.hd (S.length+1))]):=F.on.at (by rw[hSa];exact D3) (by simp)
 have hk:(kO Sa (cH u t0 t1 p0 p1))[S.length+1]? = some (Ce.bS []):=F.on.at (by rw[hSa];exact ga1) (by simp)
 have hl0:(p0.length<=sizeLine)=True:=bH (by omega)
 have Uq:(p1.length<=sizeLine)=True:=bH (by omega)
 rw[la] at e4;generalize hI:kO Sa (cH u t0 t1 p0 p1)=SI at *
 refine⟨SI.set S.length (.e9 "Book" (D_ u (aE t0 t1 p0 p1) (S.length+1) (.hd (oU (S.length+2)).a))),oU (S.length+2),?_,⟨cy (aN hb),by rw[cZ (by omega)];exact hk,by omega⟩,?_,?_,?_⟩
 ·unfold Rj D_
  unfold aE at *
  generalize u.t=ut at *
  rw[hSa,zba,zaL,zaL,K2] at e4;simp?[fx,qH,D3,sa0,zba,zae,hl0,Uq,e4,hb,oU]
 ·have:=F.zL
  rw[la] at this;exact this.only (F:=[S.length]) (aP.set (by simp)) λj hj q=>by
   have:=F.fp j (by rw[la];exact hj)
   rw[zav] at q;omega
 ·have o1:aP [] S Sa:=by rw[hSa];exact aP.sV
  exact (o1.trans F.on).fresh (F':=[S.length]) (aP.set (by simp)) λj hj=>.inr (by rw[zav] at hj;omega)
 ·intro j hj
  have:=F.fp j (by rw[la];exact hj)
  omega
theorem WQ (B:jA S b kc u (aE t0 t1 p0 p1) es (.hd y.a))(h:d9 S m y)(D:Dr m d n)(hn:n+1<=1000)(nb:b∉fp y)(nk:kc∉fp y)(hr:iK m e=none)(hl:es.length<=500):
  ∃S' y',V7 [.hd b,e.t] S = .ok .bz S'/\jA S' b kc u (aE t0 t1 p0 p1) (es++[e]) (.hd y'.a)/\d9 S' (iM m e) y'/\Dr (iM m e) d (n+1)/\b∉fp y'/\kc∉fp y'/\aP (kc::fp y) S S'/\∀j∈fp y',j∈fp y\/S.length<=j:=by
 obtain⟨S2,y2,k1,T,z2⟩:=Bf h D.z hn e hr;have nb2:b∉fp y2:=λq=>(T.fp _ q).elim nb λq=>by have:=aN B.hb;omega
 have nk2:kc∉fp y2:=λq=>(T.fp _ q).elim nk λq=>by have:=aN B.hk;omega
 have B2:=B.only T.on nb nk;have hb:=B.hb;have Sy:=B2.hb;have hk2:=B2.hk;have ha:=h.a;have hz:(es.length<sizeLine)=True:=jm (by omega)
 refine⟨S2.set kc (.bS ((es++[e]).map bP.t)),y2,?_,⟨by rw[cZ B.ne.symm,T.a];exact Sy,cy (aN hk2),B.ne⟩,T.zL.only (F:=[kc]) (aP.set (by simp)) (λj hj q=>by rw[zav] at q;subst q;exact nk2 hj),D.Lr e z2 hn,nb2,nk2,(T.on.mono λj hj=>by simp[hj]).trans (aP.set (by simp)),T.fp⟩
 unfold V7;unfold D_ at hb Sy;unfold mF at ha;rw[zaO,tu,Bp];generalize aE t0 t1 p0 p1=sT at *
 generalize u.t=ut at *
 generalize e.t=et at *
 simp?[fx,qH,hb,ha,k1,Sy,hk2,hz]
theorem Bg (B:jA S b kc u (aE t0 t1 p0 p1) es cu):Rm [.hd b] S = .ok (.ls (es.map bP.t)) S:=by
 have hb:=B.hb;have hk:=B.hk;unfold D_ at hb;unfold Rm;generalize aE t0 t1 p0 p1=sT at *
 generalize u.t=ut at *
 simp?[fx,qH,hb,hk]
theorem R6 {m:M}(B:jA S b kc u (aE t0 t1 p0 p1) es cu)(l0:p0.length=d)(l1:p1.length=d)(d2:2<=d)(oH:d<=11)(hR:gm (cH u t0 t1 p0 p1) es=some m)(hl:es.length<=500):
  ∃S' y,V9 [.hd b] S = .ok (.hd S.length) S'/\Fm S S' m y d (22+es.length):=by
 have F0:=Fm.init u t0 t1 l0 l1 d2 oH S;have e4:=wX u t0 t1 p0 p1 (by omega) (by omega) S
 have B0:=B.only F0.on (by simp) (by simp)
 have hb:=B.hb;have hb0:=B0.hb;have sZ:=B0.hk;unfold V9;unfold D_ at hb hb0;generalize hI:kO S (cH u t0 t1 p0 p1)=SI at *
 generalize hm0:cH u t0 t1 p0 p1=m0 at *
 generalize aE t0 t1 p0 p1=sT at *
 generalize hut:u.t=ut at *
 simp?[fx,qH,hb,e4,hb0,sZ];generalize hZ:fS _ _ _ _ _ _=Z
 obtain⟨τ,S',⟨⟨v,rfl⟩,m',y,F,qI⟩,rfl⟩:=gG hZ (λi τ S'=>(∃v,τ=[some (.hd b),some (.hd S.length),v])/\∃m y,Fm S S' m y d (22+i)/\gm m0 (es.take i)=some m) (λi τ S' ⟨_,m,y,F,_⟩=>by
  show cM S' kc=_
  unfold cM;rw[F.on.at B.hk (by simp)]) ⟨⟨_,rfl⟩,m0,_,F0,by rw[zcH];rfl⟩ (by
  rintro i t τ S' ht ⟨⟨v,rfl⟩,m',y,F,qI⟩
  rw[zat] at ht;cases he:es[i]? with
  |none=>rw[he] at ht;cases ht
  |some e =>
   rw[he] at ht;cases ht;have jU:=(zab.mp he).1
   obtain⟨m2,q1,q2⟩:=n_ i hR;rw[qI] at q1;cases q1;have hr:=q2 e he;obtain⟨S2,y2,k1,F2,_⟩:=F.aax (by omega) e hr
   have ha:=F.zL.a;rw[F.a] at ha;unfold mF at ha;refine⟨[some (.hd b),some (.hd S.length),some e.t],S2,.inl ?_,⟨_,rfl⟩,_,y2,F2,by rw[kP qI he,if_pos hr]⟩
   generalize e.t=et at *
   simp?[fx,qH,ha,k1])
 rw[zae] at F qI;rw[zaJ,hR] at qI;cases qI;exact⟨S',y,by simp only[↓bp,bx,simprocAttr],F⟩
theorem R7 {e:Nat}{fs:List bP}(B:jA S b kc u (aE t0 t1 p0 p1) es cu)(he:S[e]? = some (.bS (fs.map bP.t)))(ne:b≠e)(l0:p0.length=d)(l1:p1.length=d)(d2:2<=d)(oH:d<=11)(hl:fs.length<=500):
  (∃m S' y,gm (cH u t0 t1 p0 p1) fs=some m/\DR [.hd b,.hd e] S = .ok .bz S'/\jA S' b e u (aE t0 t1 p0 p1) fs (.hd y.a)/\d9 S' m y/\Dr m d (22+fs.length)/\(∀j∈fp y,S.length<=j)/\aP [b] S S') \/
  (∃S' i w,Bad (cH u t0 t1 p0 p1) fs i w/\DR [.hd b,.hd e] S = .ok (.tp [.int (i:Int),.str w]) S'/\aP [] S S'):=by
 have F0:=Fm.init u t0 t1 l0 l1 d2 oH S;have e4:=wX u t0 t1 p0 p1 (by omega) (by omega) S
 have B0:=B.only F0.on (by simp) (by simp)
 have hb:=B.hb;have hb0:=B0.hb;have he0:=F0.on.at he (by simp)
 unfold DR;unfold D_ at hb hb0;have lb:=aN B.hb;generalize hI:kO S (cH u t0 t1 p0 p1)=SI at *
 generalize hm0:cH u t0 t1 p0 p1=m0 at *
 generalize hsT:aE t0 t1 p0 p1=sT at *
 generalize hut:u.t=ut at *
 simp?[fx,qH,hb,e4,he0];generalize hZ:fS _ _ _ _ _ _=Z
 have key:=JT hZ (λi τ S'=>(∃v w x,τ=[some (.hd b),some (.hd e),some (.hd S.length),v,w,x])/\∃m y,Fm S S' m y d (22+i)/\gm m0 (fs.take i)=some m) (λz=>∃S' i w,Bad m0 fs i w/\z = .rt (.tp [.int ((i:Nat):Int),.str w]) S'/\aP [] S S') (λi τ S' ⟨_,m,y,F,_⟩=>by
  show cM S' e=_
  unfold cM;rw[F.on.at he (by simp)]) ⟨⟨_,_,_,rfl⟩,m0,_,F0,by rw[zcH];rfl⟩ (by
  rintro i t τ S' ht ⟨⟨v,w,x,rfl⟩,m',y,F,qI⟩
  obtain⟨w',hw,rfl⟩:=pq ht;rw[zat] at hw;obtain⟨e',Rx,rfl⟩:∃e',fs[i]? = some e'/\w'=e'.t:=by
   cases hx:fs[i]? with
   |none=>rw[hx] at hw;cases hw
   |some x=>rw[hx] at hw;cases hw;exact⟨x,rfl,rfl⟩
  have jU:=(zab.mp Rx).1
  have ha:=F.zL.a;rw[F.a] at ha;unfold mF at ha;cases hr:iK m' e' with
  |none =>
   obtain⟨S2,y2,k1,F2,_⟩:=F.aax (by omega) e' hr
   refine .inl ⟨[some (.hd b),some (.hd e),some (.hd S.length),some (.int (((0:Nat):Int)+(i:Int))),some e'.t,x],S2,?_,⟨_,_,_,rfl⟩,_,y2,F2,by rw[kP qI Rx,if_pos hr]⟩
   generalize e'.t=et at *
   simp?[fx,qH,ha,k1]
  |some wd =>
   obtain⟨S0,⟨G,e0⟩,k1⟩:=JM F.zL F.D.z (by omega) e' wd hr
   rw[F.a] at k1;refine .inr (.inr ⟨.tp [.int (i:Int),.str wd],S0++[.oQ "NotLet" [("rule",.str wd),("number",.int 0)]],?_,_,i,wd,⟨m',e',qI,Rx,hr⟩,rfl,?_⟩)
   rotate_left
   ·have on:aP [] S' (S0++[.oQ "NotLet" [("rule",.str wd),("number",.int 0)]]):=by
     rw[e0,zba];exact aP.sV
    exact F.on.trans on
   ·generalize e'.t=et at *
    simp?[fx,qH,ha,k1,D3,zav,aaw])
 rcases key with⟨τ,S',⟨⟨v,w,x,rfl⟩,m',y,F,qI⟩,rfl⟩|⟨S',i,w,k1,rfl,k2⟩
 ·rw[qZ,zae] at F qI
  rw[zaJ] at qI;have hb1:=F.on.at B.hb (by simp)
  have he1:=F.on.at he (by simp)
  have Uq:=aN hb1;have ns:∀j∈fp y,j∉[b]:=λj hj q=>by
   have:=F.fp j hj
   rw[zav] at q;omega
  refine .inl ⟨m',S'.set b (.e9 "Book" (D_ u sT e (.hd y.a))),y,qI,?_,⟨cy Uq,by rw[cZ ne];exact he1,ne⟩,F.zL.only (F:=[b]) (aP.set (by simp)) ns,F.D,F.fp,(F.on.mono (by simp)).trans (aP.set (by simp))⟩
  rw[F.a];unfold D_ at hb1 ⊢
  rw[hut] at *
  simp?[fx,qH,hb1,Uq,cy,eY]
 ·refine .inr ⟨S',i,w,k1,?_,k2⟩
  simp only[↓bp,bx,simprocAttr]
end
noncomputable def Pu (S:Cs)(b:Nat)(u:U)(t0 t1:Str)(p0 p1:List Str)(d:Nat)(fs:List bP)(X:R Tr):Prop:=
 (∃m S' kc y,gm (cH u t0 t1 p0 p1) fs=some m/\X = .ok .bz S'/\jA S' b kc u (aE t0 t1 p0 p1) fs (.hd y.a)/\S.length<=kc/\d9 S' m y/\Dr m d (22+fs.length)/\(∀j∈fp y,kc<j)/\aP [b] S S') \/
 (∃S' i w,Bad (cH u t0 t1 p0 p1) fs i w/\X = .ok (.tp [.int ((i:Nat):Int),.str w]) S'/\aP [] S S')
section
variable {S:Cs}{b kc d:Nat}{u:U}{t0 t1:Str}{p0 p1:List Str}{es fs:List bP}{cu:Tr}
theorem aaz (B:jA S b kc u (aE t0 t1 p0 p1) es cu)(l0:p0.length=d)(l1:p1.length=d)(d2:2<=d)(oH:d<=11)(hl:fs.length<=500):Pu S b u t0 t1 p0 p1 d fs (DR [.hd b,.hd S.length] (S++[.bS (fs.map bP.t)])):=by
 have lb:=aN B.hb;have o1:aP [] S (S++[.bS (fs.map bP.t)]):=aP.sV
 rcases R7 (e:=S.length) (fs:=fs) (B.only o1 (by simp) (by simp)) (qf _ _) (by omega) l0 l1 d2 oH hl with⟨m,S',y,k1,k2,k3,k4,k5,k6,k7⟩|⟨S',i,w,k1,k2,k3⟩
 ·exact .inl ⟨m,S',S.length,y,k1,k2,k3,zah _,k4,k5,λj hj=>by have:=k6 j hj;simp at this;omega,(o1.mono (by simp)).trans k7⟩
 ·exact .inr ⟨S',i,w,k1,k2,o1.trans k3⟩
theorem R8 (h:0<=n/\n<c)(t:Tr)(S:Cs):DP [t,.int n,.int c] S = .ok .bz S:=by
 unfold DP;have h1:(0<=n)=True:=eq_true h.1
 have h2:(n<c)=True:=eq_true h.2
 simp?[So,Bl,h1,h2]
theorem WR (B:jA S b kc u (aE t0 t1 p0 p1) es cu)(l0:p0.length=d)(l1:p1.length=d)(d2:2<=d)(oH:d<=11)(hl:es.length<=400)(ha:a<es.length)(e:bP):Pu S b u t0 t1 p0 p1 d (es.take a++e::es.drop (a+1)) (Gn [.hd b,.int a,e.t] S):=by
 have P:=aaz (fs:=es.take a++e::es.drop (a+1)) B l0 l1 d2 oH (by simp;omega)
 have hb:=B.hb;have hk:=B.hk;have c1:=A7 (es.map bP.t) a
 have c2:=Ea (es.map bP.t) (a+1)
 have n1:=λS=>R8 (n:=(a:Int)) (c:=(es.length:Int)) ⟨by omega,by omega⟩ (.hd b) S
 rw[show ((a+1:Nat):Int)=(a:Int)+1 by omega] at c2
 have z1:(es.length<=sizeLine)=True:=bH (by omega)
 have z2:(((es.map bP.t).take a).length+1<=sizeLine)=True:=bH (by simp;omega)
 have z3:(((es.map bP.t).take a).length+1+((es.map bP.t).drop (a+1)).length<=sizeLine)=True:=bH (by simp;omega)
 have ef:(es.take a++e::es.drop (a+1)).map bP.t=(es.map bP.t).take a++e.t::(es.map bP.t).drop (a+1):=by simp
 unfold Pu at P ⊢
 rw[ef] at P;have lm:(es.map bP.t).length=es.length:=by simp
 unfold D_ at hb;generalize es.map bP.t=L at *
 rcases P with⟨m,S',kc',y,k1,k2,k3⟩|⟨S',i,w,k1,k2,k3⟩
 ·refine .inl ⟨m,S',kc',y,k1,?_,k3⟩
  clear k3
  unfold Gn;generalize aE t0 t1 p0 p1=sT at *
  generalize u.t=ut at *
  generalize e.t=et at *
  simp?[fx,qH,hb,hk,n1,c1,c2,z1,z2,z3,lm,k2,pY,qX,zba,zaL,K2,zaj,FP,zaI]
 ·refine .inr ⟨S',i,w,k1,?_,k3⟩
  unfold Gn;generalize aE t0 t1 p0 p1=sT at *
  generalize u.t=ut at *
  generalize e.t=et at *
  simp?[fx,qH,hb,hk,n1,c1,c2,z1,z2,z3,lm,k2,pY,qX,zba,zaL,K2,zaj,FP,zaI]
theorem aps (B:jA S b kc u (aE t0 t1 p0 p1) es cu)(l0:p0.length=d)(l1:p1.length=d)(d2:2<=d)(oH:d<=11)(hl:es.length<=400)(ha:a<=es.length)(e:bP):Pu S b u t0 t1 p0 p1 d (es.take a++e::es.drop a) (Gp [.hd b,.int a,e.t] S):=by
 have P:=aaz (fs:=es.take a++e::es.drop a) B l0 l1 d2 oH (by simp;omega)
 have hb:=B.hb;have hk:=B.hk;have c1:=A7 (es.map bP.t) a
 have c2:=Ea (es.map bP.t) a
 have n1:=λS=>R8 (n:=(a:Int)) (c:=(es.length:Int)+1) ⟨by omega,by omega⟩ (.hd b) S
 have z1:(es.length<=sizeLine)=True:=bH (by omega)
 have z2:(((es.map bP.t).take a).length+1<=sizeLine)=True:=bH (by simp;omega)
 have z3:(((es.map bP.t).take a).length+1+((es.map bP.t).drop a).length<=sizeLine)=True:=bH (by simp;omega)
 have ef:(es.take a++e::es.drop a).map bP.t=(es.map bP.t).take a++e.t::(es.map bP.t).drop a:=by simp
 unfold Pu at P ⊢
 rw[ef] at P;have lm:(es.map bP.t).length=es.length:=by simp
 unfold D_ at hb;generalize es.map bP.t=L at *
 rcases P with⟨m,S',kc',y,k1,k2,k3⟩|⟨S',i,w,k1,k2,k3⟩
 ·refine .inl ⟨m,S',kc',y,k1,?_,k3⟩
  clear k3
  unfold Gp;generalize aE t0 t1 p0 p1=sT at *
  generalize u.t=ut at *
  generalize e.t=et at *
  simp?[fx,qH,hb,hk,n1,c1,c2,z1,z2,z3,lm,k2,pY,qX,zba,zaL,K2,zaj,FP,zaI]
 ·refine .inr ⟨S',i,w,k1,?_,k3⟩
  unfold Gp;generalize aE t0 t1 p0 p1=sT at *
  generalize u.t=ut at *
  generalize e.t=et at *
  simp?[fx,qH,hb,hk,n1,c1,c2,z1,z2,z3,lm,k2,pY,qX,zba,zaL,K2,zaj,FP,zaI]
end
theorem R9 (cs:List Int)(j:Nat)(v:Int):(cs.map Tr.int).set j (.int v)=(cs.set j v).map .int:=by rw[List.map_set]
theorem agk (ns:List Int)(Mv:ns.length<=63)(S:Cs):∃cs:List Int,IX [.kl (ns.map .int),.int 40] S = .ok (.ls (cs.map .int)) S/\cs.length<=40:=by
 unfold IX;generalize hB:dw Qd _=q
 have Kg:∃cs:List Int,q [.kl (ns.map .int),.int 40] S = .ok (.hd S.length) (S++[.bS (cs.map .int)])/\cs.length<=40:=by
  subst hB;simp only[↓bp,bx,simprocAttr];generalize hZ:fS _ _ _ _ _ _=Z
  obtain⟨τ,S',⟨⟨v,w,rfl⟩,cs,rfl,h1,h2,h3⟩,rfl⟩:=gG hZ (λi τ S'=>(∃v w,τ=[some (.kl (ns.map .int)),some (.int 40),some (.hd S.length),v,w])/\∃cs:List Int,S'=S++[.bS (cs.map .int)]/\cs.length<=40/\(i<40->cs.length=i)/\(40<=i->cs.length=40)) (λ_ _ _ _=>trivial) ⟨⟨_,_,rfl⟩,[],rfl,by simp,λ_=>rfl,λh=>by omega⟩ (by
   rintro i t τ S' ht ⟨⟨v,w,rfl⟩,cs,rfl,h1,h2,h3⟩
   obtain⟨w',hw,rfl⟩:=pq ht;rw[zat] at hw;obtain⟨n,hn,rfl⟩:∃n,ns[i]? = some n/\w' = .int n:=by
    cases hx:ns[i]? with
    |none=>rw[hx] at hw;cases hw
    |some x=>rw[hx] at hw;cases hw;exact⟨x,rfl,rfl⟩
   have hz:(cs.length<sizeLine)=True:=jm (by omega)
   by_cases q:i<40
   ·have q':((i:Int)<40)=True:=eq_true (by omega)
    refine⟨[some (.kl (ns.map .int)),some (.int 40),some (.hd S.length),some (.int (((0:Nat):Int)+(i:Int))),some (.int n)],S++[.bS ((cs++[n]).map .int)],.inl ?_,⟨_,_,rfl⟩,cs++[n],rfl,by rw[zaj,h2 q];simp;omega,λ_=>by simp[h2 q],λh=>by rw[zaj,h2 q];simp;omega⟩
    rw[zaO,tu,Bp];simp?[q',Bl,hz,D3,sa0]
   ·have q':¬ ((i:Int)<40):=by omega
    have lc:=h3 (by omega)
    obtain⟨x,_,ex⟩:=AB (l:=cs) (n:=(i:Int)) (m:=40) (by omega) (by decide)
    have et:iX (cs.map Tr.int) ((i:Int) % 40)=some (.int x):=by rw[D9,ex];rfl
    have ei:Bk cs.length ((i:Int) % 40)=some (i % 40):=by
     unfold Bk;rw[lc];rw[if_pos (by omega),if_pos (by omega)]
     congr 1
    refine⟨[some (.kl (ns.map .int)),some (.int 40),some (.hd S.length),some (.int (((0:Nat):Int)+(i:Int))),some (.int n)],S++[.bS ((cs.set (i % 40) (x * 31+n)).map .int)],.inl ?_,⟨_,_,rfl⟩,cs.set (i % 40) (x * 31+n),rfl,by simp[lc],λh=>by omega,λ_=>by simp[lc]⟩
    rw[<-R9];simp?[q',Bl,et,ei,D3,sa0])
  exact⟨cs,by simp only[↓bp,bx,simprocAttr],h1⟩
 obtain⟨cs,e1,e2⟩:=Kg;refine⟨cs,fM (S1:=S++[.bS (cs.map .int)]) (t:=.hd S.length) e1 (yo _ _) ?_,e2⟩
 unfold o_;have hq:cM (S++[.bS (cs.map .int)]) S.length=some (cs.map .int):=by unfold cM;rw[D3]
 have:(cs.map Tr.int).all (Tr.aF S.length)=true:=by
  rw[zaQ];intro t ht;obtain⟨e,_,rfl⟩:=zbj.mp ht;rfl
 simp only[hq,zaK,if_false,gf,this,if_true]
theorem L1m:(1000000:Nat)<=sizeLine:=by decide
theorem aaA:∀(fs:List Em) (bY:Str),(∀f∈fs,∃s:Str,f τ S = .ok (.str s) S/\s.length<=1000)->bY.length+1000 * fs.length<=1000000->∃s,fJ fs bY τ S = .ok (.str s) S
 |[],bY,_,hl=>⟨bY,by
  show (if bY.length<=sizeLine then _ else _)=_
  rw[if_pos (zag (by simpa using hl) L1m)]⟩
 |f::r,bY,h,hl=>by
  obtain⟨s,e,hs⟩:=h f (by simp)
  have HH:(bY++s).length+1000 * r.length<=1000000:=by
   rw[zcK];simp only[FP] at hl;omega
  obtain⟨z,ez⟩:=aaA r (bY++s) (λg hg=>h g (by simp[hg])) HH
  refine⟨z,?_⟩
  show (f τ S).aF _=_
  rw[e,R.dZ];show (if (bY++s).length<=sizeLine then _ else _)=_
  rw[if_pos (zag (by omega:(bY++s).length<=1000000) L1m)]
  exact ez
theorem R_ (h:x.length<=1000):∃s:Str,mC (.str x) τ S = .ok (.str s) S/\s.length<=1000:=⟨x,rfl,h⟩
section
variable {S:Cs}{b kc d:Nat}{u:U}{t0 t1:Str}{p0 p1:List Str}{es:List bP}{cu:Tr}
theorem WS (u:U)(t0 t1:Str)(l0:p0.length=d)(l1:p1.length=d)(d2:2<=d)(oH:d<=11)(fs:List bP)(hl:fs.length<=500)(S:Cs):
  (∃m S' y,gm (cH u t0 t1 p0 p1) fs=some m/\zF [u.t,aE t0 t1 p0 p1,.ls (fs.map bP.t)] S = .ok (.tp [.hd S.length,.bz]) S'/\Fm S S' m y d (22+fs.length)) \/
  (∃S' i w,Bad (cH u t0 t1 p0 p1) fs i w/\zF [u.t,aE t0 t1 p0 p1,.ls (fs.map bP.t)] S = .ok (.tp [.hd S.length,.tp [.int (i:Int),.str w]]) S'/\aP [] S S'):=by
 have F0:=Fm.init u t0 t1 l0 l1 d2 oH S;have e4:=wX u t0 t1 p0 p1 (by omega) (by omega) S
 unfold zF;generalize hI:kO S (cH u t0 t1 p0 p1)=SI at *
 generalize hm0:cH u t0 t1 p0 p1=m0 at *
 generalize aE t0 t1 p0 p1=sT at *
 generalize u.t=ut at *
 simp?[fx,e4];generalize hZ:fS _ _ _ _ _ _=Z
 have key:=JT hZ (λi τ S'=>(∃v w x,τ=[some ut,some sT,some (.ls (fs.map bP.t)),some (.hd S.length),v,w,x])/\∃m y,Fm S S' m y d (22+i)/\gm m0 (fs.take i)=some m) (λz=>∃S' i w,Bad m0 fs i w/\z = .rt (.tp [.hd S.length,.tp [.int ((i:Nat):Int),.str w]]) S'/\aP [] S S') (λ_ _ _ _=>trivial) ⟨⟨_,_,_,rfl⟩,m0,_,F0,by rw[zcH];rfl⟩ (by
  rintro i t τ S' ht ⟨⟨v,w,x,rfl⟩,m',y,F,qI⟩
  obtain⟨w',hw,rfl⟩:=pq ht;rw[zat] at hw;obtain⟨e',Rx,rfl⟩:∃e',fs[i]? = some e'/\w'=e'.t:=by
   cases hx:fs[i]? with
   |none=>rw[hx] at hw;cases hw
   |some x=>rw[hx] at hw;cases hw;exact⟨x,rfl,rfl⟩
  have jU:=(zab.mp Rx).1
  obtain⟨S2,y2,m2,k1,T,z2,em⟩:=R3 F.zL F.D.z (by omega) e'
  rw[F.a] at k1;cases hr:iK m' e' with
  |none =>
   rw[hr] at k1 em;rw[if_pos rfl] at em;subst em;refine .inl ⟨[some ut,some sT,some (.ls (fs.map bP.t)),some (.hd S.length),some (.int (((0:Nat):Int)+(i:Int))),some e'.t,some (.str "")],S2,?_,⟨_,_,_,rfl⟩,_,y2,F.WM T (F.D.Lr e' z2 (by omega)),by rw[kP qI Rx,if_pos hr]⟩
   generalize e'.t=et at *
   generalize fs.map bP.t=L at *
   simp?[fx,k1,zbV]
  |some wd =>
   rw[hr] at k1 em;rw[if_neg (by simp)] at em
   subst em;have hx:=R4 hr;refine .inr (.inr ⟨.tp [.hd S.length,.tp [.int (i:Int),.str wd]],S2,?_,S2,i,wd,⟨_,e',qI,Rx,hr⟩,rfl,F.on.fresh T.on λj hj=>.inr (F.fp j hj)⟩)
   generalize e'.t=et at *
   generalize fs.map bP.t=L at *
   simp?[fx,k1,hx,zcs])
 rcases key with⟨τ,S',⟨⟨v,w,x,rfl⟩,m',y,F,qI⟩,rfl⟩|⟨S',i,w,k1,rfl,k2⟩
 ·rw[qZ,zae] at F qI
  rw[zaJ] at qI;exact .inl ⟨m',S',y,qI,by simp only[↓bp,bx,simprocAttr],F⟩
 ·exact .inr ⟨S',i,w,k1,by simp only[↓bp,bx,simprocAttr],k2⟩
end
theorem WT (h0: -(10 ^ 35)<i)(h1:i<10 ^ 35):(Str.ofString (toString i)).length<=1000:=by
 by_cases h:0<=i
 ·exact zag (zcS h (by decide:0<35) h1) (by decide)
 ·have:=zcS (v:=0 - i) (by omega) (by decide:0<35) (by omega)
  rw[zej] at this;rw[PyProof.Rows.toString_neg (by omega),zej,String.length_append]
  have e:("-" : String).length=1:=by decide +kernel
  omega
theorem WU (h:τ[i]? = some (some (.int p)))(h0: -(10 ^ 35)<p)(h1:p<10 ^ 35):∃s:Str,OB (aa i) τ S = .ok (.str s) S/\s.length<=1000:=by
 refine⟨Str.ofString (toString p),?_,WT h0 h1⟩
 show (aa i τ S).aF _=_
 have e:aa i τ S = .ok (.int p) S:=by unfold aa;rw[h]
 rw[e,R.dZ];show (if p.natAbs.log2<1920 then _ else _)=_
 rw[if_pos];have h2:p.natAbs<2 ^ 120:=by omega
 by_cases hz:p.natAbs=0
 ·rw[hz];decide
 ·have:=(Nat.log2_lt hz).mpr h2
  omega
theorem WV (h:¬ (0<=n/\n<c))(h0: -(10 ^ 35)<n)(h1:n<10 ^ 35)(t:Tr)(S:Cs):DP [t,.int n,.int c] S = .ex S.length (S++[.oQ "NoEntry" [("number",.int n)]]):=by
 unfold DP;generalize hJ:fJ _ _=J
 obtain⟨s,hs⟩:∃s,J [some t,some (.int n),some (.int c)] S = .ok (.str s) S:=by
  subst hJ;refine aaA _ _ (λf hf=>?_) (by decide)
  simp only[zam,zay,or_false] at hf;rcases hf with rfl|rfl
  ·exact R_ (by decide +kernel)
  ·exact WU rfl h0 h1
 by_cases a:0<=n
 ·have b:¬ n<c:=λz=>h ⟨a,z⟩
  simp?[So,Bl,a,b,hs]
 ·simp?[So,Bl,a,hs]
section
variable {S:Cs}{b kc d:Nat}{u:U}{t0 t1:Str}{p0 p1:List Str}{es:List bP}{cu:Tr}
theorem agl (n:Int):aR (Str.ofString "number") [(Str.ofString "number",Tr.int n)]=some (.int n):=by kernel_rfl
theorem agm (B:jA S b kc u (aE t0 t1 p0 p1) es cu)(hl:es.length<=400)(hw:w=0\/w=1\/w=2)(h:¬ (0<=n/\n<(es.length:Int)+(if w=2 then 1 else 0)))(h0: -(10 ^ 35)<n)(h1:n<10 ^ 35)(e:bP):
  wQ [.hd b,.int w,.int n,e.t] S = .ok (.bl true) (S++[.oQ "NoEntry" [("number",.int n)]]):=by
 have hb:=B.hb;have hk:=B.hk;have z1:(es.length<=sizeLine)=True:=bH (by omega)
 have lm:(es.map bP.t).length=es.length:=by simp
 have n1:=λc (hc:¬ (0<=n/\n<c))=>WV hc h0 h1 (.hd b) S
 unfold D_ at hb;generalize es.map bP.t=L at *
 generalize e.t=et at *
 generalize aE t0 t1 p0 p1=sT at *
 generalize u.t=ut at *
 unfold wQ;rcases hw with rfl|rfl|rfl
 ·have k:=n1 (es.length:Int) (by simpa using h)
  have k2:Gn [.hd b,.int n,et] S = .ex S.length (S++[.oQ "NoEntry" [("number",.int n)]]):=by
   unfold Gn;simp?[fx,qH,hb,hk,z1,lm,k,R.Fd,R.pU]
  simp?[fx,qH,uP,AL,j8,hb,k2,D3,zam,agl]
 ·have k:=n1 (es.length:Int) (by simpa using h)
  have k2:V8 [.hd b,.int n] S = .ex S.length (S++[.oQ "NoEntry" [("number",.int n)]]):=by
   unfold V8;simp?[fx,qH,hb,hk,z1,lm,k,R.Fd,R.pU]
  simp?[fx,qH,uP,AL,j8,hb,k2,D3,zam,agl]
 ·have k:=n1 ((es.length:Int)+1) (by simpa using h)
  have k2:Gp [.hd b,.int n,et] S = .ex S.length (S++[.oQ "NoEntry" [("number",.int n)]]):=by
   unfold Gp;simp?[fx,qH,hb,hk,z1,lm,k,R.Fd,R.pU]
  simp?[fx,qH,uP,AL,j8,hb,k2,D3,zam,agl]
noncomputable def Nz (m:M):Prop:=∀x∈m.p0++m.p1,¬ x=zP
theorem Nz.Lr (h:Nz m)(he:EZ e):Nz (iM m e):=by
 have hf:∀m':M,(oG m').p0=m'.p0/\(oG m').p1=m'.p1:=λm'=>⟨RP m',RQ m'⟩
 unfold Nz iM;rw[(hf _).1,(hf _).2];have xD:∀e,∀x∈(match gX m with|some x=>nv m x e|none=>m).p0++(match gX m with|some x=>nv m x e|none=>m).p1,¬ x=zP:=λe=>by
  cases gX m with
  |none=>exact h
  |some x =>
   obtain⟨h1,h2,_⟩:=RU m x e;simp only[h1,h2];exact h
 cases e with
 |dg t f o b=>exact h
 |swap a b =>
  obtain⟨h1,h2,_⟩:=aar m a b;show ∀x∈(GD m a b).p0++(GD m a b).p1,¬ x=zP
  rw[h1,h2,<-zaO];intro x hx;obtain⟨z,hz,rfl⟩:=zbj.mp hx;unfold ny;split
  ·exact he
  ·exact h z hz
 |ig=>exact h
 |l8 =>
  obtain⟨h1,h2,_⟩:=aas m;show ∀x∈(GF m).p0++(GF m).p1,¬ x=zP
  rw[h1,h2];exact h
 |qw b=>exact xD _
 |mJ b=>exact xD _
 |qx b=>exact xD _
 |qy b=>exact xD _
 |fW=>exact xD _
theorem JU:∀{es:List bP} {m m':M},gm m es=some m'->Nz m->(∀e∈es,EZ e)->Nz m'
 |[],m,m',h,hz,_=>by cases h;exact hz
 |e::r,m,m',h,hz,he=>by
  unfold gm at h;split at h
  ·exact JU h (hz.Lr (he e (by simp))) λx hx=>he x (by simp[hx])
  ·cases h
theorem Nz.ref (h:Nz m):∃w,iK m (.mJ zP)=some w:=by
 unfold iK;split
 ·exact⟨_,rfl⟩
 ·show ∃w,eF m (.mJ zP)=some w
  unfold eF;cases gX m with
  |none=>exact⟨_,rfl⟩
  |some x =>
   show ∃w,x.wV (iu m x.bZ) zP=some w
   unfold I.wV;split
   ·exact⟨_,rfl⟩
   ·rw[if_pos]
    ·exact⟨_,rfl⟩
    ·intro z
     have:zP∈m.p0++m.p1:=by
      unfold iu at z;split at z
      ·exact zbP _ z
      ·exact zaG _ z
     exact h zP this rfl
theorem agn (B:jA S b kc u (aE t0 t1 p0 p1) es cu)(l0:p0.length=d)(l1:p1.length=d)(d2:2<=d)(oH:d<=11)(hl:es.length<=400){m:M}(hR:gm (cH u t0 t1 p0 p1) es=some m)(hz:Nz (cH u t0 t1 p0 p1))(he:∀e∈es,EZ e){w:Int}(hw:w=0\/w=2){a:Nat}(ha:(a:Int)<(es.length:Int)+(if w=2 then 1 else 0)):
  ∃S',wQ [.hd b,.int w,.int (a:Int),(bP.mJ zP).t] S = .ok .bz S'/\aP [] S S':=by
 have hb:=B.hb;unfold D_ at hb;have aG:∀r:List bP,∀fs,fs=es.take a++bP.mJ zP::r->a<=es.length->gm (cH u t0 t1 p0 p1) fs=none:=λr fs hfs hle=>by
  obtain⟨m2,k1,_⟩:=n_ a hR;obtain⟨w,k2⟩:=(JU k1 hz λe hx=>he e (zcZ hx)).ref
  have lt:(es.take a).length=a:=by rw[zbh];omega
  have h1:fs.take a=es.take a:=by rw[hfs,List.take_append_of_le_length (by omega),zbk (by omega)]
  have h2:fs[a]? = some (.mJ zP):=by rw[hfs,zaq (by omega),lt,Nat.sub_self];rfl
  exact Bad.none (i:=a) (w:=w) ⟨m2,_,by rw[h1];exact k1,h2,k2⟩
 unfold wQ;rcases hw with rfl|rfl
 ·have ha:(a:Int)<(es.length:Int)+0:=ha
  have P:=WR B l0 l1 d2 oH hl (a:=a) (by omega) (.mJ zP)
  rcases P with⟨m',S',kc',y,k1,k2,_⟩|⟨S',i,w,k1,k2,k3⟩
  ·rw[aG _ _ rfl (by omega)] at k1
   cases k1
  ·refine⟨S',?_,k3⟩
   generalize (bP.mJ zP).t=et at *
   generalize aE t0 t1 p0 p1=sT at *
   generalize u.t=ut at *
   simp?[fx,qH,uP,AL,j8,hb,k2]
 ·have ha:(a:Int)<(es.length:Int)+1:=ha
  have P:=aps B l0 l1 d2 oH hl (a:=a) (by omega) (.mJ zP)
  rcases P with⟨m',S',kc',y,k1,k2,_⟩|⟨S',i,w,k1,k2,k3⟩
  ·rw[aG _ _ rfl (by omega)] at k1
   cases k1
  ·refine⟨S',?_,k3⟩
   generalize (bP.mJ zP).t=et at *
   generalize aE t0 t1 p0 p1=sT at *
   generalize u.t=ut at *
   simp?[fx,qH,uP,AL,j8,hb,k2]
end
theorem w_ (neg:Bool)(es:List bP)(S:Cs):cY neg (.ls (es.map bP.t)) (.ls (es.map bP.t)) S = .ok (.bl (!neg)) S:=by
 refine D6 (.inl rfl) (.inl rfl) ?_ (zO λt ht=>?_)
 ·rw[gh,zdM,zaQ]
  intro e _;cases e<;>rfl
 ·obtain⟨e,_,rfl⟩:=zbj.mp ht
  cases e<;>simp[bP.t,B.t,Tr.dp,Tr.sI]
theorem law (ns:List Int)(Mv:ns.length<=63):∃S,Rq [.kl (ns.map .int)] [] = .ok (.bl true) S:=by
 obtain⟨cs,ec,lc⟩:=agk ns Mv []
 obtain⟨u,eu,u2,u11⟩:=RW cs (by omega) []
 obtain⟨d,hd⟩:=zbI (by omega:0<=u.d)
 have d2:2<=d:=by omega
 have oH:d<=11:=by omega
 obtain⟨t0,t1,p0,p1,et,l0,l1,hnm⟩:=RY cs (by omega) d d2 oH []
 have hg5:∀S,bM u.t (.int 5) S = .ok (.int (d:Int)) S:=λS=>by rw[<-hd];rfl
 obtain⟨mn,hmn,avd⟩:∃mn:Nat,(∀S,yh [.int 30,.int (3 * (cs.length:Int))] S = .ok (.int (mn:Int)) S)/\mn<=30:=by
  by_cases q:30<=3 * cs.length
  ·exact⟨30,λS=>by unfold yh;simp only[];split<;>first|rfl | (congr 2;omega)|omega,zah _⟩
  ·exact⟨3 * cs.length,λS=>by unfold yh;simp only[];split<;>first|rfl | (congr 2;omega)|omega,by omega⟩
 obtain⟨es,mN,ee,hR,hle,hE⟩:=GI cs (by omega) u t0 t1 l0 l1 d2 oH mn (by omega) []
 have hz:Nz (cH u t0 t1 p0 p1):=λx hx z=>by
  have:=hnm x hx
  rw[z,JS] at this;omega
 obtain⟨S1,y1,eb,B1,M1,_,f1⟩:=WO u t0 t1 l0 l1 d2 oH []
 have eb:Rj [.hd 0,u.t,aE t0 t1 p0 p1] [.e9 "Book" []] = .ok .bz S1:=eb
 have B1:jA S1 0 1 u (aE t0 t1 p0 p1) [] (.hd y1.a):=B1
 have f1:∀j∈fp y1,2<=j:=f1
 have D1:Dr (cH u t0 t1 p0 p1) d 22:=(Fm.init u t0 t1 l0 l1 d2 oH []).D
 have zc:(cs.length<=sizeLine)=True:=bH (by omega)
 have fre:=λ(S:Cs)=>WS u t0 t1 l0 l1 d2 oH es (by omega) S
 have drw:=λ(k dI:Int) (k0:0<=k) (k1:k<10000) (h0:0<dI) (h1:dI<1000000) (S:Cs)=>And.intro (D8 cs k h0) (wZ cs (by omega) k0 k1 h0 h1 S)
 have WW:=λ(S:Cs) (cu:Tr) (B:jA S 0 1 u (aE t0 t1 p0 p1) es cu) (w:Int) (hw:w=0\/w=2) (a:Nat) (ha:(a:Int)<(es.length:Int)+(if w=2 then 1 else 0))=>agn B l0 l1 d2 oH (by omega) hR hz hE hw ha
 have mat:=λ(S:Cs) (cu:Tr) (B:jA S 0 1 u (aE t0 t1 p0 p1) es cu)=>R6 B l0 l1 d2 oH hR (by omega)
 have tb:(bP.mJ zP).t = .tp [.str "in",.str "nobodyzz"]:=rfl
 rw[tb] at WW;unfold Rq;have lX:(cs.map Tr.int).length=cs.length:=by simp
 have zE:(es.length<=sizeLine)=True:=bH (by omega)
 have lE:(es.map bP.t).length=es.length:=by simp
 generalize hX:cs.map Tr.int=X at *
 generalize hm0:cH u t0 t1 p0 p1=m0 at *
 generalize hF:ai ou (cC Fw _) _=FE
 have Bq:∃Bq:Int,0<=Bq/\Bq<10 ^ 30/\∀ τ S,FE (some (.kl (ns.map .int))::τ) S = .ok (.int Bq) S:=by
  have c1:=A7 (ns.map Tr.int) 1
  have na:(Int.natAbs 10<18446744073709551616)=True:=eq_true (by decide)
  rw[show ((1:Nat):Int)=1 from rfl] at c1;subst hF;cases ns with
  |nil=>exact⟨0,by decide,by decide,λτ S=>by
    have c0:qa ([]:List Tr) none (some 1)=[]:=rfl
    have i0:mZ []=some []:=rfl
    simp?[qX,c0,i0,na,Bp,List.sum_nil]⟩
  |cons x r=>exact⟨x % 10 ^ 30,zcA _ (by decide),zci _ (by decide),λτ S=>by
    rw[tu] at *
    have i0:mZ [Tr.int x]=some [x]:=rfl
    simp?[qX,c1,zdg,zcH,i0,na,List.sum_cons,List.sum_nil]⟩
 obtain⟨Bq,avg,avh,apt⟩:=Bq;generalize hIn:o9 (sM iL (jX _)) _ _=IN
 generalize hI2:cW (mD _ _) (cW _ _ _) _=I2
 have apu:∀(w:Int) (S:Cs) (cu:Tr) (v6 gx gp K0:Option Tr),(w=0\/w=1\/w=2)->jA S 0 1 u (aE t0 t1 p0 p1) es cu->∃S' WX WY WZ,IN [some (.kl (ns.map .int)),some (.ls X),some u.t,some (aE t0 t1 p0 p1),some (.ls (es.map bP.t)),some (.hd 0),v6,some (.int (es.length:Int)),some (.int Bq),some (.int w),gx,gp,K0] S = .nx [some (.kl (ns.map .int)),some (.ls X),some u.t,some (aE t0 t1 p0 p1),some (.ls (es.map bP.t)),some (.hd 0),v6,some (.int (es.length:Int)),some (.int Bq),some (.int w),WX,WY,WZ] S'/\aP [] S S':=by
  intro w S cu v6 gx gp K0 hw B;subst hIn;generalize hM:jX _=ML
  have hl:∃LL,ML [some (.kl (ns.map .int)),some (.ls X),some u.t,some (aE t0 t1 p0 p1),some (.ls (es.map bP.t)),some (.hd 0),v6,some (.int (es.length:Int)),some (.int Bq),some (.int w),gx,gp,K0] S = .ok (.ls LL) S/\LL=[.int (-1),.int (-Bq - 1),.int (es.length:Int),.int ((es.length:Int)+1),.int ((es.length:Int)+10),.int ((es.length:Int)+2+Bq)]:=by
   subst hM;simp?[fx,dF];exact⟨_,rfl,rfl⟩
  obtain⟨LL,hl,hLL⟩:=hl;simp?[fx,hl];generalize hZ:fS _ _ _ _ _ _=Z
  obtain⟨τ,S',⟨WX,WY,WZ,rfl,o⟩,rfl⟩:=gG hZ (λi τ S'=>∃WX WY WZ,τ=[some (.kl (ns.map .int)),some (.ls X),some u.t,some (aE t0 t1 p0 p1),some (.ls (es.map bP.t)),some (.hd 0),v6,some (.int (es.length:Int)),some (.int Bq),some (.int w),WX,WY,WZ]/\aP [] S S') (λ_ _ _ _=>trivial) ⟨_,_,_,rfl,aP.refl⟩ (by
   rintro i t τ S' ht ⟨WX,WY,WZ,rfl,o⟩
   have hm:=zax ht
   rw[hLL] at hm;obtain⟨n,rfl,hn,n0,n1⟩:∃n,t = .int n/\(n<0\/(es.length:Int)<=n) /\ -(10 ^ 35)<n/\n<10 ^ 35:=by
    simp only[zam,zay,or_false] at hm;rcases hm with rfl|rfl|rfl|rfl|rfl|rfl<;>exact⟨_,rfl,by omega,by omega,by omega⟩
   have B':=B.only o (by simp) (by simp)
   by_cases hc:w=2/\n=(es.length:Int)
   ·obtain⟨rfl,rfl⟩:=hc
    obtain⟨S2,k1,o2⟩:=WW S' cu B' 2 (.inr rfl) es.length (by simp;omega)
    have B2:=B'.only o2 (by simp) (by simp)
    have ke:=Bg B2;have g:=w_ true es S2;have Sy:=B2.hb;unfold D_ at Sy;refine⟨[some (.kl (ns.map .int)),some (.ls X),some u.t,some (aE t0 t1 p0 p1),some (.ls (es.map bP.t)),some (.hd 0),v6,some (.int (es.length:Int)),some (.int Bq),some (.int 2),some (.int (es.length:Int)),some .bz,some .bz],S2,.inl ?_,⟨_,_,_,rfl,o.trans o2⟩⟩
    generalize es.map bP.t=L at ke g ⊢
    simp?[fx,qH,k1,Sy,ke,↓g]
   ·have k1:=agm B' (by omega) (w:=w) (n:=n) hw (by split<;>omega) n0 n1 (.mJ zP)
    rw[tb] at k1;have o2:aP [] S' (S'++[.oQ "NoEntry" [("number",.int n)]]):=aP.sV
    have B2:=B'.only o2 (by simp) (by simp)
    have ke:=Bg B2;have g:=w_ true es (S'++[.oQ "NoEntry" [("number",.int n)]])
    have Sy:=B2.hb;unfold D_ at Sy;refine⟨[some (.kl (ns.map .int)),some (.ls X),some u.t,some (aE t0 t1 p0 p1),some (.ls (es.map bP.t)),some (.hd 0),v6,some (.int (es.length:Int)),some (.int Bq),some (.int w),some (.int n),some (.bl true),some (.bl true)],S'++[.oQ "NoEntry" [("number",.int n)]],.inl ?_,⟨_,_,_,rfl,o.trans o2⟩⟩
    generalize es.map bP.t=L at ke g ⊢
    generalize B8:S'++[Ce.oQ "NoEntry" [("number",.int n)]]=S2 at *
    have bt:(true == true)=true:=rfl
    by_cases h2:w=2
    ·have h3:¬ n=(es.length:Int):=λz=>hc ⟨h2,z⟩
     subst h2;simp?[fx,qH,k1,h3,bt,Sy,ke,↓g]
    ·simp?[fx,qH,k1,h2,bt,Sy,ke,↓g])
  exact⟨S',WX,WY,WZ,rfl,o⟩
 have apv:∀(w:Int) (S:Cs) (cu:Tr) (v6 gx gp K0:Option Tr),(w=0\/w=1\/w=2)->jA S 0 1 u (aE t0 t1 p0 p1) es cu->∃S',I2 [some (.kl (ns.map .int)),some (.ls X),some u.t,some (aE t0 t1 p0 p1),some (.ls (es.map bP.t)),some (.hd 0),v6,some (.int (es.length:Int)),some (.int Bq),some (.int w),gx,gp,K0] S = .nx [some (.kl (ns.map .int)),some (.ls X),some u.t,some (aE t0 t1 p0 p1),some (.ls (es.map bP.t)),some (.hd 0),v6,some (.int (es.length:Int)),some (.int Bq),some (.int w),gx,gp,K0] S'/\aP [] S S':=by
  intro w S cu v6 gx gp K0 hw B;subst hI2;by_cases hp:0<(es.length:Int)
  ·by_cases h1:w=1
   ·refine⟨S,?_,aP.refl⟩
    generalize es.map bP.t=L at *
    simp?[fx,Eo,Fo,hp,h1]
   ·obtain⟨⟨a1,b1⟩,e1⟩:=drw (3500+w) (es.length:Int) (by omega) (by omega) hp (by omega) S
    obtain⟨a,ha⟩:=zbI a1;rw[ha] at e1 b1;obtain⟨S2,k1,o2⟩:=WW S cu B w (by omega) a (by split<;>omega)
    refine⟨S2,?_,o2⟩
    generalize es.map bP.t=L at *
    simp?[fx,Eo,Fo,hp,h1,e1,k1]
  ·refine⟨S,?_,aP.refl⟩
   generalize es.map bP.t=L at *
   simp?[fx,Eo,Fo,hp]
 clear hIn hI2 hF WW drw
 simp?[fx,qH,ec,eu,↓hg5,et,lX,zc,↓hmn,ee,eb];generalize hZ:fS _ _ _ _ _ _=Z
 obtain⟨τ,S2,⟨⟨v6,rfl⟩,m',y,B,Mt,D,qI,nb,nk⟩,rfl⟩:=gG hZ (λi τ S'=>(∃v,τ=[some (.kl (ns.map .int)),some (.ls X),some u.t,some (aE t0 t1 p0 p1),some (.ls (es.map bP.t)),some (.hd 0),v,none,none,none,none,none,none])/\∃m y,jA S' 0 1 u (aE t0 t1 p0 p1) (es.take i) (.hd y.a)/\d9 S' m y/\Dr m d (22+i)/\gm m0 (es.take i)=some m/\0∉fp y/\1∉fp y) (λ_ _ _ _=>trivial) ⟨⟨_,rfl⟩,m0,y1,B1,M1,D1,by rw[zcH];rfl,λq=>by have:=f1 _ q;omega,λq=>by have:=f1 _ q;omega⟩ (by
  rintro i t τ S' ht ⟨⟨v,rfl⟩,m',y,B,Mt,D,qI,nb,nk⟩
  rw[zat] at ht;cases he:es[i]? with
  |none=>rw[he] at ht;cases ht
  |some e =>
   rw[he] at ht;cases ht;have jU:=(zab.mp he).1
   obtain⟨m2,q1,q2⟩:=n_ i hR;rw[qI] at q1;cases q1;have hr:=q2 e he;obtain⟨S2,y2,k1,k2,k3,k4,k5,k6,_,_⟩:=WQ (e:=e) B Mt D (by omega) nb nk hr (by simp;omega)
   have hb:=B.hb;unfold D_ at hb;refine⟨[some (.kl (ns.map .int)),some (.ls X),some u.t,some (aE t0 t1 p0 p1),some (.ls (es.map bP.t)),some (.hd 0),some e.t,none,none,none,none,none,none],S2,.inl ?_,⟨_,rfl⟩,_,y2,by rw[zei,he];exact k2,k3,k4,by rw[kP qI he,if_pos hr],k5,k6⟩
   generalize e.t=et at *
   simp?[fx,qH,hb,k1])
 rw[zae] at B D qI;rw[zaJ] at B qI;rw[hR] at qI;cases qI;have r3:(-4611686018427387904<=(3:Int)/\(3:Int)<4611686018427387904)=True:=eq_true (by decide)
 simp?[fx,qH,zE,lE,apt,r3];clear hZ
 generalize hZ:fS _ _ _ _ _ _=Z
 obtain⟨τ,S5,⟨x9,gx,gp,K0,rfl,o5⟩,rfl⟩:=gG hZ (λi τ S'=>∃x9 gx gp K0,τ=[some (.kl (ns.map .int)),some (.ls X),some u.t,some (aE t0 t1 p0 p1),some (.ls (es.map bP.t)),some (.hd 0),v6,some (.int (es.length:Int)),some (.int Bq),x9,gx,gp,K0]/\aP [] S2 S') (λ_ _ _ _=>trivial) ⟨_,_,_,_,rfl,aP.refl⟩ (by
  rintro i t τ S' ht ⟨x9,gx,gp,K0,rfl,o⟩
  obtain⟨jU,rfl⟩:=qh ht;have jU:i<3:=jU
  have B':=B.only o (by simp) (by simp)
  obtain⟨S3,WX,WY,WZ,k1,o3⟩:=apu (i:Int) S' _ v6 gx gp K0 (by omega) B'
  obtain⟨S4,k2,o4⟩:=apv (i:Int) S3 _ v6 WX WY WZ (by omega) (B'.only o3 (by simp) (by simp))
  refine⟨[some (.kl (ns.map .int)),some (.ls X),some u.t,some (aE t0 t1 p0 p1),some (.ls (es.map bP.t)),some (.hd 0),v6,some (.int (es.length:Int)),some (.int Bq),some (.int (i:Int)),WX,WY,WZ],S4,.inl ?_,⟨_,_,_,_,rfl,(o.trans o3).trans o4⟩⟩
  generalize es.map bP.t=L at *
  simp?[fx,k1,k2])
 have B5:=B.only o5 (by simp) (by simp)
 have ke:=Bg B5;have g1:=w_ false es S5;obtain⟨S6,y6,k6,F6⟩:=mat S5 _ B5;have a6:=aav F6.zL F6.D;rw[F6.a] at a6;obtain⟨S7,y7,k7,F7⟩:∃S7 y7,zF [u.t,aE t0 t1 p0 p1,.ls (es.map bP.t)] S6 = .ok (.tp [.hd S6.length,.bz]) S7/\Fm S6 S7 mN y7 d (22+es.length):=by
  rcases fre S6 with⟨m2,S3,y3,r,k,F⟩|⟨S3,ii,w,r,_⟩
  ·rw[hR] at r
   cases r;exact⟨S3,y3,k,F⟩
  ·have:=r.none
   rw[hR] at this;cases this
 have a7:=aav F7.zL F7.D;rw[F7.a] at a7;have al:=af5 F7.D false S7;have hb:=B5.hb;unfold D_ at hb;generalize es.map bP.t=L at *
 generalize Ls mN=aT at *
 exact⟨S7,by simp?[fx,qH,hb,ke,↓g1,k6,a6,k7,a7,↓al]⟩
theorem zq1 {α:Type _}{P:List α -> Prop}(h:∀a,P [a]):∀us:List α,us.length=1->P us
 |[a],_=>h a
theorem zq2 {α:Type _}{P:List α -> Prop}(h:∀a b,P [a,b]):∀us:List α,us.length=2->P us
 |[a,b],_=>h a b
theorem zq3 {α:Type _}{P:List α -> Prop}(h:∀a b c,P [a,b,c]):∀us:List α,us.length=3->P us
 |[a,b,c],_=>h a b c
theorem zq4 {α:Type _}{P:List α -> Prop}(h:∀a b c d,P [a,b,c,d]):∀us:List α,us.length=4->P us
 |[a,b,c,d],_=>h a b c d
theorem zq5 {α:Type _}{P:List α -> Prop}(h:∀a b c d e,P [a,b,c,d,e]):∀us:List α,us.length=5->P us
 |[a,b,c,d,e],_=>h a b c d e
section
variable {K:W.Frag}{h:Heap}{mg:Str->Option Value}{C:Addr}{x bX:Str}{st:Stmt}{ps:List Str}{f:Addr}{oc:Value}{od an:Option Addr}{Ei:Array (Option Value)}{kV oY pm fB ct:Value}(X:K.In h)(G:h.Ns mainGlobals mg)
include X G in
theorem dmk (hb:∀(kV oY pm:Value) (an:Option Addr) (fB ct:Value) (us:List Value),us.length=ps.length->bindArgs (W.fnOf x x (dJ st) (cI st) (aj st) .none kV oY pm an fB ct) ⟨us,[]⟩=pure (ps.zip us))(a:W.nsIn K mainGlobals x=some (some (.ref f)))(l:K.lookup f=some ⟨oc,od,.func (W.fnOf x x (dJ st) (cI st) (aj st) .none kV oY pm an fB ct),Ei⟩)(c:W.codeIn K fB x=true)(k:W.keepIn K (.ref f)=true):qG K mg x st ps f (W.fnOf x x (dJ st) (cI st) (aj st) .none kV oY pm an fB ct):=⟨Ai l c k,zdG X G a,(Ai l c k).rO hb⟩
theorem mmk (hb:∀(kV oY pm:Value) (an:Option Addr) (fB ct:Value) (us:List Value),us.length=ps.length->bindArgs (W.fnOf x bX (dJ st) (cI st) (aj st) .none kV oY pm an fB ct) ⟨us,[]⟩=pure (ps.zip us))(a:W.findIn K (.ref C) x=some (some (.ref f)))(i:W.isFn K (.ref f)=true)(l:K.lookup f=some ⟨oc,od,.func (W.fnOf x bX (dJ st) (cI st) (aj st) .none kV oY pm an fB ct),Ei⟩)(c:W.codeIn K fB bX=true)(k:W.keepIn K (.ref f)=true):i6 K C x bX st ps f (W.fnOf x bX (dJ st) (cI st) (aj st) .none kV oY pm an fB ct):=⟨Ai l c k,⟨a,i,k⟩,(Ai l c k).rO hb⟩
end
theorem apw {l:W.OpenLaw}{w:World}{K:W.Frag}{h:Heap}{mg:Str->Option Value}{fa:Addr}(X:K.In h)(G:h.Ns mainGlobals mg)(hfa:mg "law"=some (.ref fa)){CH CI CJ CK CM CN uQ yz yC yD yE yF yG yH yI yJ yK yL CO CQ yM yN yO CS yP yQ yR yS CT CU CV CW CY CZ C0 yT FQ yU C1 C2 yV yW yX yY yZ y9 y_ zd ze C3 C4 zf zg zh zj zk zl zm C5 C6 FT K3 K4 K5 K6 K7 K8 C7 K9 zo C8 K_ C_ Dc:Addr}{uR uS uU uV uW uX uY uZ u5 u6 u9 u_ vc vd ve vf vg vh vj vm vn vo vp vq vt vz vA vD vE vF vG vH vI vJ vK vL Dd vM vN vO vP vQ vR vS vU vV vW vX vY vZ v8 v9 v_ wc we wg wj wm wo wu De Df Dg Dh Di Dk Dl wz Dm wA wB Dn wC pA:FuncData}{aW bB eU:Addr}{jL AN i7 i8 nQ i9 jM lH nR Iz lI i_ jN nU:Tok}(TF:TxF K mg (AdF.mk CH CI CJ CK CM CN uQ yz yC yD yE yF yG yH yI yJ yK yL CO CQ yM yN yO CS yP yQ yR yS CT CU CV CW CY CZ C0 yT FQ yU C1 C2 yV yW yX yY yZ y9 y_ zd ze C3 C4 zf zg zh zj zk zl zm C5 C6 FT K3 K4 K5 K6 K7 K8 C7 K9 zo C8 K_ C_ Dc uR uS uU uV uW uX uY uZ u5 u6 u9 u_ vc vd ve vf vg vh vj vm vn vo vp vq vt vz vA vD vE vF vG vH vI vJ vK vL Dd vM vN vO vP vQ vR vS vU vV vW vX vY vZ v8 v9 v_ wc we wg wj wm wo wu De Df Dg Dh Di Dk Dl wz Dm wA wB Dn wC pA aW bB eU jL AN i7 i8 nQ i9 jM lH nR Iz lI i_ jN nU))
  {aD:Addr} {cdB:ClassData} {nmB qB:Str} {NB:Addr} {bsB apx:List Value} {KQ:Bool} {snB:List Str} {abB:Bool} {apy:Option Bool} {ddB:Option Addr} {kaB kbB kcB kdB keB:Option Value} {apz:String} {Lv Sb:Str} {Sd a_ br:Addr} {Lw GJ:List Value} {Lx:List Str} {Lz:Bool} {GK:Option Bool} {LA:Option Addr} {LB LC LD LF LG:Option Value} {LH Se:Str} {Sf bN bQ:Addr} {LI GL:List Value} {LJ:List Str} {LK:Bool} {GN:Option Bool} {LM:Option Addr} {LN LO LP LQ LR:Option Value} {GO LS:Str} {LU aX aY:Addr} {GP Eb:List Value} {GQ:List Str} {GR:Bool} {Ec:Option Bool} {GS:Option Addr} {GU GV GW GX GY:Option Value} {GZ lQ:Option Addr} {G0:Array (Option Value)} {G1 lR lT lU jy lV:Value} {Ed nA:Option Addr} {Ef:Array (Option Value)} {Eg nB nD nE jS nF:Value} {nG:Addr} {G2:Value} {G3:Option Addr} {LV:Nat} {G4:Array (Option Value)} {jc:Tok}
  (apA:W.nsIn K mainGlobals "BookError"=some (some (.ref aD)))
  (apB:W.clsIn K aD=some cdB)
  (apC:W.typeIn K (.ref aD)=some (.type "type"))
  (apD:W.specialIn K (.ref aD) "__getattribute__"=some (some (.builtin "type.__getattribute__")))
  (apE:W.readsIn K aD (.type "type")=true)
  (apF:W.findCls K (.ref aD) (.type "type") "__init__"=some (.val (.builtin "ValueError.__init__")))
  (ago:W.tailIn K lW (.ref aD::lW)=true)
  (apG:K.lookup aD=some (excClassObj nmB qB aD NB bsB lW KQ snB apx abB apy ddB kaB kbB kcB kdB keB apz))
  (xgc:W.specialIn K (.builtin "object.__class__") "__get__"=some (some (.builtin "getset_descriptor.__get__")))
  (xtc:W.takesIn K (.builtin "object.__class__")=some true)
  (zR:W.nsIn K mainGlobals "NotLet"=some (some (.ref a_)))
  (LW:K.lookup a_=some (excClassObj Lv Sb a_ Sd Lw (.ref aD::lW) true Lx GJ Lz GK LA LB LC LD LF LG "ValueError.__new__"))
  (LX:W.findIn K (.ref a_) "__init__"=some (some (.ref br)))
  (LY:W.typeIn K (.ref br)=some (.type "function"))
  (LZ:W.keepIn K (.ref a_)=true)
  (L4:W.findIn K (.ref a_) "__setattr__"=some (some (.builtin "object.__setattr__")))
  (L5:W.findIn K (.ref a_) "__getattribute__"=some (some (.builtin "BaseException.__getattribute__")))
  (L6:W.findIn K (.ref a_) "__getattr__"=some none)
  (L7:W.findIn K (.ref a_) "__class__"=some (some (.builtin "object.__class__")))
  (L8:W.nsIn K mainGlobals "BadRow"=some (some (.ref bN)))
  (L_:K.lookup bN=some (excClassObj LH Se bN Sf LI (.ref aD::lW) true LJ GL LK GN LM LN LO LP LQ LR "ValueError.__new__"))
  (Ma:W.findIn K (.ref bN) "__init__"=some (some (.ref bQ)))
  (Mb:W.typeIn K (.ref bQ)=some (.type "function"))
  (Mc:W.keepIn K (.ref bN)=true)
  (Me:W.findIn K (.ref bN) "__setattr__"=some (some (.builtin "object.__setattr__")))
  (Mf:W.findIn K (.ref bN) "__getattribute__"=some (some (.builtin "BaseException.__getattribute__")))
  (Mg:W.findIn K (.ref bN) "__getattr__"=some none)
  (Mh:W.findIn K (.ref bN) "__class__"=some (some (.builtin "object.__class__")))
  (xg:W.nsIn K mainGlobals "NoEntry"=some (some (.ref aX)))
  (G5:K.lookup aX=some (excClassObj GO LS aX LU GP (.ref aD::lW) true GQ Eb GR Ec GS GU GV GW GX GY "ValueError.__new__"))
  (G6:W.findIn K (.ref aX) "__init__"=some (some (.ref aY)))
  (G7:W.typeIn K (.ref aY)=some (.type "function"))
  (G8:W.keepIn K (.ref aX)=true)
  (G9:W.findIn K (.ref aX) "__setattr__"=some (some (.builtin "object.__setattr__")))
  (G_:W.findIn K (.ref aX) "__getattribute__"=some (some (.builtin "BaseException.__getattribute__")))
  (Hf:W.findIn K (.ref aX) "__getattr__"=some none)
  (Hg:W.findIn K (.ref aX) "__class__"=some (some (.builtin "object.__class__")))
  (xh:W.findIn K (.ref a_) "rule"=some none)
  (rJ:W.findIn K (.ref a_) "number"=some none)
  (Mi:K.lookup br=some ⟨G1,GZ,.func (W.fnOf "__init__" "NotLet.__init__" (dJ dU) (cI dU) (aj dU) (.ref nG) lR lT lU lQ jy lV),G0⟩)
  (Mj:W.codeIn K jy "NotLet.__init__"=true)
  (zS:K.lookup nG=some ⟨G2,G3,.seq #[.int 0 jc] LV,G4⟩)
  (qC:W.findIn K (.ref aX) "number"=some none)
  (Hh:K.lookup aY=some ⟨Eg,Ed,.func (W.fnOf "__init__" "NoEntry.__init__" (dJ eE) (cI eE) (aj eE) .none nB nD nE nA jS nF),Ef⟩)
  (Hi:W.codeIn K jS "NoEntry.__init__"=true)
  (Ml:a_≠aD)
  (Mm:bN≠aD)
  (Hj:aX≠aD)
  (rK:bN≠a_)
  (qD:aX≠a_)
  (qE:a_≠aX)
  (qF:bN≠aX)
  : ∃fd:FuncData,(∀(s:Shared) (v:Value),BindsTo s fd ⟨[v],[]⟩ [("_law_script",v)])/\∀base:Heap,K.In base->base.Ns mainGlobals mg->aO l.prog w K mg base eL 13 fa fd ["_law_script"] (Io K):=by
 have e:=hfa.symm.trans TF.P_.m;cases e;have Eh:iY K a_ br (.ref aD::lW):=⟨⟨_,_,_,_,_,_,_,_,_,_,_,_,_,_,LW⟩,ago,LX,LY,LZ,L4,L5,L6,L7,⟨_,rfl⟩⟩
 have Sg:iY K bN bQ (.ref aD::lW):=⟨⟨_,_,_,_,_,_,_,_,_,_,_,_,_,_,L_⟩,ago,Ma,Mb,Mc,Me,Mf,Mg,Mh,⟨_,rfl⟩⟩
 have zU:iY K aX aY (.ref aD::lW):=⟨⟨_,_,_,_,_,_,_,_,_,_,_,_,_,_,G5⟩,ago,G6,G7,G8,G9,G_,Hf,Hg,⟨_,rfl⟩⟩
 have Mn:dQ K (W.fnOf "__init__" "NotLet.__init__" (dJ dU) (cI dU) (aj dU) (.ref nG) lR lT lU lQ jy lV) ["self","words","rule","number"] []:=λs us X' hl=>by
  rw[zau] at hl ⊢
  match us,hl with|[_,_,_,_],_=>exact W.binds_K X' rfl zS rfl rfl rfl
 have Hl:dQ K (W.fnOf "__init__" "NotLet.__init__" (dJ dU) (cI dU) (aj dU) (.ref nG) lR lT lU lQ jy lV) ["self","words","rule","number"] [.int 0 jc]:=λs us X' hl=>by
  have HH:us.length=3:=by simpa using hl
  match us,HH with|[_,_,_],_=>exact W.binds_K X' rfl zS rfl rfl rfl
 have Ho:dQ K (W.fnOf "__init__" "NoEntry.__init__" (dJ eE) (cI eE) (aj eE) .none nB nD nE nA jS nF) ["self","words","number"] []:=.all λus hl=>match us,hl with|[_,_,_],_=>rfl
 have apH:∀p∈([("NotLet",a_,br),("BadRow",bN,bQ),("NoEntry",aX,aY)]:List (Str×Addr×Addr)),mg p.1=some (.ref p.2.1)/\iY K p.2.1 p.2.2 (.ref aD::lW):=by
  intro p hp;simp only[zam,zay,or_false] at hp;rcases hp with rfl|rfl|rfl
  ·exact⟨zdG X G zR,Eh⟩
  ·exact⟨zdG X G L8,Sg⟩
  ·exact⟨zdG X G xg,zU⟩
 let a:Ad:={ toAdF:=AdF.mk CH CI CJ CK CM CN uQ yz yC yD yE yF yG yH yI yJ yK yL CO CQ yM yN yO CS yP yQ yR yS CT CU CV CW CY CZ C0 yT FQ yU C1 C2 yV yW yX yY yZ y9 y_ zd ze C3 C4 zf zg zh zj zk zl zm C5 C6 FT K3 K4 K5 K6 K7 K8 C7 K9 zo C8 K_ C_ Dc uR uS uU uV uW uX uY uZ u5 u6 u9 u_ vc vd ve vf vg vh vj vm vn vo vp vq vt vz vA vD vE vF vG vH vI vJ vK vL Dd vM vN vO vP vQ vR vS vU vV vW vX vY vZ v8 v9 v_ wc we wg wj wm wo wu De Df Dg Dh Di Dk Dl wz Dm wA wB Dn wC pA aW bB eU jL AN i7 i8 nQ i9 jM lH nR Iz lI i_ jN nU,aD:=aD,a_:=a_,bN:=bN,aX:=aX,br:=br,bQ:=bQ,aY:=aY,eV:=W.fnOf "__init__" "NotLet.__init__" (dJ dU) (cI dU) (aj dU) (.ref nG) lR lT lU lQ jy lV,gb:=W.fnOf "__init__" "NoEntry.__init__" (dJ eE) (cI eE) (aj eE) .none nB nD nE nA jS nF,jc:=jc}
 have T:Txt K mg a:={
  toTxF:=TF
  Er:=⟨zdG X G apA,⟨apD,apE,apF⟩,by show (W.clsIn K aD).isSome=true;rw[apB];rfl,apC,⟨_,_,_,_,_,_,_,_,_,_,_,_,_,_,_,_,apG⟩,⟨xgc,xtc⟩,apH⟩
  fU:=⟨Eh,zdG X G zR,Mn,⟨_,_,_,_,_,_,_,_,_,_,_,rfl,Mi,Mj⟩⟩
  zx:=Hl
  jq:=xh
  g_:=rJ
  gD:=⟨zU,zdG X G xg,Ho,⟨_,_,_,_,_,_,_,_,_,_,_,rfl,Hh,Hi⟩⟩
  gP:=qC
  zy:=Ml
  zz:=Mm
  wF:=Hj
  rB:=rK
  jP:=qD
  jQ:=qE
  jR:=qF
 }
 obtain⟨_,_,_,_,_,_,_,_,_,ef,_⟩:=TF.P_.F.ex;exact⟨pA,λs v=>by rw[show pA=_ from ef];exact .of_eq rfl,λbase _ _=>acQ (aex T) law⟩
theorem walk {l:W.OpenLaw}{q:Program}{xW:List Str}{XP:(Str->Option Value)->Heap->Prop}{YP:World->Heap->Prop}{d:DefRec}{K:Params->W.Frag}(hn:l.most=some 63)(hdf:d.params.defaults=[])
  (hY:∀(w:World) (h:Heap),YP w h->(K w.params).In h)
  (F:∀(w:World) (mg:Str->Option Value) (fa:Addr) (h:Heap),(K w.params).In h->h.Ns mainGlobals mg->mg d.name=some (.ref fa) ->
   ∃fd:FuncData,(∀(s:Shared) (u:Value),BindsTo s fd ⟨[u],[]⟩ [("_law_script",u)])/\∀base:Heap,(K w.params).In base->base.Ns mainGlobals mg->aO l.prog w (K w.params) mg base eL 13 fa fd ["_law_script"] (Io (K w.params))):
  W.WalkO q xW XP YP l.row.toRowW d [] (λf vs=>PySem.call f vs):=
 L2.TY (n:=63) (k:=13) (x:= "_law_script") (CX:=λ_=>eL) (sp:=λw=>Io (K w.params)) hn (by decide) hdf ⟨rfl,by decide,by decide⟩ hY F (λ_ _ a ns hl _ hS=>⟨a,ns,rfl,hS,hl,λ_=>rfl⟩) λ_ _ _ _ _ z=>z
end My
structure PySem.W.Fast:Prop where(tw11218161858100528520 tw10311912643361905364 tw12365542103325081413 tw2669555814100141806 tw15802841837106227287 tw15754820118217666393 tw9282142532741145047 tw14417989212336766194 tw6791250234430585548 tw7401667361034261386 tw896215848897654818 tw15413476162126223320 tw12294990093926500222 tw17704309589263482137 tw2359339107228706344 tw14017741807950110664 tw8056826654513358196 tw15448365184646209606 tw5546236733102603301 tw9583414343956076962 tw536277511655660299 tw9177491246675755665 tw7505570652776838914 tw12339381783964272631 tw3841003645838039536 tw4789482535927232606 tw18208318246014533108 tw18228267506998372890 tw17531631905327086487 tw9911327198053501378 tw13925423185551564854 tw7218120916855011829 tw761949158333287906 tw17626229053673781022 tw2909609631020004854 tw7072259001877141747 tw17231675151962240108 tw16494097569371651006 tw14565019123386133999 tw9739730732818068634 tw931290460166352909 tw9879239894448057244 tw5432696711030217804 tw2865244196678713110 tw9612756468898282881 tw14785586336070270414 tw2506131562852189270 tw1986023683524144308 tw4615040934328709868 tw10484008970090030948 tw18364337767204605488 tw3500199143555809897 tw2884073487872751521 tw13383071324588989579 tw9991204506246737160 tw2001156501718332645 tw6433039250743847407 tw3854604113080725783 tw8169295565276712487 tw2551990247744153108 tw7360695614131933929 tw12944754780494701247 tw3317834086232824814 tw2113283857668073214 tw1879868967987112786 tw16300835380020522429 tw7350686839470801213 tw4009487466488597576 tw16307364717155839193 tw4872537858687637799 tw2146689438091980841 tw1395849979587859615 tw13575679423947987062 tw4660011862954261974 tw14711027691329187025 tw5537604105463080725 tw4808146417118993413 tw9095948170951607706 tw17472128296563016417 tw7533780257842391642 tw2911212629409974356 tw15430677591412318438 tw12733167950125679232 tw16199744157551135517 tw11254727489204851287 tw6877966677438856588 tw11444424713406234785 tw1447620933823170671 tw2940994865068508818 tw4837631620124824226 tw201097308109035569 tw17921581381868849564 tw10058684688311940163 tw5219673110354065080 tw11222884127183539356 tw16284164898007127386 tw11933929863107459433 tw3376061725720388130 tw1555847123907958291 tw13948291126865222379 tw8688719996791536984 tw16487035211042153976 tw10851873235603974202 tw14827733640193910981 tw7834528912599889259 tw17120470855693812371 tw13143799576688322545 tw11833073347062300875 tw15104488579512542368 tw1865628000376570234 tw1706040177497979477 tw9368698701513374104 tw9661979562775887568 tw9495968484846600970 tw13427976718564432378 tw9646876361240757113 tw9741630859606041924 tw11002416910791032306 tw2793263461429496550 tw16488233621256624556 tw3723551815625685427 tw3860398032813916578 tw2485961844036210420 tw6477840107765740496 tw6885931902974573503 tw15424323143154632018 tw5730900995306554540 tw7385406423071854851 tw18310977743572980233 tw15543216980129756700 tw1959761837883595 tw4816706623425740971 tw5314965329269575440 tw11331562279090879563 tw9378408628365382487 tw14319141775909109620 tw12611970989791886024 tw3979388700915881855 tw2432831879939547304 tw5808901871241343242 tw7510031614318848590 tw12749031087884597572 tw4823640354676640341 tw15605250408745662968 tw3304086564077695058 tw15809392488222630763 tw12269370354902098641 tw17183021703714934047 tw7522222374556502790 tw13160876656853390793 tw14992109149126886387 tw383696585965132843 tw17557118169030059596 tw4760180099758179701 tw3947791360761163281 tw7385423674248498840 tw6080836143582286313 tw18296832754994685733 tw18390434102886316823 tw1638301001044629483 tw16325610473337548873 tw3705443887424857371 tw17352475389391121140 tw2710794393103825661 tw13258209146228849154 tw3664128644436709483 tw4984159981573314621 tw16316629189887802800 tw10289655925861362521 tw14771590498889729659 tw12335484466892814661 tw7429442380945996444 tw15101809082738333810 tw11082618112423712885 tw2491196871117696183 tw13737312891365941507 tw13642296595675997358 tw13353460534407212807 tw6366123548731609886 tw16880768425937487056 tw11104870416361103680 tw2094920148518601270 tw15358304461455093353 tw14032565403612665568 tw5677744356568230774 tw13469917850694503490 tw11819087911483275476 tw243175276544643063 tw3915105173223028629 tw8583347319390810703 tw2042103332799045771 tw7667418481307249400 tw833989597511187767 tw10802243375813530421 tw11468621460744438420 tw16600641402154996787 tw2512440042017765634 tw7718892040722667754 tw272407233944770394 tw5722799389347320555 tw8462221704317779024 tw1676234721270946730 tw1641423308695467076 tw10867490374403132440 tw8810810465052889445 tw2107797719728793801 tw13120429448481487535 tw2666852293746153410 tw774525664411205641 tw606830203634314671 tw8946742367775537200 tw5716913028509210368 tw5238344308041476941 tw1744941255379631008 tw9207052805881633470 tw2343808496100301787 tw17925952349660424598 tw4491738803942875470 tw9285901215602499474 tw15932298945264202243 tw16534381139143440463 tw12200334441723886713 tw14944862971438337198 tw8540688358499760423 tw3097077219600133060 tw2189704305262493164 tw13657152027064501992 tw8850081581286146209 tw6360318668745075693 tw1732002162754053380 tw16233753015306273444 tw7091219738331652411 tw9479967274727832523 tw2575078231364428884 tw5686390460555823427 tw13174601778021117513 tw17213265741942550419 tw17904124547964169984 tw2872936750935992580 tw7229749643408578790 tw5349160261399762250 tw8131137137278042911 tw11340085481374008812 tw9499622172194158226 tw11802450475267332538 tw2342836164792918323 tw16710447114762307251 tw16184942800830049902 tw14805246188664824582 tw11498360715895549494 tw3065427742452724356 tw3006972940134660345 tw16379608441418623671 tw15097355817089984848 tw2570864203719278623 tw14229047724129613396 tw4463426323483562267 tw17703783133874620560 tw11779248541526587765 tw11227528315626124080 tw889721680550933075 tw5714387827901152439 tw1357483888673957320 tw6360759725034278283 tw9774333035700103252 tw11859246249386454924 tw3815805203747038403 tw5075530780114860876 tw559062040492051342 tw5136937567387949245 tw17403286641812623938 tw17601770343258954108 tw13862955593166523683 tw84957264321316042 tw4205873345100358256 tw5419827827338406882 tw13379826649059252712 tw7240028542368497204 tw8208496729538831608 tw11896283370267348666 tw14540408065095496401 tw2778759644151333120 tw15345360397176809183 tw8066024850794854225 tw7382580762329446159 tw15875135756134421147 tw571688254747496361 tw999835342904728925 tw5321137316755450864 tw2363982091058089475 tw8869243481476561242 tw469602372587497289 tw8732681926665051594 tw3504604374809779078 tw4513762267304977577 tw4656887515233266010 tw7637597767944793529 tw13558642249407853220 tw16839556939855811967 tw16233818116863352035 tw464116061567467643 tw10307539935753450431 tw3178522040810514351 tw10214543910279765172 tw3922451593461825760 tw9474518906752158564 tw3242562174620020501 tw14634339326856143954 tw12046001907863493004 tw5495319209172673143 tw8784908335272162887 tw3194862411963372859 tw11191828627295386946 tw2536595380593029630 tw3994741067378647578 tw2045986274425749767 tw3094484343596803931 tw1113646024589257990 tw3097205217618290063 tw16431374657588056501 tw5774450334966598381 tw1747735491462067577 tw6991104837373276777 tw274607430534439789 tw13900241272303273287 tw2345132519203717337 tw9786953684216637510 tw15023786121350919753 tw11310726913788386950 tw8623351650730384560 tw11431730614378826097 tw3716172403875701700 tw2804693710561051450 tw392488462670831945 tw4327442918871897759 tw16701578996707654948 tw3348219977772989923 tw1415314197368700520 tw15049394639209687187 tw1882505182887554618 tw13080018903314149058 tw9062169300903292089 tw9170647402467698090 tw1401012507355539784 tw8677172855840718254 tw15078132927698658783 tw2104534235831318447 tw14330537555494664378 tw7582601037710075195 tw10211379767454316129 tw13371953328402539318 tw3791265714547092943 tw6750814880126858985 tw8993828193901466225 tw14988864350634768697 tw16826443276953857560 tw17713822372175535222 tw6521697776156321025 tw17574203568816436008 tw6711868148718781791 tw7962237218548785505 tw6094731745882820723 tw10965572386080793918 tw7132253984539157984 tw964123642507050381 tw5043321631025881550 tw8146995767249786848 tw11858491010470858721 tw4085035934155683470 tw14432427612165050879 tw6683410595769949078 tw1504066726483688988 tw9944553770605940902 tw16616646777519100192 tw15765152083774857744 tw11618070017178339982 tw13619555120176303382 tw3429583155748965060 tw10014967550321507028 tw3599522459032720341 tw1107398662958784540 tw15569605167771520699 tw2207349631943076931 tw6731144256954566018 tw3308739445443430862 tw12579267594781925857 tw1329359181561808741 tw10719589404194466760 tw9843923242209293370 tw3745022851486585364 tw3314536586849808531 tw14578113790243648953 tw6094989022731995750 tw9314520119809814337 tw6973448692869461915 tw11991536773596050277 tw5356520948905340401 tw11964524650809682869 tw14612311958304064733 tw12644902735942793261 tw6965150148333855565 tw8735513362310159028 tw14229339207839635760 tw16890524531209540185 tw9085150193448236948 tw12830346138881912996 tw12696191062157650648 tw15690691693033856759 tw10240667280598564681 tw5317095524030642815 tw16966160245722519753 tw2092726695250675796 tw13351751565892001860 tw14274164270863572590 tw15644869747832303441 tw17524133822526280079 tw15642752143940259809 tw1835449006627068556 tw3214613492858418207 tw15227917546389132992 tw15573174577777738521 tw11237808999930858601 tw3521304177254759904 tw15853742252179130788 tw9593632989245591671 tw7704210674711787713 tw13771014772950249023 tw8777707838153754559 tw5598216179825502468 tw3739434089142844109 tw11648201677941107996 tw14930352410195745762 tw8912374094916567180 tw13948066090042511996 tw3485435977649813296 tw16777638813589647836 tw12698658608933126234 tw4984690687658714539 tw13579419279635761039 tw10086227048808747926 tw18063800184431894955 tw14085514057000979355 tw8941268653377462842 tw12803766687191250116 tw1301310557238451890 tw15128377310732339567 tw3905660544686656239 tw11794632404106680209 tw5465278070915361131 tw650722561787548421 tw13311035515695148166 tw17605615407791641294 tw3751416555738430196 tw15750465186691546994 tw2562924741641630218 tw13684534251351963246 tw15405375954717429001 tw2192299350814903177 tw14198692592293846893 tw2835589081226684005 tw11680956831681434446 tw1544820593888716407 tw8394421684965937178 tw12690464051675645801 tw2351634219555676166 tw11688634431491774624 tw17902435319641559150 tw6101354341311237796 tw11192126191323412603 tw15452725571288298744 tw8374936524323452041 tw12481749569662515212 tw4416614057311450437 tw11881773153809539758 tw11376045906244342976 tw6504379010978941496 tw15823816868027627773 tw11144916351757654369 tw2625347337159662223 tw13398935048135446329 tw10515761279770868966 tw13667076503046470945 tw12770816504395301737 tw11158362985016528522 tw11796590620578031548 tw706711725681828799 tw774328564872779654 tw6143550870843111508 tw10992220269792809683 tw1548128956672348386 tw4639278310979144267 tw17391038176444345942 tw3432879960235432877 tw10523152581104383400 tw17822513977634892963 tw16364192463335444389 tw15750481998504980010 tw3032665481123202454 tw6151576305065933044 tw10122958045200232084 tw4214677444778352398 tw2844772014593866400 tw1425325700009897711 tw3039480374244667215 tw7993849208768761444 tw6864128227206866416 tw12064527014355879623 tw18373346164386402330 tw8348251838612347222 tw11402572807797066325 tw1002033440429267391 tw11539997880533317005 tw18354196047826107838 tw2798499066078989138:True)
open PySem PySem.W PyProof.Rows
set_option maxRecDepth 100000 in
set_option maxHeartbeats 0 in
theorem PySem.Challenge.cw_inningsbook_k52_no_entry_holds : PySem.Challenge.rw_inningsbook_k52_no_entry.Holds := by
  w_on; o_law; k_head; (case hw => w_witness2)
  k_fill
  refine My.walk (l := PySem.Challenge.rw_inningsbook_k52_no_entry) rfl rfl (fun w h Y => PySem.W.kIn_of Y) ?F
  case F =>
    intro w mg fa h KX G hmg
    refine' My.apw KX G hmg ⟨PySem.W.mg_none_of KX G ?_, PySem.W.mg_none_of KX G ?_, PySem.W.mg_none_of KX G ?_, PySem.W.mg_none_of KX G ?_, PySem.W.mg_none_of KX G ?_, PySem.W.mg_none_of KX G ?_, PySem.W.mg_none_of KX G ?_, PySem.W.mg_none_of KX G ?_, PySem.W.mg_none_of KX G ?_, PySem.W.mg_none_of KX G ?_, PySem.W.mg_of KX G ?_, PySem.W.mg_of KX G ?_, PySem.W.mg_of KX G ?_, PySem.W.mg_of KX G ?_, PySem.W.mg_of KX G ?_, PySem.W.mg_of KX G ?_, PySem.W.mg_of KX G ?_, PySem.W.mg_of KX G ?_, PySem.W.mg_of KX G ?_, PySem.W.mg_of KX G ?_, PySem.W.mg_of KX G ?_, PySem.W.mg_of KX G ?_, PySem.W.mg_of KX G ?_, PySem.W.mg_of KX G ?_, My.dmk KX G (fun _ _ _ _ _ _ => My.zq2 (fun _ _ => rfl)) ?_ ?_ ?_ ?_, My.dmk KX G (fun _ _ _ _ _ _ => My.zq3 (fun _ _ _ => rfl)) ?_ ?_ ?_ ?_, My.dmk KX G (fun _ _ _ _ _ _ => My.zq3 (fun _ _ _ => rfl)) ?_ ?_ ?_ ?_, My.dmk KX G (fun _ _ _ _ _ _ => My.zq1 (fun _ => rfl)) ?_ ?_ ?_ ?_, My.dmk KX G (fun _ _ _ _ _ _ => My.zq2 (fun _ _ => rfl)) ?_ ?_ ?_ ?_, My.dmk KX G (fun _ _ _ _ _ _ => My.zq2 (fun _ _ => rfl)) ?_ ?_ ?_ ?_, My.mmk (fun _ _ _ _ _ _ => My.zq3 (fun _ _ _ => rfl)) ?_ ?_ ?_ ?_ ?_, My.mmk (fun _ _ _ _ _ _ => My.zq1 (fun _ => rfl)) ?_ ?_ ?_ ?_ ?_, My.mmk (fun _ _ _ _ _ _ => My.zq1 (fun _ => rfl)) ?_ ?_ ?_ ?_ ?_, My.mmk (fun _ _ _ _ _ _ => My.zq2 (fun _ _ => rfl)) ?_ ?_ ?_ ?_ ?_, My.mmk (fun _ _ _ _ _ _ => My.zq2 (fun _ _ => rfl)) ?_ ?_ ?_ ?_ ?_, My.mmk (fun _ _ _ _ _ _ => My.zq1 (fun _ => rfl)) ?_ ?_ ?_ ?_ ?_, My.mmk (fun _ _ _ _ _ _ => My.zq1 (fun _ => rfl)) ?_ ?_ ?_ ?_ ?_, My.mmk (fun _ _ _ _ _ _ => My.zq1 (fun _ => rfl)) ?_ ?_ ?_ ?_ ?_, My.mmk (fun _ _ _ _ _ _ => My.zq1 (fun _ => rfl)) ?_ ?_ ?_ ?_ ?_, My.mmk (fun _ _ _ _ _ _ => My.zq1 (fun _ => rfl)) ?_ ?_ ?_ ?_ ?_, My.mmk (fun _ _ _ _ _ _ => My.zq1 (fun _ => rfl)) ?_ ?_ ?_ ?_ ?_, My.mmk (fun _ _ _ _ _ _ => My.zq1 (fun _ => rfl)) ?_ ?_ ?_ ?_ ?_, My.dmk KX G (fun _ _ _ _ _ _ => My.zq3 (fun _ _ _ => rfl)) ?_ ?_ ?_ ?_, My.dmk KX G (fun _ _ _ _ _ _ => My.zq4 (fun _ _ _ _ => rfl)) ?_ ?_ ?_ ?_, My.mmk (fun _ _ _ _ _ _ => My.zq2 (fun _ _ => rfl)) ?_ ?_ ?_ ?_ ?_, My.mmk (fun _ _ _ _ _ _ => My.zq2 (fun _ _ => rfl)) ?_ ?_ ?_ ?_ ?_, My.mmk (fun _ _ _ _ _ _ => My.zq2 (fun _ _ => rfl)) ?_ ?_ ?_ ?_ ?_, My.dmk KX G (fun _ _ _ _ _ _ => My.zq2 (fun _ _ => rfl)) ?_ ?_ ?_ ?_, My.mmk (fun _ _ _ _ _ _ => My.zq3 (fun _ _ _ => rfl)) ?_ ?_ ?_ ?_ ?_, My.mmk (fun _ _ _ _ _ _ => My.zq1 (fun _ => rfl)) ?_ ?_ ?_ ?_ ?_, My.mmk (fun _ _ _ _ _ _ => My.zq1 (fun _ => rfl)) ?_ ?_ ?_ ?_ ?_, My.mmk (fun _ _ _ _ _ _ => My.zq1 (fun _ => rfl)) ?_ ?_ ?_ ?_ ?_, My.dmk KX G (fun _ _ _ _ _ _ => My.zq2 (fun _ _ => rfl)) ?_ ?_ ?_ ?_, My.dmk KX G (fun _ _ _ _ _ _ => My.zq4 (fun _ _ _ _ => rfl)) ?_ ?_ ?_ ?_, My.dmk KX G (fun _ _ _ _ _ _ => My.zq1 (fun _ => rfl)) ?_ ?_ ?_ ?_, My.dmk KX G (fun _ _ _ _ _ _ => My.zq2 (fun _ _ => rfl)) ?_ ?_ ?_ ?_, My.dmk KX G (fun _ _ _ _ _ _ => My.zq3 (fun _ _ _ => rfl)) ?_ ?_ ?_ ?_, My.dmk KX G (fun _ _ _ _ _ _ => My.zq4 (fun _ _ _ _ => rfl)) ?_ ?_ ?_ ?_, My.dmk KX G (fun _ _ _ _ _ _ => My.zq5 (fun _ _ _ _ _ => rfl)) ?_ ?_ ?_ ?_, My.mmk (fun _ _ _ _ _ _ => My.zq2 (fun _ _ => rfl)) ?_ ?_ ?_ ?_ ?_, My.mmk (fun _ _ _ _ _ _ => My.zq5 (fun _ _ _ _ _ => rfl)) ?_ ?_ ?_ ?_ ?_, My.mmk (fun _ _ _ _ _ _ => My.zq2 (fun _ _ => rfl)) ?_ ?_ ?_ ?_ ?_, My.dmk KX G (fun _ _ _ _ _ _ => My.zq3 (fun _ _ _ => rfl)) ?_ ?_ ?_ ?_, My.dmk KX G (fun _ _ _ _ _ _ => My.zq2 (fun _ _ => rfl)) ?_ ?_ ?_ ?_, My.mmk (fun _ _ _ _ _ _ => My.zq2 (fun _ _ => rfl)) ?_ ?_ ?_ ?_ ?_, My.mmk (fun _ _ _ _ _ _ => My.zq1 (fun _ => rfl)) ?_ ?_ ?_ ?_ ?_, My.mmk (fun _ _ _ _ _ _ => My.zq2 (fun _ _ => rfl)) ?_ ?_ ?_ ?_ ?_, My.mmk (fun _ _ _ _ _ _ => My.zq3 (fun _ _ _ => rfl)) ?_ ?_ ?_ ?_ ?_, My.mmk (fun _ _ _ _ _ _ => My.zq2 (fun _ _ => rfl)) ?_ ?_ ?_ ?_ ?_, My.mmk (fun _ _ _ _ _ _ => My.zq3 (fun _ _ _ => rfl)) ?_ ?_ ?_ ?_ ?_, My.mmk (fun _ _ _ _ _ _ => My.zq2 (fun _ _ => rfl)) ?_ ?_ ?_ ?_ ?_, My.mmk (fun _ _ _ _ _ _ => My.zq2 (fun _ _ => rfl)) ?_ ?_ ?_ ?_ ?_, My.mmk (fun _ _ _ _ _ _ => My.zq2 (fun _ _ => rfl)) ?_ ?_ ?_ ?_ ?_, My.dmk KX G (fun _ _ _ _ _ _ => My.zq3 (fun _ _ _ => rfl)) ?_ ?_ ?_ ?_, My.dmk KX G (fun _ _ _ _ _ _ => My.zq3 (fun _ _ _ => rfl)) ?_ ?_ ?_ ?_, My.mmk (fun _ _ _ _ _ _ => My.zq3 (fun _ _ _ => rfl)) ?_ ?_ ?_ ?_ ?_, My.mmk (fun _ _ _ _ _ _ => My.zq3 (fun _ _ _ => rfl)) ?_ ?_ ?_ ?_ ?_, My.mmk (fun _ _ _ _ _ _ => My.zq1 (fun _ => rfl)) ?_ ?_ ?_ ?_ ?_, My.mmk (fun _ _ _ _ _ _ => My.zq2 (fun _ _ => rfl)) ?_ ?_ ?_ ?_ ?_, My.mmk (fun _ _ _ _ _ _ => My.zq2 (fun _ _ => rfl)) ?_ ?_ ?_ ?_ ?_, My.mmk (fun _ _ _ _ _ _ => My.zq2 (fun _ _ => rfl)) ?_ ?_ ?_ ?_ ?_, My.mmk (fun _ _ _ _ _ _ => My.zq2 (fun _ _ => rfl)) ?_ ?_ ?_ ?_ ?_, My.dmk KX G (fun _ _ _ _ _ _ => My.zq2 (fun _ _ => rfl)) ?_ ?_ ?_ ?_, My.dmk KX G (fun _ _ _ _ _ _ => My.zq4 (fun _ _ _ _ => rfl)) ?_ ?_ ?_ ?_, My.mmk (fun _ _ _ _ _ _ => My.zq3 (fun _ _ _ => rfl)) ?_ ?_ ?_ ?_ ?_, My.mmk (fun _ _ _ _ _ _ => My.zq2 (fun _ _ => rfl)) ?_ ?_ ?_ ?_ ?_, My.mmk (fun _ _ _ _ _ _ => My.zq3 (fun _ _ _ => rfl)) ?_ ?_ ?_ ?_ ?_, My.mmk (fun _ _ _ _ _ _ => My.zq2 (fun _ _ => rfl)) ?_ ?_ ?_ ?_ ?_, My.mmk (fun _ _ _ _ _ _ => My.zq3 (fun _ _ _ => rfl)) ?_ ?_ ?_ ?_ ?_, My.mmk (fun _ _ _ _ _ _ => My.zq2 (fun _ _ => rfl)) ?_ ?_ ?_ ?_ ?_, My.mmk (fun _ _ _ _ _ _ => My.zq3 (fun _ _ _ => rfl)) ?_ ?_ ?_ ?_ ?_, My.dmk KX G (fun _ _ _ _ _ _ => My.zq4 (fun _ _ _ _ => rfl)) ?_ ?_ ?_ ?_, My.mmk (fun _ _ _ _ _ _ => My.zq1 (fun _ => rfl)) ?_ ?_ ?_ ?_ ?_, My.mmk (fun _ _ _ _ _ _ => My.zq1 (fun _ => rfl)) ?_ ?_ ?_ ?_ ?_, My.dmk KX G (fun _ _ _ _ _ _ => My.zq1 (fun _ => rfl)) ?_ ?_ ?_ ?_, My.mmk (fun _ _ _ _ _ _ => My.zq1 (fun _ => rfl)) ?_ ?_ ?_ ?_ ?_, My.dmk KX G (fun _ _ _ _ _ _ => My.zq3 (fun _ _ _ => rfl)) ?_ ?_ ?_ ?_, My.dmk KX G (fun _ _ _ _ _ _ => My.zq1 (fun _ => rfl)) ?_ ?_ ?_ ?_, ⟨PySem.W.mg_of KX G ?_, ⟨?_, ?_, ?_, ?_⟩, ⟨?_, ?_, ?_, ?_⟩⟩, ?_, ?_, ?_, ?_, ?_, ?_, ?_, ?_, ?_, ?_, ?_, ?_, ⟨PySem.W.mg_of KX G ?_, ⟨?_, ?_, ?_, ?_⟩, ⟨?_, ?_, ?_, ?_⟩⟩, ?_, ?_, ?_, ?_, ?_, ?_, ?_, ⟨PySem.W.mg_of KX G ?_, ⟨?_, ?_, ?_, ?_⟩, ⟨?_, ?_, ?_, ?_⟩⟩, ?_, ?_, ?_, ?_⟩ ?_ ?_ ?_ ?_ ?_ ?_ ?ago ?_ ?_ ?_ ?_ ?_ ?_ ?_ ?_ ?_ ?_ ?_ ?_ ?_ ?_ ?_ ?_ ?_ ?_ ?_ ?_ ?_ ?_ ?_ ?_ ?_ ?_ ?_ ?_ ?_ ?_ ?_ ?_ ?_ ?_ ?_ ?_ ?_ ?_ ?Ml ?Mm ?Hj ?rK ?qD ?qE ?qF
    any_goals first | k_is | (dsimp only[L2.bW]; k_is)
    any_goals first | k_is | (dsimp only[L2.bW]; k_is)
    (case ago => kernel_rfl)
    (case Ml => decide)
    (case Mm => decide)
    (case Hj => decide)
    (case rK => decide)
    (case qD => decide)
    (case qE => decide)
    (case qF => decide)
