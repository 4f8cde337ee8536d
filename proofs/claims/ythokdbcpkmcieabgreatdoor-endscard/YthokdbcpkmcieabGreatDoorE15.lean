/- Bok8 Bok9 Stm1 -/
import Derived.Test.YthokdbcpkmcieabGreatDoorE14
import Derived.Test.YthokdbcpkmcieabGreatDoorE12
import Derived.Deep.RegionHeld3
set_option maxRecDepth 200000
set_option maxHeartbeats 8000000
namespace Go.Proofs.YthokdbcpkmcieabGreatDoor
open Go Go.RowKit Go.Shelf Go.WideMaps Go.Maps
theorem nb_start {w w1 w3:World}(hM:∃ n,n≤1000∧MapAt Tryz.prog 9 w1 (w.heap.size+3) n (fun l=>(fixO l).map fixV))(hB1:Below (w.heap.size+3) (((w.alloc (.cells #[.map none,.map none,.map none] 322)).alloc (.map #[] 0)).alloc (.map #[] 0)) w1)
  (hK:w3.ownsMap Tryz.prog 9 (plainElem (H:=Unit) Tryz.prog 231) (w1.heap.size+1) 17 kindsD) (hB3:Below (w1.heap.size+1) (w1.alloc (.cells #[.map (some (w.heap.size+1)),.map (some (w.heap.size+2)),.map (some (w.heap.size+3))] 322)) w3) :
  NB w (w3.alloc (.cells Z2d.toArray 222)) (w.heap.size+3) w1.heap.size (w1.heap.size+1) w3.heap.size 0 0:=by
 obtain ⟨n,hn,hF⟩:=hM
 have hFl:=hF.lt
 have hKl:=hK.lt
 have e3:∀ j,j<w1.heap.size→(w3.alloc (.cells Z2d.toArray 222)).heap[j]?=w1.heap[j]?:=fun j hj=>by
  rw [Below.heap_alloc _ _ _ (by omega),hB3.block j (by omega),Below.heap_alloc _ _ _ hj]
 have e1:∀ j,j<w.heap.size+3→(w3.alloc (.cells Z2d.toArray 222)).heap[j]?=(((w.alloc (.cells #[.map none,.map none,.map none] 322)).alloc (.map #[] 0)).alloc (.map #[] 0)).heap[j]?:=fun j hj=>(e3 j (by omega)).trans (hB1.block j hj)
 refine ⟨?_,?_,⟨0,Nat.le_refl _,?_⟩,⟨0,fun _=>none,Nat.le_refl _,?_,insK_start _ _⟩,⟨n,hF.at1B (e3 _ hFl)⟩,hK.alloc _,heap_alloc_new w3 _,?_,⟨by omega,hFl,by omega,hKl,by simp⟩⟩
 ·rw [e1 _ (by omega),Below.heap_alloc _ _ _ (by simp;omega),Below.heap_alloc _ _ _ (by simp)]
  exact heap_alloc_new w _
 ·rw [Below.heap_alloc _ _ _ (by omega),hB3.block _ (by omega)]
  exact heap_alloc_new w1 _
 ·have h:=(MapAt.made (w.alloc (.cells #[.map none,.map none,.map none] 322)) Tryz.prog 9).alloc (.map #[] 0)
  rw [Z1h] at h
  exact (h.at1B (e1 _ (by omega))).ext (fun l=>by unfold cntO cntK;simp)
 ·have h:=MapAt.made ((w.alloc (.cells #[.map none,.map none,.map none] 322)).alloc (.map #[] 0)) Tryz.prog 358
  rw [Z1h,Z1h] at h
  exact h.at1B (e1 _ (by omega))
 ·have hb0:Below w.heap.size w (((w.alloc (.cells #[.map none,.map none,.map none] 322)).alloc (.map #[] 0)).alloc (.map #[] 0)):=(((Below.refl _ _).alloc (Nat.le_refl _) _).alloc (by simp) _).alloc (by simp;omega) _
  have hb1:=hb0.trans (hB1.mono (by omega))
  have hb2:=hb1.alloc hb1.size (.cells #[.map (some (w.heap.size+1)),.map (some (w.heap.size+2)),.map (some (w.heap.size+3))] 322)
  have hb3:=hb2.trans (hB3.mono (by have:=hb1.size;omega))
  exact hb3.alloc hb3.size _
theorem Z0r {w w':World}{base e size n:Nat}{v:Value}{xs:List Value}(h:w.ownsRow base e size v n xs)(hb:Below w.heap.size w w'):w'.ownsRow base e size v n xs:=Z2z h (fun j hj=>hb.block j (h.lt j hj).2)
theorem newBook_any (m:Int)(w:World)(hm:w.cell? ⟨0,0,none⟩=some (.int .i64 m))(h0:0<w.heap.size) :
  Calls Tryz.prog 229 #[] w fun e w'=>∃ fb,e=.returned (.agg #[.map (some (w.heap.size+1)),.map (some (w.heap.size+2)),.map (some fb)])∧∃ bb kb rb wr,NB w wr fb bb kb rb 111 111∧wr.grownBy w' (some w.heap.size):=by
 have hmm:=@run_makeMap Tryz.prog
 have HF:=Z0a (Z5c (((w.alloc (.cells #[.map none,.map none,.map none] 322)).alloc (.map #[] 0)).alloc (.map #[] 0)))
 have hz:(((w.alloc (.cells #[.map none,.map none,.map none] 322)).alloc (.map #[] 0)).alloc (.map #[] 0)).heap.size=w.heap.size+3:=by simp
 rw [hz] at HF
 go_enter Tryz.func229,Tryz.ntmps229
 go_wp2_with fail
 refine HF.out.mono ?_
 rintro e w1 ⟨rfl,hM,hB1⟩
 have HK:=Z0a (kinds_any (w1.alloc (.cells #[.map (some (w.heap.size+1)),.map (some (w.heap.size+2)),.map (some (w.heap.size+3))] 322)))
 rw [Z1h] at HK
 have HM:=Z0a (And.intro hM hB1)
 clear hM hB1 HF
 go_wp2_with fail
 refine HK.out.mono ?_
 rintro e w3 ⟨rfl,hK,hB3⟩
 have HNB:=Z0a (nb_start HM.out.1 HM.out.2 hK hB3)
 clear hK hB3 HK HM
 go_wp2_with fail
 refine (rows_any _).mono ?_
 rintro e w4 ⟨rfl,rfl⟩
 go_wp2_with fail
 go_loopw [15] (fun i wr=>∃ k:Nat,k≤111∧i=.int .i64 k∧NB w wr (w.heap.size+3) w1.heap.size (w1.heap.size+1) w3.heap.size k k) (fun i _=>111-(intOf i).toNat)
 case atStart=>exact ⟨0,by omega,rfl,HNB.out⟩
 case round =>
  clear HNB
  obtain ⟨k,hk,rfl,hN⟩:=hrel
  obtain ⟨d1,d2,d3,d4,d5⟩:=hN.d
  by_cases hlt:k<111
  ·have hki:(k:Int)<111:=by omega
   have hrl:rowsL.length=111:=by decide +kernel
   have hkl:k<rowsL.length:=by omega
   have hrr:rowAt k=rowsL[k]:=by unfold rowAt;rw [List.getD_eq_getElem?_getD,List.getElem?_eq_getElem hkl];rfl
   have hg:=row_good (List.getElem_mem hkl)
   obtain ⟨a0,a1,a2⟩:=rowCells_at k hlt
   rw [hrr] at a0 a1 a2
   have c0:wr.cell? ⟨w3.heap.size,k*3,none⟩=some (.int .u8 (rowsL[k]).1):=by rw [cell_of_row _ _ _ _ _ (0,0) hN.rws,Nat.mul_comm];exact a0
   have c1:wr.cell? ⟨w3.heap.size,k*3+1,none⟩=some (.int .u8 (rowsL[k]).2.1):=by rw [cell_of_row _ _ _ _ _ (0,0) hN.rws,Nat.mul_comm];exact a1
   have c2:wr.cell? ⟨w3.heap.size,k*3+2,none⟩=some (.string ⟨(rowsL[k]).2.2.toArray⟩):=by rw [cell_of_row _ _ _ _ _ (0,0) hN.rws,Nat.mul_comm];exact a2
   have HP9:=Z0a (fun wx (hx:NB w wx (w.heap.size+3) w1.heap.size (w1.heap.size+1) w3.heap.size k k)=>parts_row rowsL[k] hg m (w1.heap.size+1) wx hx.km (by rw [hx.below.cell (by simpa using h0)];exact hm) (by have:=hx.d;omega))
   have HI9:=Z0a (fun base v wx (hrow:wx.ownsRow base 233 5 v (opsOf rowsL[k]).length (Z0u (opsOf rowsL[k])))=>newIns_row rowsL[k] hg base v wx hrow)
   have HKD:=Z0a (rowKd_le hg)
   have hnm:=rowNm_le hg
   have HCP:=Z0a (cnt_put k hkl)
   have HCK:=Z0a (fun l=>cntK_le k l)
   have HPUT:=Z0a (fun wx rb f (h:InsK wx rb k f)=>h.put hkl)
   obtain ⟨r,hr⟩:∃ r,rowsL[k]=r:=⟨_,rfl⟩
   rw [hr] at c0 c1 c2 HP9 HI9 HKD hnm HCP HPUT
   clear a0 a1 a2 hrr hg hr hrl hkl
   obtain ⟨rc,rf,rt⟩:=r
   simp only at c0 c1 c2 HP9 HI9 HKD hnm HCP HPUT
   obtain ⟨W1,hW1⟩:∃ W1,wr.alloc (.cells #[.int .u8 rc,.int .u8 rf,.string ⟨rt.toArray⟩] 222)=W1:=⟨_,rfl⟩
   have hBW1:Below wr.heap.size wr W1:=by rw [←hW1];exact (Below.refl _ _).alloc (Nat.le_refl _) _
   have hN1:=hN.grow hBW1
   have hW1z:W1.heap.size=wr.heap.size+1:=by rw [←hW1];simp
   have hb1:W1.heap[wr.heap.size]?=some (.cells #[.int .u8 rc,.int .u8 rf,.string ⟨rt.toArray⟩] 222 (0,0)):=by rw [←hW1];exact heap_alloc_new wr _
   have q0:W1.cell? ⟨wr.heap.size,0,none⟩=some (.int .u8 rc):=by rw [cell_of_row _ _ _ _ _ (0,0) hb1];rfl
   have q1:W1.cell? ⟨wr.heap.size,1,none⟩=some (.int .u8 rf):=by rw [cell_of_row _ _ _ _ _ (0,0) hb1];rfl
   have q2:W1.cell? ⟨wr.heap.size,2,none⟩=some (.string ⟨rt.toArray⟩):=by rw [cell_of_row _ _ _ _ _ (0,0) hb1];rfl
   have HN1:=Z0a (And.intro hN1 hb1)
   obtain ⟨NM,hNM⟩:∃ NM:ByteArray,⟨(Z1V rt).toArray⟩=NM:=⟨_,rfl⟩
   obtain ⟨KS,hKS⟩:∃ KS,Z1J rt=KS:=⟨_,rfl⟩
   have hNMl:Z1V rt=NM.data.toList:=by rw [←hNM]
   rw [hNMl] at HCP
   rw [hNM] at HP9 hnm HPUT
   rw [hKS] at HI9 HKD HPUT
   have HBR:=Z0a hBW1
   clear hN hN1 hb1 hBW1 hNM hKS hNMl
   go_wp2_with fail
   refine (HP9.out _ HN1.out.1).mono ?_
   rintro e w5 ⟨v,rfl,hrow,hB5⟩
   have hb5:w5.heap[wr.heap.size]?=some (.cells #[.int .u8 rc,.int .u8 rf,.string ⟨rt.toArray⟩] 222 (0,0)):=(hB5.block _ (by omega)).trans HN1.out.2
   have q5:w5.cell? ⟨wr.heap.size,0,none⟩=some (.int .u8 rc):=by rw [cell_of_row _ _ _ _ _ (0,0) hb5];rfl
   obtain ⟨va,vc,ev⟩:=Z0z hrow
   have HROW:=Z0a hrow
   have HB5:=Z0a hB5
   subst ev
   clear hrow hB5 hb5 HP9 q0 q1 q2 c0 c1 c2
   go_wp2_with fail
   refine (HI9.out _ _ _ HROW.out).mono ?_
   rintro e w6 ⟨kv,rfl,hkrow,hg6⟩
   obtain ⟨ka,kc,ek⟩:=Z0z hkrow
   have hB6:Below W1.heap.size W1 w6:=⟨hg6.os.trans HB5.out.os,hg6.tape.trans HB5.out.tape,hg6.output.trans HB5.out.output,Nat.le_trans HB5.out.size hg6.size,fun j hj=>(hg6.block j (Nat.lt_of_lt_of_le hj HB5.out.size) (fun e=>by have:=(HROW.out.lt j e.symm).1;omega)).trans (HB5.out.block j hj)⟩
   obtain ⟨Z,hZ⟩:∃ Z:Nat,Z6X KS=Z:=⟨_,rfl⟩
   rw [hZ]
   unfold insV
   obtain ⟨W7,hW7⟩:∃ W7,w6.alloc (.cells #[.int .u8 rc,kv,.int .i64 (Z:Int)] 251)=W7:=⟨_,rfl⟩
   have hBW7:Below w6.heap.size w6 W7:=by rw [←hW7];exact (Below.refl _ _).alloc (Nat.le_refl _) _
   have hW7z:W7.heap.size=w6.heap.size+1:=by rw [←hW7];simp
   have hN7:=(HN1.out.1.grow hB6).grow hBW7
   have hk7:=Z0r hkrow hBW7
   have hb7:W7.heap[w6.heap.size]?=some (.cells #[.int .u8 rc,kv,.int .i64 (Z:Int)] 251 (0,0)):=by rw [←hW7];exact heap_alloc_new w6 _
   have t0:W7.cell? ⟨w1.heap.size,0,none⟩=some (.map (some (w.heap.size+1))):=by rw [cell_of_row _ _ _ _ _ (0,0) hN7.bk];rfl
   have hkey:keyOf Tryz.prog 9 (.string NM)=some (.string NM.data.toList):=keyOf_string_mk Tryz.underlying9 (by unfold maxLen;omega)
   obtain ⟨nc,hnc,hMc⟩:=hN7.cn
   obtain ⟨c,hc⟩:∃ c:Nat,cntK k NM.data.toList=c:=⟨_,rfl⟩
   have hc1:(c:Int)≤111:=by have:=HCK.out NM.data.toList;omega
   have hlk:Z5A false (.int .i64 0) (cntO k NM.data.toList)=.int .i64 (c:Int):=by rw [cnt_look,hc]
   rw [hc] at HCP
   have h6l:w3.heap.size<w6.heap.size:=by have:=hB6.size;omega
   have HN7:=Z0a hN7
   have HK7:=Z0a (And.intro hk7 hb7)
   have HMC:=Z0a hMc
   have HKEY:=Z0a hkey
   have HLK:=Z0a hlk
   have HW5:Hid (W1.heap.size≤w5.heap.size):=HB5.out.size
   have HZ:=Z0a hZ
   subst ek
   clear hg6 hkrow hB6 hBW7 hN7 hk7 hb7 hkey hMc hlk hZ hc HI9 HB5 HROW q5 HN1 HCK HBR
   go_wp2_with (first
    | (at_lookup;refine wpList_look _ rfl _ _ 242 false rfl 9 3 strK Tryz.underlying242 _ (Z8i _) (w.heap.size+1) nc _ rfl HMC.out (.string NM) _ rfl HKEY.out (.int .i64 (c:Int)) HLK.out ?_)
    | (at_mapUpdate;refine Z0U _ rfl _ _ _ 242 rfl 9 3 strK Tryz.underlying242 (w.heap.size+1) nc _ rfl HMC.out (by unfold maxLen;omega) _ (.int .i64 ((c:Int)+1)) _ rfl rfl HKEY.out ?_;intro w8 hM8 hg8))
   have hN8:=HN7.out.count hg8 ⟨_,by have:=Z2W nc (cntO k NM.data.toList);omega,hM8.ext HCP.out⟩
   have hkb:∀ g,(Value.slice ka KS.length kc).ownBlock=some g→w5.heap.size≤g∧g<W7.heap.size:=fun g e=>HK7.out.1.lt g e
   have hw5:=HW5.out
   have key8:∀ j,j<W7.heap.size→j≠w.heap.size+1→w8.heap[j]?=W7.heap[j]?:=fun j hj hne=>hg8.block j hj (fun e=>hne (Option.some.inj e))
   have hb8:w8.heap[w6.heap.size]?=some (.cells #[.int .u8 rc,.slice ka KS.length kc,.int .i64 (Z:Int)] 251 (0,0)):=(key8 _ (by omega) (by omega)).trans HK7.out.2
   have hk8:=Z2z (w':=w8) HK7.out.1 (fun g e=>key8 g (hkb g e).2 (by have:=(hkb g e).1;omega))
   have u1:w8.cell? ⟨w1.heap.size,1,none⟩=some (.map (some (w.heap.size+2))):=by rw [cell_of_row _ _ _ _ _ (0,0) hN8.bk];rfl
   have m0:w8.cell? ⟨w6.heap.size,0,none⟩=some (.int .u8 rc):=by rw [cell_of_row _ _ _ _ _ (0,0) hb8];rfl
   have m1:w8.cell? ⟨w6.heap.size,1,none⟩=some (.slice ka KS.length kc):=by rw [cell_of_row _ _ _ _ _ (0,0) hb8];rfl
   have m2:w8.cell? ⟨w6.heap.size,2,none⟩=some (.int .i64 (Z:Int)):=by rw [cell_of_row _ _ _ _ _ (0,0) hb8];rfl
   obtain ⟨E,hE⟩:∃ E,Z49 NM KS=E:=⟨_,rfl⟩
   have hkeyE:=Z4L NM KS (by omega) HKD.out.1 HKD.out.2
   have HNE:Hid (Calls Tryz.prog 270 #[.string NM,.slice ka KS.length kc] w8.drew fun e w'=>e=.returned E∧Below w8.heap.size w8 w'):=(Z5n NM w5.heap.size (.slice ka KS.length kc) KS w8.drew HKD.out.1 (Z2z (w':=w8.drew) hk8 (fun _ _=>rfl))).mono fun e w' ⟨h1,h2⟩=>⟨by rw [h1,hE],⟨h2.os,h2.tape,h2.output,h2.size,h2.block⟩⟩
   rw [hE] at hkeyE
   obtain ⟨ni,fi,hni,hMi,hKi⟩:=hN8.ins
   have hl8:w6.heap.size<w8.heap.size:=by have:=hg8.size;omega
   have HST:Hid (∀ w9,Below w8.heap.size w8 w9→∃ w10,(Instr.mapUpdate 319 (.map (some (w.heap.size+2))) E (.agg #[.int .u8 rc,.slice ka KS.length kc,.int .i64 (Z:Int)])).run Tryz.prog w9=.ok () w10∧NB w w10 (w.heap.size+3) w1.heap.size (w1.heap.size+1) w3.heap.size (k+1) (k+1)∧w9.grownBy w10 (some (w.heap.size+2))):=fun w9 hB9=>by
    have hd8:=hN8.d
    have hM9:=hMi.at1B (hB9.block _ (by omega))
    obtain ⟨w10,hrun,hM10,hg10⟩:=hM9.store (val:=insV rc (.slice ka KS.length kc) (Z:Int)) entKeyed Tryz.underlying319 (by unfold maxLen;omega) hkeyE
    have hz9:=hB9.size
    have key10:∀ j,j<w8.heap.size→j≠w.heap.size+2→w10.heap[j]?=w8.heap[j]?:=fun j hj hne=>(hg10.block j (by omega) (fun e=>hne (Option.some.inj e))).trans (hB9.block j hj)
    have hk10:=Z0O (Z2z (w':=w10) hk8 (fun g e=>key10 g (hk8.lt g e).2 (by have:=(hkb g e).1;omega))) (Nat.zero_le _)
    have hput:=HPUT.out w10 w3.heap.size fi (hKi.keep (fun j h1 h2=>key10 j h2 (by omega))) (.slice ka KS.length kc) hk10 (fun j e=>by have:=(hkb j e).1;omega)
    rw [HZ.out] at hput
    exact ⟨w10,hrun,(hN8.grow hB9).lay hg10 ⟨_,_,by have:=Z2W ni (fi (Z1x NM KS));omega,hM10,hput⟩,hg10⟩
   have hne1:¬ w.heap.size+2=w1.heap.size:=by omega
   have hne6:¬ w.heap.size+2=w6.heap.size:=by omega
   have hl1:w1.heap.size<w8.heap.size:=by omega
   clear hM8 hg8 hN8 hkb hw5 key8 hb8 hk8 hkeyE hE hMi hKi hni HN7 HK7 HMC HKEY HLK HPUT HCP HZ HKD t0
   go_region_held3 (fun w'=>w'.cell? ⟨w1.heap.size,1,none⟩=some (.map (some (w.heap.size+2)))∧w'.cell? ⟨w6.heap.size,0,none⟩=some (.int .u8 rc)∧w'.cell? ⟨w6.heap.size,1,none⟩=some (.slice ka KS.length kc)∧w'.cell? ⟨w6.heap.size,2,none⟩=some (.int .i64 (Z:Int))) (go_keep) (first | (go_at_call 270;refine HNE.out.mono ?_;rintro e w9 ⟨rfl,hB9⟩;obtain ⟨w10,hrun,hNN,hg10⟩:=HST.out w9 hB9;have v1:=(World.cell?_of_block (a:=⟨w1.heap.size,1,none⟩) (hB9.block _ hl1)).trans u1;have v2:=(World.cell?_of_block (a:=⟨w6.heap.size,0,none⟩) (hB9.block _ hl8)).trans m0;have v3:=(World.cell?_of_block (a:=⟨w6.heap.size,1,none⟩) (hB9.block _ hl8)).trans m1;have v4:=(World.cell?_of_block (a:=⟨w6.heap.size,2,none⟩) (hB9.block _ hl8)).trans m2;have x1:=(World.cell?_of_block (a:=⟨w1.heap.size,1,none⟩) (hg10.block _ (Nat.lt_of_lt_of_le hl1 hB9.size) (fun e=>hne1 (Option.some.inj e).symm))).trans v1;have x2:=(World.cell?_of_block (a:=⟨w6.heap.size,0,none⟩) (hg10.block _ (Nat.lt_of_lt_of_le hl8 hB9.size) (fun e=>hne6 (Option.some.inj e).symm))).trans v2;have x3:=(World.cell?_of_block (a:=⟨w6.heap.size,1,none⟩) (hg10.block _ (Nat.lt_of_lt_of_le hl8 hB9.size) (fun e=>hne6 (Option.some.inj e).symm))).trans v3;have x4:=(World.cell?_of_block (a:=⟨w6.heap.size,2,none⟩) (hg10.block _ (Nat.lt_of_lt_of_le hl8 hB9.size) (fun e=>hne6 (Option.some.inj e).symm))).trans v4;have HNN:=Z0a hNN;clear hB9 hg10 hNN))
   all_goals
    go_wp2
    go_roundw
    case rel=>exact ⟨k+1,by omega,by go_num,HNN.out⟩
    case measure=>simp [intOf];omega
  ·have hki:¬ (k:Int)<111:=by omega
   have ek:k=111:=by omega
   subst ek
   have b0:wr.cell? ⟨w1.heap.size,0,none⟩=some (.map (some (w.heap.size+1))):=by rw [cell_of_row _ _ _ _ _ (0,0) hN.bk];rfl
   have b1:wr.cell? ⟨w1.heap.size,1,none⟩=some (.map (some (w.heap.size+2))):=by rw [cell_of_row _ _ _ _ _ (0,0) hN.bk];rfl
   have b2:wr.cell? ⟨w1.heap.size,2,none⟩=some (.map (some (w.heap.size+3))):=by rw [cell_of_row _ _ _ _ _ (0,0) hN.bk];rfl
   have p0:wr.cell? ⟨w.heap.size,0,none⟩=some (.map none):=by rw [cell_of_row _ _ _ _ _ (0,0) hN.hd];rfl
   have p1:wr.cell? ⟨w.heap.size,1,none⟩=some (.map none):=by rw [cell_of_row _ _ _ _ _ (0,0) hN.hd];rfl
   have p2:wr.cell? ⟨w.heap.size,2,none⟩=some (.map none):=by rw [cell_of_row _ _ _ _ _ (0,0) hN.hd];rfl
   have f0:=frozen_of_row wr w.heap.size 0 _ _ hN.hd
   have f1:=frozen_of_row wr w.heap.size 1 _ _ hN.hd
   have f2:=frozen_of_row wr w.heap.size 2 _ _ hN.hd
   have HN:=Z0a hN
   clear hN
   go_wp2_with fail
   refine bodyPost_ret (v:=.agg #[.map (some (w.heap.size+1)),.map (some (w.heap.size+2)),.map (some (w.heap.size+3))]) (by simp [results,Tryz.results229,go_sem,p0,p1,p2]) rfl ⟨w.heap.size+3,rfl,w1.heap.size,w1.heap.size+1,w3.heap.size,wr,HN.out,?_⟩
   exact ⟨rfl,rfl,rfl,by simp [World.setCell],fun j hj hne=>by
    have hj':j≠w.heap.size:=fun e=>hne (by rw [e])
    rw [heap_setCell_other _ ⟨w.heap.size,2,none⟩ j _ hj',heap_setCell_other _ ⟨w.heap.size,1,none⟩ j _ hj',heap_setCell_other _ ⟨w.heap.size,0,none⟩ j _ hj']⟩
theorem Z1o {P:Program}(w:World){ops:Array Oper}{rest:List Oper}{o:Oper}{a:Act}{Q:Exit→Act→World→Prop}
  (hg:o.guard=none) (m x v:Operand) (t:TypeId) (hop:o.op=Op.insert t m x v)
  (k e:TypeId) (K:Keyed P k) (ht:P.underlying t=some (.map k e)) (b n:Nat) (f:List UInt8→Option Value)
  (hm:a.eval m=.map (some b)) (hown:MapAt P k w b n f) (hn:n<maxLen) (key val:Value) (l:List UInt8) (hx:a.eval x=key) (hv:a.eval v=val) (hkey:keyOf P k key=some (.string l))
  (hK:∀ w',MapAt P k w' b (putN n (f l)) (putF f l val)→w.grownBy w' (some b)→wpList P ops Q rest (a.put o.dst undef) w'):wpList P ops Q (o :: rest) a w:=by
 refine wpList_plain hg fun K' hK'=>?_
 obtain ⟨w',hrun,r1,r2⟩:=hown.store (val:=val) K ht hn hkey
 unfold Oper.wp
 simp [execOp,hop,hm,hx,hv,hrun,Result.andThen]
 exact hK' _ _ (hK w' r1 r2)
theorem dir_ext (l:List UInt8):putF (putF (putF (putF (putF (fun _=>none) [79,82,71] (.int .i64 1)) [68,66] (.int .i64 2)) [68,87] (.int .i64 3)) [68,83] (.int .i64 4)) [69,81,85] (.int .i64 5) l=((fun l=>(dirO l).map fun t=>.int .i64 t):List UInt8→Option Value) l:=by
 by_cases h1:l=[79,82,71]
 ·subst h1;rfl
 by_cases h2:l=[68,66]
 ·subst h2;rfl
 by_cases h3:l=[68,87]
 ·subst h3;rfl
 by_cases h4:l=[68,83]
 ·subst h4;rfl
 by_cases h5:l=[69,81,85]
 ·subst h5;rfl
 have e:dirO l=none:=by
  unfold dirO
  have:dirL.find? (fun x=>x.1 == l)=none:=by
   rw [List.find?_eq_none]
   intro x hx
   simp only [dirL,List.mem_cons,List.not_mem_nil,or_false] at hx
   rcases hx with rfl | rfl | rfl | rfl | rfl
   all_goals
    simp only [beq_iff_eq]
    intro e
    simp_all
  rw [this]
  rfl
 unfold putF
 rw [if_neg h5,if_neg h4,if_neg h3,if_neg h2,if_neg h1]
 simp [e]
theorem Z7h (w:World) :
  Calls Tryz.prog 230 #[] w fun e w'=>e=.returned (.map (some w.heap.size))∧MapAt Tryz.prog 9 w' w.heap.size 5 (fun l=>(dirO l).map fun t=>.int .i64 t)∧Below w.heap.size w w':=by
 have hmm:=@run_makeMap Tryz.prog
 go_enter Tryz.func230,Tryz.ntmps230
 go_wp2_with (
  refine Z1o _ rfl _ _ _ 324 rfl 9 247 strK Tryz.underlying324 w.heap.size 0 _ rfl (MapAt.made _ _ _) (by decide) (.string ⟨#[79,82,71]⟩) (.int .i64 1) [79,82,71] rfl rfl (keyOf_string_mk Tryz.underlying9 (by decide)) ?_
  intro w1 m1 g1
  refine Z1o _ rfl _ _ _ 324 rfl 9 247 strK Tryz.underlying324 w.heap.size 1 _ rfl m1 (by decide) (.string ⟨#[68,66]⟩) (.int .i64 2) [68,66] rfl rfl (keyOf_string_mk Tryz.underlying9 (by decide)) ?_
  intro w2 m2 g2
  refine Z1o _ rfl _ _ _ 324 rfl 9 247 strK Tryz.underlying324 w.heap.size 2 _ rfl m2 (by decide) (.string ⟨#[68,87]⟩) (.int .i64 3) [68,87] rfl rfl (keyOf_string_mk Tryz.underlying9 (by decide)) ?_
  intro w3 m3 g3
  refine Z1o _ rfl _ _ _ 324 rfl 9 247 strK Tryz.underlying324 w.heap.size 3 _ rfl m3 (by decide) (.string ⟨#[68,83]⟩) (.int .i64 4) [68,83] rfl rfl (keyOf_string_mk Tryz.underlying9 (by decide)) ?_
  intro w4 m4 g4
  refine Z1o _ rfl _ _ _ 324 rfl 9 247 strK Tryz.underlying324 w.heap.size 4 _ rfl m4 (by decide) (.string ⟨#[69,81,85]⟩) (.int .i64 5) [69,81,85] rfl rfl (keyOf_string_mk Tryz.underlying9 (by decide)) ?_
  intro w5 m5 g5)
 go_ret
 have b0:Below w.heap.size w (w.alloc (.map #[] 0)):=(Below.refl _ _).alloc (Nat.le_refl _) _
 have b1:=b0.grown g1 (by have:=b0.size;omega) (fun k hk=>by cases hk;exact Nat.le_refl _)
 have b2:=b1.grown g2 (by have:=b1.size;omega) (fun k hk=>by cases hk;exact Nat.le_refl _)
 have b3:=b2.grown g3 (by have:=b2.size;omega) (fun k hk=>by cases hk;exact Nat.le_refl _)
 have b4:=b3.grown g4 (by have:=b3.size;omega) (fun k hk=>by cases hk;exact Nat.le_refl _)
 have b5:=b4.grown g5 (by have:=b4.size;omega) (fun k hk=>by cases hk;exact Nat.le_refl _)
 exact ⟨rfl,m5.ext dir_ext,b5⟩
theorem book_of_nb {w wr w2 w':World}{fb bb kb rb db:Nat}(h:NB w wr fb bb kb rb 111 111)(hg:wr.grownBy w2 (some w.heap.size))(hb:Below w2.heap.size w2 w')(hd:MapAt Tryz.prog 9 w' db 5 (fun l=>(dirO l).map fun t=>.int .i64 t)):BookAt w' ⟨w.heap.size+1,w.heap.size+2,fb,db⟩∧InsAt w' ⟨w.heap.size+1,w.heap.size+2,fb,db⟩ wr.heap.size:=by
 obtain ⟨d1,d2,d3,d4,d5⟩:=h.d
 have hz:=hg.size
 have key:∀ j,j<wr.heap.size→j≠w.heap.size→w'.heap[j]?=wr.heap[j]?:=fun j hj hne=>(hb.block j (by omega)).trans (hg.block j hj (fun e=>hne (Option.some.inj e)))
 have hrl:rowsL.length=111:=by decide +kernel
 obtain ⟨n,hn,hc⟩:=h.cn
 obtain ⟨ni,f,hni,hi,hK⟩:=h.ins
 obtain ⟨nf,hf⟩:=h.fx
 refine ⟨⟨⟨_,n,hc.at1B (key _ (by omega) (by omega)),fun l=>?_⟩,⟨nf,hf.at1B (key _ (by omega) (by omega))⟩,hd⟩,f,ni,hi.at1B (key _ (by omega) (by omega)),fun s ks h1 h2 h3=>?_⟩
 ·have:=cnt_end l
  rw [hrl] at this
  exact this
 ·have:=hK s ks h1 h2 h3
  rw [←hrl,insK_end] at this
  cases hO:insO s.data.toList ks with
  | none =>
   rw [hO] at this
   exact this
  | some d =>
   rw [hO] at this
   obtain ⟨v,q1,q2,q3⟩:=this
   exact ⟨v,q1,Z2z q2 (fun j hj=>key j (q2.lt j hj).2 (by have:=q3 j hj;omega)),fun j hj=>(q2.lt j hj).2⟩
theorem Z8p (m:Int)(w:World)(hm:w.cell? ⟨0,0,none⟩=some (.int .i64 m))(h0:0<w.heap.size) :
  Calls Tryz.prog 184 #[] w fun e w'=>∃ pb,e=.returned (.pointer (some ⟨pb,0,none⟩))∧∃ b,(P0 w' pb b∧BookAt w' b∧InsAt w' b pb)∧(b.cb<pb∧b.fb<pb∧b.db<pb∧b.ib<pb)∧(w.heap.size<b.cb∧w.heap.size<b.fb∧w.heap.size<b.db∧w.heap.size<b.ib)∧Below w.heap.size w w':=by
 have HB:=Z0a (newBook_any m w hm h0)
 clear hm h0
 go_enter Tryz.func184,Tryz.ntmps184
 go_wp2_with fail
 refine HB.out.mono ?_
 rintro e w2 ⟨fb,rfl,bb,kb,rb,wr,hN,hg⟩
 have HN:=Z0a (And.intro hN hg)
 have HD:=Z0a (Z7h w2)
 clear hN hg HB
 go_wp2_with fail
 refine HD.out.mono ?_
 rintro e w3 ⟨rfl,hM,hB3⟩
 have HM:=Z0a (And.intro hM hB3)
 clear hM hB3 HD
 go_wp2
 go_ret
 obtain ⟨hN,hg⟩:=HN.out
 obtain ⟨hM,hB3⟩:=HM.out
 obtain ⟨d1,d2,d3,d4,d5⟩:=hN.d
 have hz:=hg.size
 have hz3:=hM.lt
 have hBw:Below w.heap.size w w2:=⟨hg.os.trans hN.below.os,hg.tape.trans hN.below.tape,hg.output.trans hN.below.output,Nat.le_trans hN.below.size hz,fun k hk=>(hg.block k (by omega) (fun e=>by have:=Option.some.inj e;omega)).trans (hN.below.block k hk)⟩
 have hB23:=hBw.trans (hB3.mono hBw.size)
 obtain ⟨b1,b2⟩:=book_of_nb hN hg (hB3.alloc hB3.size (.cells #[.map (some (w.heap.size+1)),.map (some (w.heap.size+2)),.map (some fb),.map (some w2.heap.size),.int .i64 0,.slice none 0 0] 328)) (hM.alloc _)
 have hh:=heap_alloc_new w3 (.cells #[.map (some (w.heap.size+1)),.map (some (w.heap.size+2)),.map (some fb),.map (some w2.heap.size),.int .i64 0,.slice none 0 0] 328)
 have hc:∀ j u,#[.map (some (w.heap.size+1)),.map (some (w.heap.size+2)),.map (some fb),.map (some w2.heap.size),.int .i64 0,.slice none 0 0][j]?=some u→(w3.alloc (.cells #[.map (some (w.heap.size+1)),.map (some (w.heap.size+2)),.map (some fb),.map (some w2.heap.size),.int .i64 0,.slice none 0 0] 328)).cell? ⟨w3.heap.size,j,none⟩=some u:=fun j u hu=>by rw [cell_of_row _ _ _ _ _ (0,0) hh];exact hu
 refine ⟨w3.heap.size,rfl,⟨w.heap.size+1,w.heap.size+2,fb,w2.heap.size⟩,⟨⟨hc 0 _ rfl,hc 1 _ rfl,hc 2 _ rfl,hc 3 _ rfl,⟨0,hc 4 _ rfl⟩,⟨none,0,0,hc 5 _ rfl⟩,frozen_of_row _ _ _ _ _ hh,frozen_of_row _ _ _ _ _ hh,by simp⟩,b1,?_⟩,⟨by simp only;omega,by simp only;omega,hz3,by simp only;omega⟩,⟨by simp only;omega,by simp only;omega,by simp only;omega,by simp only;omega⟩,hB23.alloc hB23.size _⟩
 obtain ⟨f,n,q1,q2⟩:=b2
 refine ⟨f,n,q1,fun s ks h1 h2 h3=>?_⟩
 have:=q2 s ks h1 h2 h3
 split at this
 ·exact this
 ·obtain ⟨v,p1,p2,p3⟩:=this
  exact ⟨v,p1,p2,fun j hj=>by have:=p3 j hj;omega⟩
def Z1S (tk vn sz:Nat):Nat:=if tk=2 then vn else if tk=3 then 2*vn else if tk=6 then sz else 0
theorem insSize_any (w:World)(cd:Int)(ka:Option Addr)(kn kc:Nat)(sz:Int) :
  Calls Tryz.prog 241 #[.agg #[.int .u8 cd,.slice ka kn kc,.int .i64 sz]] w fun e w'=>e=.returned (.int .i64 sz)∧Below w.heap.size w w':=by
 go_enter Tryz.func241,Tryz.ntmps241
 go_wp2
 go_ret
 exact ⟨rfl,(Below.refl _ _).alloc (Nat.le_refl _) _⟩
theorem Z7z (w:World)(l0 p0:Int)(lb:ByteArray)(tk:Nat)(nm:ByteArray)(va:Option Addr)(vn vc:Nat)(cd:Int)(ka:Option Addr)(kn kc sz:Nat)(hv:vn≤1000000) :
  Calls Tryz.prog 187 #[.agg #[.int .i64 l0,.int .i64 p0,.string lb,.int .i64 tk,.string nm,.slice va vn vc,.int .u8 cd,.slice ka kn kc,.int .i64 sz]] w fun e w'=>e=.returned (.int .i64 (Z1S tk vn sz:Nat))∧Below w.heap.size w w':=by
 have hvi:(vn:Int)≤1000000:=by omega
 have HI:=Z0a (fun w'=>insSize_any w' cd ka kn kc (sz:Int))
 unfold Z1S
 by_cases h2:tk=2
 ·subst h2
  rw [if_pos rfl]
  go_enter Tryz.func187,Tryz.ntmps187
  go_wp2
  go_ret
  exact ⟨rfl,(Below.refl _ _).alloc (Nat.le_refl _) _⟩
 ·rw [if_neg h2]
  by_cases h3:tk=3
  ·subst h3
   rw [if_pos rfl]
   go_enter Tryz.func187,Tryz.ntmps187
   go_wp2
   go_ret
   exact ⟨by simp,(Below.refl _ _).alloc (Nat.le_refl _) _⟩
  ·rw [if_neg h3]
   by_cases h6:tk=6
   ·subst h6
    rw [if_pos rfl]
    go_enter Tryz.func187,Tryz.ntmps187
    go_wp2_with fail
    refine (HI.out _).mono ?_
    rintro e w1 ⟨rfl,hB⟩
    go_wp2
    go_ret
    exact ⟨rfl,((Below.refl _ _).alloc (Nat.le_refl _) _).trans (hB.mono (by simp))⟩
   ·rw [if_neg h6]
    have i2:¬ (tk:Int)=2:=by omega
    have i3:¬ (tk:Int)=3:=by omega
    have i6:¬ (tk:Int)=6:=by omega
    clear h2 h3 h6
    go_enter Tryz.func187,Tryz.ntmps187
    go_wp2
    go_ret
    exact ⟨rfl,(Below.refl _ _).alloc (Nat.le_refl _) _⟩
theorem Tryz.infoStrB:(Tryz.prog.info? 9).map (fun i=>(i.zero,i.size,i.bytes))=some (some (.string ⟨#[]⟩),1,16):=by kernel_rfl
def strV (l:List ByteArray):List Value:=l.map Value.string
def Z0Q (lb:ByteArray) (tk:Nat) (nm:ByteArray):List ByteArray:=(if lb=⟨#[]⟩ then [] else [lb])++(if tk=5 then [nm] else [])
theorem Z2q {T:ByteArray}(h:¬ T=⟨#[]⟩):T.toList.isEmpty=false:=by
 rw [ByteArray.toList_eq]
 cases e:T.data.toList with
 | nil=>exact absurd (by cases T;simp at e;simp [e]) h
 | cons a b=>rfl
theorem given_any (w : World) (l0 p0 : Int) (lb : ByteArray) (tk : Nat) (nm : ByteArray) (va : Option Addr) (vn vc : Nat) (cd : Int) (ka : Option Addr) (kn kc : Nat) (sz : Int) :
    Calls Tryz.prog 284 #[.agg #[.int .i64 l0, .int .i64 p0, .string lb, .int .i64 tk, .string nm, .slice va vn vc, .int .u8 cd, .slice ka kn kc, .int .i64 sz]] w fun e w' => ∃ v, e = .returned v ∧ w'.ownsRow w.heap.size 9 1 v (Z0Q lb tk nm).length (strV (Z0Q lb tk nm)) ∧ Below w.heap.size w w' := by
  obtain ⟨i0, hi, hz0, hz1, hz2⟩ := info_parts Tryz.infoStrB
  obtain ⟨T, hT⟩ : ∃ T : Int, (tk : Int) = T := ⟨_, rfl⟩
  rw [hT]
  obtain ⟨W, hW⟩ : ∃ W, w.alloc (.cells #[.int .i64 l0, .int .i64 p0, .string lb, .int .i64 T, .string nm, .slice va vn vc, .int .u8 cd, .slice ka kn kc, .int .i64 sz] 253) = W := ⟨_, rfl⟩
  have hBW : Below w.heap.size w W := by rw [← hW]; exact (Below.refl _ _).alloc (Nat.le_refl _) _
  have hWz : W.heap.size = w.heap.size + 1 := by rw [← hW]; simp
  have hh : W.heap[w.heap.size]? = some (.cells #[.int .i64 l0, .int .i64 p0, .string lb, .int .i64 T, .string nm, .slice va vn vc, .int .u8 cd, .slice ka kn kc, .int .i64 sz] 253 (0, 0)) := by rw [← hW]; exact heap_alloc_new w _
  have c2 : W.cell? ⟨w.heap.size, 2, none⟩ = some (.string lb) := by rw [cell_of_row _ _ _ _ _ (0, 0) hh]; rfl
  have c3 : W.cell? ⟨w.heap.size, 3, none⟩ = some (.int .i64 T) := by rw [cell_of_row _ _ _ _ _ (0, 0) hh]; rfl
  have c4 : W.cell? ⟨w.heap.size, 4, none⟩ = some (.string nm) := by rw [cell_of_row _ _ _ _ _ (0, 0) hh]; rfl
  have HB := Z0a (And.intro hBW hh)
  have h5c : (tk = 5 ∧ T = 5) ∨ (¬ tk = 5 ∧ ¬ T = 5) := by omega
  unfold Z0Q
  by_cases h1 : lb = ⟨#[]⟩
  · subst h1
    rw [if_pos rfl]
    rcases h5c with ⟨h5, rfl⟩ | ⟨h5, hT5⟩
    · rw [if_pos h5]
      clear hT h5
      clear hBW hh
      go_enter Tryz.func284, Tryz.ntmps284
      go_wp2_with (
        at_builtin
        refine wpList_append_own_at _ rfl _ _ 43 rfl w.heap.size 9 i0 _ 1 16 Tryz.underlying43 hi hz0 hz1 hz2 rfl (by decide) (.slice none 0 0) 0 [] rfl (World.ownsRow_nil _ _ _ _) ⟨w.heap.size + 1, 0, none⟩ 1 1 [.string nm] rfl rfl (by have := Z09 W [.string nm] 9; rwa [hWz] at this) (by intro u hu; simp at hu; subst hu; rfl) (by unfold maxLen; omega) (by omega) (by simp; omega) ?_
        intro v' wn hown hgr _ hloc
        obtain ⟨va', vc', ev'⟩ := Z0z hown
        subst ev')
      go_ret
      refine ⟨_, rfl, hown, ?_⟩
      exact ((HB.out.1.alloc HB.out.1.size _).grown hgr (by simp; omega) (fun k hk => by simp [Value.ownBlock] at hk))
    · rw [if_neg h5]
      clear hT h5
      clear hBW hh
      go_enter Tryz.func284, Tryz.ntmps284
      go_wp2
      go_ret
      exact ⟨_, rfl, World.ownsRow_nil _ _ _ _, HB.out.1⟩
  · have hemp := Z2q h1
    rw [if_neg h1]
    rcases h5c with ⟨h5, rfl⟩ | ⟨h5, hT5⟩
    · rw [if_pos h5]
      clear hT h5
      clear hBW hh
      go_enter Tryz.func284, Tryz.ntmps284
      go_wp2_with (first
        | (at_builtin
           refine wpList_append_own_at _ rfl _ _ 43 rfl w.heap.size 9 i0 _ 1 16 Tryz.underlying43 hi hz0 hz1 hz2 rfl (by decide) (.slice none 0 0) 0 [] rfl (World.ownsRow_nil _ _ _ _) ⟨w.heap.size + 1, 0, none⟩ 1 1 [.string lb] rfl rfl (by have := Z09 W [.string lb] 9; rwa [hWz] at this) (by intro u hu; simp at hu; subst hu; rfl) (by unfold maxLen; omega) (by omega) (by simp; omega) ?_
           intro v' wn hown hgr _ hloc
           obtain ⟨va', vc', ev'⟩ := Z0z hown
           have hb1 := (HB.out.1.alloc HB.out.1.size (.cells #[.string lb] 9)).grown hgr (by simp; omega) (fun k hk => by simp [Value.ownBlock] at hk)
           have hk1 : wn.heap[w.heap.size]? = W.heap[w.heap.size]? := by rw [hgr.block _ (by simp; omega) (by simp [Value.ownBlock]), Below.heap_alloc _ _ _ (by omega)]
           have d3 := (World.cell?_of_block (a := ⟨w.heap.size, 3, none⟩) hk1).trans c3
           have d4 := (World.cell?_of_block (a := ⟨w.heap.size, 4, none⟩) hk1).trans c4
           have HO := Z0a hown
           have HB1 := Z0a hb1
           have hz1' := hb1.size
           subst ev'
           clear hown hgr hloc hb1 hk1)
        | (at_builtin
           refine wpList_append_own_at _ rfl _ _ 43 rfl w.heap.size 9 i0 _ 1 16 Tryz.underlying43 hi hz0 hz1 hz2 rfl (by decide) (.slice va' 1 vc') 1 [.string lb] rfl (HO.out.alloc _) ⟨wn.heap.size, 0, none⟩ 1 1 [.string nm] rfl rfl (Z09 _ _ _) (by intro u hu; simp at hu; subst hu; rfl) (by unfold maxLen; omega) (by omega) (by simp; omega) ?_
           intro v2 wm hown2 hgr2 _ hloc2
           obtain ⟨va2, vc2, ev2⟩ := Z0z hown2
           subst ev2))
      go_ret
      refine ⟨_, rfl, hown2, ?_⟩
      exact (HB1.out.alloc HB1.out.size _).grown hgr2 (by simp; omega) (fun k hk => (HO.out.lt k hk).1)
    · rw [if_neg h5]
      clear hT h5
      clear hBW hh
      go_enter Tryz.func284, Tryz.ntmps284
      go_wp2_with (
        at_builtin
        refine wpList_append_own_at _ rfl _ _ 43 rfl w.heap.size 9 i0 _ 1 16 Tryz.underlying43 hi hz0 hz1 hz2 rfl (by decide) (.slice none 0 0) 0 [] rfl (World.ownsRow_nil _ _ _ _) ⟨w.heap.size + 1, 0, none⟩ 1 1 [.string lb] rfl rfl (by have := Z09 W [.string lb] 9; rwa [hWz] at this) (by intro u hu; simp at hu; subst hu; rfl) (by unfold maxLen; omega) (by omega) (by simp; omega) ?_
        intro v' wn hown hgr _ hloc
        obtain ⟨va', vc', ev'⟩ := Z0z hown
        have hk1 : wn.heap[w.heap.size]? = W.heap[w.heap.size]? := by rw [hgr.block _ (by simp; omega) (by simp [Value.ownBlock]), Below.heap_alloc _ _ _ (by omega)]
        have d3 := (World.cell?_of_block (a := ⟨w.heap.size, 3, none⟩) hk1).trans c3
        subst ev')
      go_ret
      refine ⟨_, rfl, hown, ?_⟩
      exact ((HB.out.1.alloc HB.out.1.size _).grown hgr (by simp; omega) (fun k hk => by simp [Value.ownBlock] at hk))
end Go.Proofs.YthokdbcpkmcieabGreatDoor
