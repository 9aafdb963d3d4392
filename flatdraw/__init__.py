"""Flatdraw: webs drawn without a crossing, or knotted."""
