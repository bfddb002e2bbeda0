"""Fitfloors: floors laid with pieces, and papers that none fit."""
